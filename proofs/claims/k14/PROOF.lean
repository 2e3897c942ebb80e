import PyProof.Rows.All
import Wide.All
import OpenK.AllK
import Wide.FinOn
import Lean
import PyProof.EqAt
import PyProof.EqKinds
import PyProof.TupleCall
import PyProof.Rows.SetFrom
import PyProof.Rows.SortStr
import KE.KDictSum
import KE.KEqDict
import KE.KDictLaws
import PyProof.StrOps2
import PySem.Challenge.RW_rulestable_k14_steps_there_and_back
set_option Elab.async false
set_option linter.all false
set_option maxRecDepth 100000
set_option bootstrap.genMatcherCode false
set_option tactic.hygienic false
section
abbrev VP:=PySem.Value->PySem.Shared->Prop
abbrev LO:=List (PySem.Addr×PySem.Obj)
abbrev MG:=PySem.Str->Option PySem.Value
abbrev z0:=@PySem.Heap.get?_push_of_some
abbrev z5:=@List.mem_cons_of_mem
abbrev z6:=@List.mem_cons_self
abbrev z7:=@PySem.Heap.get?_push_size
abbrev z8:=@PySem.Heap.lt_size
abbrev y0:=@List.mem_cons
abbrev y9:=@List.getElem?_eq_getElem
abbrev x0:=@List.getElem?_eq_some_iff
abbrev w4:=@Nat.le_refl
abbrev w5:=@List.size_toArray
abbrev w6:=@List.getElem?_map
abbrev w9:=@List.map_cons
abbrev v0:=@List.length_map
abbrev v5:=@Nat.lt_of_lt_of_le
abbrev v6:=@Nat.ne_of_lt
abbrev v7:=@Nat.le_trans
abbrev v8:=@List.mem_singleton
abbrev v9:=@PySem.Heap.get?_update_other
abbrev u0:=@List.not_mem_nil
abbrev u3:=@List.mem_map
abbrev u4:=@Bool.false_eq_true
abbrev u5:=@List.lookup_cons
abbrev u6:=@List.length_cons
abbrev u7:=@List.mem_append_right
abbrev u9:=@List.mem_append
abbrev t0:=@PySem.Heap.get?_update_self
abbrev t4:=@Bool.and_eq_true
abbrev t5:=@List.length_append
abbrev t6:=@Nat.lt_irrefl
abbrev t7:=@List.getElem_mem
abbrev t8:=@List.getElem?_replicate
abbrev t9:=@List.all_cons
abbrev s9:=@Array.getElem?_eq_getElem
abbrev r9:=@List.length_take
abbrev q9:=@Array.length_toList
abbrev Us:=@Nat.zero_le
abbrev RB:=@Nat.lt_of_le_of_lt
abbrev NI:=@List.getElem?_append_right
abbrev RC:=@List.length_drop
abbrev OR:=@Bool.and_eq_true_iff
abbrev Lp:=@List.getElem?_append_left
abbrev NJ:=@Array.getElem?_toList
abbrev OS:=@Bool.false_ne_true
abbrev NK:=@List.mem_of_mem_drop
abbrev Ri:=@List.find?_cons
abbrev Lq:=@List.length_replicate
abbrev OT:=@List.nodup_cons
abbrev OU:=@List.map_append
abbrev Lr:=@List.mem_of_mem_take
abbrev Ls:=@List.getElem?_append
abbrev NL:=@List.mem_range
abbrev OV:=@List.map_map
abbrev Lu:=@Bool.eq_iff_iff
abbrev HV:=@List.getElem?_eq_none
abbrev Ku:=@List.all_eq_true
abbrev HW:=@List.mem_append_left
abbrev FQ:=@List.drop_eq_getElem_cons
abbrev HX:=@List.length_range
abbrev FR:=@List.getElem?_cons_succ
abbrev FS:=@Array.getElem?_eq_none
abbrev ZZ:=@PySem.wpAny_bind
abbrev ZS:=@Option.some.inj
abbrev ZR:=@PySem.wpAny_newObj_type
abbrev ZQ:=@PySem.wpAny_call_entry
abbrev ZP:=@List.mem_of_getElem?
abbrev ZM:=@PySem.builtinLookup_eq_fast
abbrev ZL:=@PyProof.Rows.callWith_type1
abbrev ZJ:=@PySem.Heap.size_push
abbrev ZI:=@List.append_nil
abbrev ZF:=@PySem.wpAny_callSpecial?_slot
abbrev ZE:=@decide_eq_false
abbrev ZB:=@PySem.wpAny_seqItems
abbrev Zx:=@PySem.wpAny_holding
abbrev Zw:=@PySem.wpAny_field
abbrev Zv:=@PySem.Around.under_plainId
abbrev Zs:=@PySem.wpAny_setField_rec
abbrev Zr:=@PySem.W.mg_none_of
abbrev Zo:=@PySem.wpAny_specialOf
abbrev Zl:=@PySem.wpAny_setState_of
abbrev Zi:=@PySem.wpAny_updateSeq
abbrev Zh:=@PySem.typeLookup_type
abbrev Ze:=@PySem.wpAny_truthy_bool
abbrev Zc:=@PySem.plainId_quiet
abbrev Zb:=@Nat.le_add_right
abbrev Za:=@PySem.codeAny_builtin
abbrev Z9:=@PySem.wpAny_of_eq
abbrev Z7:=@PySem.mem_of_lookup
abbrev Z1:=@PySem.Heap.SameBut.update
abbrev YY:=@PySem.wpAny_isInstance
abbrev YX:=@PySem.wpAny_askSetting
abbrev YS:=@of_decide_eq_true
abbrev YQ:=@PySem.isSubtype_type
abbrev YN:=@Ne.symm
abbrev YM:=@List.take_of_length_le
abbrev YJ:=@Nat.lt_succ_self
abbrev YI:=@List.Perm.refl
abbrev YF:=@PySem.wpAny_attempt
abbrev YB:=@PySem.wpAny_rule
abbrev YA:=@PySem.wpAny_Call_Name_kw
abbrev Yz:=@Nat.ne_of_gt
abbrev Yy:=@Nat.lt_succ_of_lt
abbrev Yx:=@Nat.le_succ
abbrev Yk:=@PySem.F.plainAttrs_list
abbrev Yf:=@List.eq_nil_of_length_eq_zero
abbrev Yb:=@PySem.F.plain_extend_loop
abbrev Y9:=@beq_false_of_ne
abbrev Y8:=@PySem.W.kia_one
abbrev Y7:=@PySem.F.plain_max_loop
abbrev XZ:=@PySem.wpAny_mono
abbrev XY:=@PySem.W.mg_of
abbrev XX:=@PySem.SeqAt.canLay_of_shaped
abbrev XT:=@PySem.wpAny_passesOwn
abbrev XE:=@PySem.wpAny_pyIter_list
abbrev XD:=@Classical.byContradiction
abbrev Xv:=@PySem.wpAny_letGo
abbrev Xu:=@PySem.F.slot_tuple_iterator_next
abbrev Xo:=@PySem.codeAny_mono
abbrev Xh:=@PySem.wpAny_setEntries_of
abbrev Xb:=@List.ext_getElem?
abbrev WZ:=@PySem.wpAny_getItem_str_slice
abbrev WK:=@List.of_mem_zip
abbrev Wz:=@Nat.le_of_lt
abbrev Wq:=@Array.forIn_toList
abbrev Wa:=@List.reverse_cons
abbrev VJ:=@PySem.wpAny_tryCatch
abbrev VI:=@PySem.Obj.data_mapFields
abbrev VH:=@Eq.trans
namespace L2
open PySem PySem.Spec PyProof.Rows
theorem aa (a:0=0:=by rfl):0=0:=a
theorem ac (a:0=0:=by decide):0=0:=a
theorem ae (a:0=0:=by first|exact Or.inl rfl|exact Or.inr (Or.inl rfl)|exact Or.inr (Or.inr rfl)):0=0:=a
theorem af (a:0=0:=by intro _;rfl):0=0:=a
theorem ah (a:0=0:=by first|exact Or.inl rfl|exact Or.inr rfl):0=0:=a
theorem ai (a:0=0:=by first|exact .inl rfl|exact .inr rfl):0=0:=a
theorem aj (a:0=0:=by first|exact .inl rfl|exact .inr rfl|assumption):0=0:=a
theorem ak (a:0=0:=by with_unfolding_all rfl):0=0:=a
theorem am (a:0=0:=by decide +kernel):0=0:=a
theorem ao (a:0=0:=by exact PassesOwn.never):0=0:=a
theorem aq (a:0=0:=by first|exact Sh _|with_unfolding_all rfl):0=0:=a
theorem ar (a:0=0:=by intro _ _;rfl):0=0:=a
variable {us ds:List Value}{x name m qual:Str}{u cd:Value}{κ α:Type}{a b it dx C f g:Addr}{P prog:Program}{w:World}{h h' base:Heap}{e c tg l:Expr}{ZY:LO}{s s':Shared}{t' i j k n:Nat}{N ns ps:List Str}{A:Around}{E Q:VP}{pos pos' p:Pos}{YO es:List Expr}{st body:List Stmt}{K:W.Frag}{mA mg:MG}{fd:FuncData}{outer:List Env}{sc scope:Scope}
abbrev Ys:=Sum Int Str
noncomputable def Vr:Ys->Value->Bool
 | .inl k,v=>Value.isInt k v
 | .inr x,v=>Value.isStrOf x v
noncomputable def Mm (w:World):Ys->Int
 | .inl k=>hashInt k
 | .inr x=>hashStr w x
theorem Rv:∀{k:Ys}{v:Value},Vr k v=true->(∃i t,k=Sum.inl i/\v=Value.int i t)\/(∃x t,k=Sum.inr x/\v=Value.str x t)
 | .inl i,v,h=>by
  obtain⟨t,e⟩:=Value.isInt_shape (k:=i) (v:=v) h;exact .inl ⟨i,t,rfl,e⟩
 | .inr x,v,h=>by
  obtain⟨t,e⟩:=Value.isStrOf_shape (x:=x) (v:=v) h;exact .inr ⟨x,t,rfl,e⟩
def vR (i:Int) (t:Tok):Vr (.inl i) (.int i t)=true:=by simp[Vr,Value.isInt]
def vQ (x:Str) (t:Tok):Vr (.inr x) (.str x t)=true:=by simp[Vr,Value.isStrOf]
def Mn (a b:Int):decide ((Sum.inl a:Ys)=Sum.inl b)=(a==b):=by
 by_cases e:a=b
 ·subst e;simp
 ·have h:¬ (Sum.inl a:Ys)=Sum.inl b:=fun q=>e (Sum.inl.inj q)
  rw[ZE h];exact(beq_eq_false_iff_ne.mpr e).symm
def Mq (a b:Str):decide ((Sum.inr a:Ys)=Sum.inr b)=decide (a=b):=by
 by_cases e:a=b
 ·subst e;simp
 ·have h:¬ (Sum.inr a:Ys)=Sum.inr b:=fun q=>e (Sum.inr.inj q)
  rw[ZE h,ZE e]
def Mo (a:Int) (b:Str):decide ((Sum.inl a:Ys)=Sum.inr b)=false:=ZE (λq=>nomatch q)
def Mp (a:Str) (b:Int):decide ((Sum.inr a:Ys)=Sum.inl b)=false:=ZE (λq=>nomatch q)
noncomputable def Z4 (prog:Program) (w:World):PySem.KeyKind prog w Ys where
 is:=Vr
 hash:=Mm w
 inj:=λv a b ha hb=>by
  rcases Rv ha with⟨i,t,rfl,rfl⟩|⟨x,t,rfl,rfl⟩
  ·rcases Rv hb with ⟨j,u,rfl,e⟩ | ⟨y,u,rfl,e⟩
   ·injection e with e1 _;rw[e1]
   ·exact nomatch e
  ·rcases Rv hb with ⟨j,u,rfl,e⟩ | ⟨y,u,rfl,e⟩
   ·exact nomatch e
   ·injection e with e1 _;rw[e1]
 byValue:=λk v h=>by
  rcases Rv h with⟨i,t,rfl,rfl⟩|⟨x,t,rfl,rfl⟩<;>rfl
 pyHash:=λhv h=>by
  rcases Rv hv with⟨i,t,rfl,rfl⟩|⟨x,t,rfl,rfl⟩
  ·exact wpAny_pyHash_int h
  ·exact wpAny_pyHash_str h
 eqBool:=λhu hv h=>by
  rcases Rv hu with⟨i,t,rfl,rfl⟩|⟨x,t,rfl,rfl⟩
  ·rcases Rv hv with ⟨j,u,rfl,rfl⟩ | ⟨y,u,rfl,rfl⟩
   ·rw[Mn] at h;exact wpAny_eqBool_int h
   ·rw[Mo] at h;exact SeqAt.EqAt.int_str i t y u _ _ _ _ h
  ·rcases Rv hv with ⟨j,u,rfl,rfl⟩ | ⟨y,u,rfl,rfl⟩
   ·rw[Mp] at h;exact SeqAt.EqAt.str_int x t j u _ _ _ _ h
   ·rw[Mq] at h;exact wpAny_eqBool_str h
 «strs»:=λk x t v h=>by
  rcases Rv h with⟨i,u,rfl,e⟩|⟨y,u,rfl,e⟩
  ·exact nomatch e
  ·injection e with e1 _
   subst e1;cases v<;>rfl
def vB (prog:Program) (w:World) (k:Ys) (v:Value):(Z4 prog w).is k v=Vr k v:=rfl
def E7 (prog:Program) (w:World) (i:Int) (t:Tok):(Z4 prog w).is (.inl i) (.int i t)=true:=vR i t
def E6 (prog:Program) (w:World) (x:Str) (t:Tok):(Z4 prog w).is (.inr x) (.str x t)=true:=vQ x t
inductive V where
 | non|bl (b:Bool)|int (i:Int)|str (x:Str)|byt (b:Array UInt8)|flt (b:UInt64)|ref (a:Addr)|ty (n:String)
 deriving DecidableEq
variable {xs vs dvs:List V}{v y:V}
def RelV:V->Value->Prop
 | .non,u=>u=Value.none
 | .bl b,u=>u=Value.bool b
 | .int i,u=>∃t,u=Value.int i t
 | .str x,u=>∃t,u=Value.str x t
 | .byt b,u=>∃t,u=Value.bytes b t
 | .flt b,u=>∃t,u=Value.float b t
 | .ref a,u=>u=Value.ref a
 | .ty n,u=>u=Value.type n
abbrev Vals:List V->List Value->Prop:=Paired RelV
theorem Vals.length(r:Vals xs us):xs.length=us.length:=Paired.length r
theorem Vals.get:∀{xs:List V}{us:List Value}{i:Nat}{x:V},Vals xs us->xs[i]?=some x->∃u,us[i]?=some u/\RelV x u
 | _,_,_,_,.nil,e=>by simp at e
 | _,_,0,_,.cons r _,e=>by simp at e;subst e;exact⟨_,rfl,r⟩
 | _,_,i+1,x,.cons _ t,e=>by
  obtain⟨u,h1,h2⟩:=Vals.get (i:=i) (x:=x) t (by simpa using e)
  exact⟨u,by simpa using h1,h2⟩
theorem Vals.set{x:V} (r:RelV x u):∀{xs:List V}{us:List Value} (i:Nat),Vals xs us->Vals (xs.set i x) (us.set i u)
 | _,_,_,.nil=>.nil
 | _,_,0,.cons _ t=>.cons r t
 | _,_,i+1,.cons q t=>.cons q (Vals.set r i t)
theorem Vals.append:∀{xs ys:List V}{us ws:List Value},Vals xs us->Vals ys ws->Vals (xs++ys) (us++ws)
 | _,_,_,_,.nil,s=>s
 | _,_,_,_,.cons r t,s=>.cons r (Vals.append t s)
theorem Vals.take:∀{xs:List V}{us:List Value} (n:Nat),Vals xs us->Vals (xs.take n) (us.take n)
 | _,_,0,_=>.nil
 | _,_,_+1,.nil=>.nil
 | _,_,n+1,.cons r t=>.cons r (Vals.take n t)
theorem Vals.drop:∀{xs:List V}{us:List Value} (n:Nat),Vals xs us->Vals (xs.drop n) (us.drop n)
 | _,_,0,r=>r
 | _,_,_+1,.nil=>.nil
 | _,_,n+1,.cons _ t=>Vals.drop n t
def RelO:Option V->Option Value->Prop
 | some v,some u=>RelV v u
 | none,none=>True
 | _,_=>False
noncomputable def KV:List (κ×V)->List (κ×Value)->Prop:=Paired λ(p:κ×V) (q:κ×Value)=>p.1=q.1/\RelV p.2 q.2
noncomputable def kV:Ys->V
 | .inl i=>.int i
 | .inr x=>.str x
inductive HO where
 /-- a list -/
 | lst (xs:List V)
 /-- a tuple (never changes) -/
 | tup (xs:List V)
 /-- a dict whose keys are ints and texts;one whose keys are tuples of ints and texts (the empty one is both) -/
 | dK (kvs:List (Ys×V))|dT (kvs:List (List Ys×V))
 /-- a set of ints: ZO members,ZO size -/
 | set (S:Int->Bool) (n:Nat)
 /-- an instance of the class at C,ZO dict at dx,ZO attributes -/
 | ins (C dx:Addr) (fs:List (Str×V))
 /-- the dict of the instance at x -/
 | own (x:Addr)
 /-- the dict of an exception -/
 | xd (fs:List (Str×V))
 /-- a bound method,f of x -/
 | met (f x:Addr)
 /-- a range object lo,lo+1,.. below hi -/
 | rng (lo hi:Int)
 /-- a thing that is known to the object (the script;a dict while a loop walks it): read,never written while it is so -/
 | frz (o:Obj) (u:HO)
 /-- a code object's table -/
 | tbl (ps:Array Value)
 /-- any other thing,by what is true of ZO one object (a def of one's own: SetO a S n:=HO.ext λh=>..) -/
 | ext (φ:Heap->Prop)
variable {o:HO}
abbrev Hp:=Addr->Option HO
variable {H H':Hp}
noncomputable def Zd (H:Hp) (a:Addr) (o:HO):Hp:=λb=>if b=a then some o else H b
def WN:Zd H a o a=some o:=by unfold Zd;rw[if_pos rfl]
def Xd(h:b≠a):Zd H a o b=H b:=by unfold Zd;rw[if_neg h]
def Jd{u:HO} (h:H a=some o) (h':H b=some u) (d:o≠u):a≠b:=by
 intro e;subst e;rw[h] at h';exact d (ZS h')
def U1(h:H a=some o) (h':H b=none):a≠b:=by
 intro e;subst e;rw[h] at h';cases h'
section
variable (P:Program) (w:World)
def ObjOk (H:Hp) (h:Heap) (a:Addr):HO->Prop
 | .lst xs=>xs.length<=sizeLine/\∃(ZO:List Value) (n:Nat),Vals xs ZO/\h.get? a=some { cls:=.type "list",data:=.seq ZO.toArray n }
 | .tup xs=>xs.length<=sizeLine/\∃ZO:List Value,Vals xs ZO/\IsTup h a ZO.toArray
 | .dK kvs=>kvs.length<=sizeLine/\(a==sysModules)=false/\∃vs,KV kvs vs/\h.DictOf (Z4 P w) a vs
 | .dT kvs=>kvs.length<=sizeLine/\(a==sysModules)=false/\∃xs:List (List Ys×Addr×Value),
   Paired (λ(p:List Ys×V) (q:List Ys×Addr×Value)=>p.1=q.1/\H q.2.1=some (.tup (p.1.map kV))/\RelV p.2 q.2.2) kvs xs /\
   ∃o es ep,h.get? a=some o/\o.ExactDict/\o.data=.dict es ep/\es.toList=xs.map (entryOfKey (tupleKind (Z4 P w)))/\(xs.map (·.1)).Nodup
 | .set S n=>h.SetOf (intKind P w) a S n
 | .ins C dx fs=>H dx=some (.own a)/\fs.length<=1000/\dx≠a/\h.get? a=some (W.instObj C dx) /\
   ∃mA,h.Ns1 dx mA/\(∀f,RelO (fs.lookup f) (mA f))/\PySem.Within mA (fs.map (·.1))
 | .own _=>∃o,h.get? a=some o
 | .xd fs=>∃mA,h.Ns1 a mA/\∀f,RelO (fs.lookup f) (mA f)
 | .rng lo hi=>∃t u v,h.get? a=some { cls:=.type "range",data:=.fields #[.int lo t,.int hi u,.int 1 v] }
 | .frz o u=>h.get? a=some o/\ObjOk H h a u
 | .tbl ps=>h.get? a=some { cls:=.none,data:=.fields ps }
 | .met f x=>h.get? a=some (W.methodObj (.ref f) (.ref x))
 | .ext φ=>φ h/\(∃o,h.get? a=some o)/\∀h1 h2:Heap,φ h1->(∀o,h1.get? a=some o->h2.get? a=some o)->φ h2
def HOk (H:Hp) (h:Heap):Prop:=∀a o,H a=some o->ObjOk P w H h a o
end
theorem ObjOk.lt (x:ObjOk P w H h a o):a<h.objs.size:=by
 cases o with
 | lst xs=>obtain⟨_,_,_,_,e⟩:=x;exact z8 e
 | tup xs=>obtain⟨_,_,_,p⟩:=x;exact p.lt
 | dK kvs=>obtain⟨_,_,_,_,o,_,_,e,_⟩:=x;exact z8 e
 | dT kvs=>obtain⟨_,_,_,_,o,_,_,e,_⟩:=x;exact z8 e
 | set S n=>obtain⟨o,_,_,_,e,_⟩:=x;exact z8 e
 | ins C dx fs=>obtain⟨_,_,_,e,_⟩:=x;exact z8 e
 | own y=>obtain⟨_,e⟩:=x;exact z8 e
 | xd fs=>obtain⟨_,⟨_,_,_,e,_⟩,_⟩:=x;exact z8 e
 | rng lo hi=>obtain⟨_,_,_,e⟩:=x;exact z8 e
 | frz ob u=>obtain⟨e,_⟩:=x;exact z8 e
 | tbl ps=>exact z8 (show h.get? a=some _ from x)
 | met f y=>exact z8 (show h.get? a=some _ from x)
 | ext φ=>obtain⟨_,⟨_,e⟩,_⟩:=x;exact z8 e
theorem Paired.mapP{β:Type}{F G:α->β->Prop}:∀{l₁:List α}{l₂:List β},Paired F l₁ l₂->(∀a b,F a b->G a b)->Paired G l₁ l₂
 | _,_,.nil,_=>.nil
 | _,_,.cons r t,f=>.cons (f _ _ r) (Paired.mapP t f)
def ObjOk.stay (x:ObjOk P w H h a o) (k:∀b u,(b=a\/H b=some (.own a))->h.get? b=some u->h'.get? b=some u)
  (ho:∀b,H b=some (.own a)->H' b=some (.own a)) (ht:∀b xs,H b=some (.tup xs)->H' b=some (.tup xs)):ObjOk P w H' h' a o:=by
 induction o with
 | lst xs=>obtain⟨z,ZO,n,r,e⟩:=x;exact⟨z,ZO,n,r,k _ _ (.inl rfl) e⟩
 | tup xs=>obtain⟨z,ZO,r,ob,e,c⟩:=x;exact⟨z,ZO,r,ob,k _ _ (.inl rfl) e,c⟩
 | dK kvs=>obtain⟨z,y,vs,r,ob,es,ep,e,c⟩:=x;exact⟨z,y,vs,r,ob,es,ep,k _ _ (.inl rfl) e,c⟩
 | dT kvs =>
  obtain⟨z,y,xs,r,ob,es,ep,e,c⟩:=x;exact⟨z,y,xs,Paired.mapP r λp q z=>⟨z.1,ht _ _ z.2.1,z.2.2⟩,ob,es,ep,k _ _ (.inl rfl) e,c⟩
 | set S n=>obtain⟨ob,es,ep,t,e,c⟩:=x;exact⟨ob,es,ep,t,k _ _ (.inl rfl) e,c⟩
 | ins C dx fs =>
  obtain⟨d,z,ne,e,mA,⟨od,es,ep,e2,c⟩,r⟩:=x;exact⟨ho _ d,z,ne,k _ _ (.inl rfl) e,mA,⟨od,es,ep,k _ _ (.inr d) e2,c⟩,r⟩
 | own y=>obtain⟨ob,e⟩:=x;exact⟨ob,k _ _ (.inl rfl) e⟩
 | xd fs=>obtain⟨mA,⟨od,es,ep,e,c⟩,r⟩:=x;exact⟨mA,⟨od,es,ep,k _ _ (.inl rfl) e,c⟩,r⟩
 | rng lo hi=>obtain⟨t,u,v,e⟩:=x;exact⟨t,u,v,k _ _ (.inl rfl) e⟩
 | frz ob u ih=>obtain⟨e,q⟩:=x;exact⟨k _ _ (.inl rfl) e,ih q⟩
 | tbl ps =>
  have e:h.get? a=some { cls:=.none,data:=.fields ps }:=x;show h'.get? a=some { cls:=.none,data:=.fields ps };exact k a _ (.inl rfl) e
 | met f y =>
  have e:h.get? a=some (W.methodObj (.ref f) (.ref y)):=x;show h'.get? a=some (W.methodObj (.ref f) (.ref y));exact k a _ (.inl rfl) e
 | ext φ=>obtain⟨p,⟨o,e⟩,st⟩:=x;exact⟨st _ _ p λo q=>k _ _ (.inl rfl) q,⟨o,k _ _ (.inl rfl) e⟩,st⟩
theorem HOk.lt (x:HOk P w H h) (e:H a=some o):a<h.objs.size:=(x a o e).lt
def HOk.fresh (x:HOk P w H h) (e:h.objs.size<=a):H a=none:=by
 cases q:H a with
 | none=>rfl
 | some u=>exact absurd (v5 (x.lt q) e) (t6 _)
def HOk.kept (x:HOk P w H h) (k:∀b u,h.get? b=some u->h'.get? b=some u):HOk P w H h':=λa o e =>
 (x a o e).stay (λb u _ q=>k b u q) (λ_ q=>q) λ_ _ q=>q
def HOk.laid (x:HOk P w H h) (k:∀b u,h.get? b=some u->h'.get? b=some u) (hp:h.objs.size<=a) (new:ObjOk P w (Zd H a o) h' a o):HOk P w (Zd H a o) h':=λb u e=>by
 have hn:=x.fresh hp;by_cases hb:b=a
 ·subst hb;rw[WN] at e;cases e;exact new
 ·rw [Xd hb] at e
  exact(x b u e).stay (λc v _ q=>k c v q) (λc q=>by rw[Xd (U1 q hn)];exact q) λc xs q=>by rw[Xd (U1 q hn)];exact q
def Rd (H:Hp) (a:Addr) (u:HO):Prop:=H a=some u\/∃o,H a=some (.frz o u)
def Rd.ok{u:HO} (r:Rd H a u) (x:HOk P w H h):ObjOk P w H h a u:=by
 rcases r with r|⟨o,r⟩
 ·exact x a u r
 ·obtain ⟨_,q⟩:=x a _ r
  exact q
def Ij:Option HO->Prop
 | some (.lst _)=>True
 | some (.dK _)=>True
 | some (.dT _)=>True
 | some (.set _ _)=>True
 | some (.ins _ _ _)=>True
 | some (.ext _)=>True
 | _=>False
section
variable {x e:Addr}{o':HO}
def HOk.write (ok:HOk P w H h) (mu:Ij (H x)) (he:e=x\/H e=some (.own x)) (k:∀b u,b≠e->h.get? b=some u->h'.get? b=some u) (heo:∃u,h'.get? e=some u)
  (new:ObjOk P w (Zd H x o') h' x o'):HOk P w (Zd H x o') h':=λb u q=>by
 have nown:∀c y,H c=some (.own y)->c≠x:=λc y r z=>by subst z;rw[r] at mu;exact mu
 have ntup:∀c xs,H c=some (.tup xs)->c≠x:=λc xs r z=>by subst z;rw[r] at mu;exact mu
 by_cases hb:b=x
 ·subst hb;rw[WN] at q;cases q;exact new
 ·rw [Xd hb] at q
  by_cases hbe:b=e
  ·have q':H b=some (.own x):=by
    rcases he with z|z
    ·exact absurd (hbe.trans z) hb
    ·rw[hbe];exact z
   rw[q] at q';cases q';obtain⟨v,hv⟩:=heo;exact⟨v,by rw[hbe];exact hv⟩
  ·refine (ok b u q).stay (fun c v hc r=>k c v ?_ r) (fun c r=>by rw [Xd (nown c b r)];exact r) fun c xs r=>by rw [Xd (ntup c xs r)];exact r
   rcases hc with rfl|hc
   ·exact hbe
   ·rintro rfl
    rcases he with z|z
    ·exact nown c b hc z
    ·rw[hc] at z;cases z;exact hb rfl
end
structure Un (fs ex:List Addr) (H H':Hp) (h h':Heap):Prop where
 keep:∀b o,h.get? b=some o->H b=none->b∉fs->b∉ex->h'.get? b=some o
 slot:∀b o,h.get? b=some o->H b=none->b∈fs->b∉ex->∃sl,h'.get? b=some { o with slots:=sl }
 free:∀b o,h.get? b=some o->H b=none->b∉ex->H' b=none
 there:∀b o,h.get? b=some o->b∉ex->∃o',h'.get? b=some o'
 tups:∀b xs,H b=some (.tup xs)->H' b=some (.tup xs)
 frzs:∀b o u,H b=some (.frz o u)->H' b=some (.frz o u)
 tbls:∀b ps,H b=some (.tbl ps)->∃more,H' b=some (.tbl (ps++more))
section
variable {fs fs' ex ex':List Addr}{H1 H2:Hp}{h1 h2:Heap}{x e:Addr}
def Un.any(u:Un fs ex H H1 h h1) {ob:Obj} (q:h.get? b=some ob) (n:H b=none) (hx:b∉ex):∃sl,h1.get? b=some { ob with slots:=sl }:=by
 by_cases hb:b∈fs
 ·exact u.slot b ob q n hb hx
 ·exact⟨ob.slots,u.keep b ob q n hb hx⟩
def Un.kept (k:∀b u,h.get? b=some u->h'.get? b=some u):Un fs ex H H h h' :=
 ⟨λb ob q _ _ _=>k b ob q,λb ob q _ _ _=>⟨ob.slots,k b ob q⟩,λ_ _ _ n _=>n,λb ob q _=>⟨ob,k b ob q⟩,λ_ _ q=>q,λ_ _ _ q=>q,λ_ ps q=>⟨#[],by rw[q];simp⟩⟩
def Un.refl:Un fs ex H H h h:=Un.kept λ_ _ q=>q
def Un.laid (k:∀b u,h.get? b=some u->h'.get? b=some u) (hp:h.objs.size<=a) (hn:H a=none):Un fs ex H (Zd H a o) h h' where
 keep:=λb u q _ _ _=>k b u q
 slot:=λb u q _ _ _=>⟨u.slots,k b u q⟩
 free:=λb u q n _=>by rw[Xd (v6 (v5 (z8 q) hp))];exact n
 there:=λb u q _=>⟨u,k b u q⟩
 tups:=λb xs q=>by rw[Xd (U1 q hn)];exact q
 frzs:=λb u xs q=>by rw[Xd (U1 q hn)];exact q
 tbls:=λb ps q=>⟨#[],by rw[Xd (U1 q hn),q];simp⟩
def Un.write (mu:Ij (H x)) (he:e=x\/H e=some (.own x)) (k:∀b u,b≠e->h.get? b=some u->h'.get? b=some u) (heo:∃u,h'.get? e=some u):Un fs ex H (Zd H x o) h h':=by
 have hx:∀b,H b=none->b≠x:=λb n z=>by subst z;rw[n] at mu;exact mu
 have hb:∀b,H b=none->b≠e:=λb n z=>by
  subst z;rcases he with r|r
  ·exact hx b n r
  ·rw[n] at r;cases r
 have hm:∀b u,H b=some u->¬ Ij (some u)->b≠x:=λb u q nm z=>by subst z;rw[q] at mu;exact nm mu
 refine⟨λb u q n _ _=>k b u (hb b n) q,λb u q n _ _=>⟨u.slots,k b u (hb b n) q⟩,λb u q n _=>by rw[Xd (hx b n)];exact n,λb u q _=>?_,
  λb xs q=>by rw[Xd (hm b _ q λz=>z)];exact q,λb u xs q=>by rw[Xd (hm b _ q λz=>z)];exact q,λb ps q=>⟨#[],by rw[Xd (hm b _ q λz=>z),q];simp⟩⟩
 by_cases hbe:b=e
 ·subst hbe;exact heo
 ·exact⟨u,k b u hbe q⟩
end
noncomputable def Gn (h:Heap) (H:Hp):List Addr:=(List.range h.objs.size).filter λa=>(H a).isSome
noncomputable def UN (h:Heap) (H:Hp):Heap:=W.hideAll h (Gn h H)
def vX (h:Heap) (H:Hp):(UN h H).objs.size=h.objs.size:=W.hideAll_size _ _
def xm{o:Obj} (e:h.get? b=some o) (n:H b=none):(UN h H).get? b=some o :=
 W.hideAll_get _ e λhm=>by
  have q:(H b).isSome=true:=(List.mem_filter.mp hm).2;rw[n] at q;simp at q
def Q8{o:Obj} (e:(UN h H).get? b=some o):h.get? b=some o/\H b=none:=by
 have e':h.get? b=some o:=W.of_hideAll (Gn h H) e;refine⟨e',?_⟩;cases q:H b with
 | none=>rfl
 | some x =>
  have hm:b∈Gn h H:=List.mem_filter.mpr ⟨NL.mpr (z8 e'),by simp[q]⟩
  have z:(UN h H).get? b=none:=W.hideAll_none (Gn h H) hm;rw[z] at e;cases e
structure Mod (K:W.Frag) (mg:MG) (base:Heap):Prop where
 kin:K.In base
 glob:base.Ns mainGlobals mg
 blt:∃mb,base.Ns builtinsNs mb/\∀x:Str,x≠"__name__"->mb x=bootBuiltins x
 nolimit:base.NoLimit
structure Cx where
 prog:Program
 w:World
 K:W.Frag
 mg:Str->Option Value
 base:Heap
 A:Around
 N:List Str
 s₀:Shared
 H₀:Hp
 env:Env
 outer:List Env
 stack:List Env
 ex:List Addr
 fn:Str->Bool
 calm:Bool
 pn:LO
 xe:Value->Shared->Prop
variable {X:Cx}
noncomputable def T1 (l:List Env):List Addr:=l.filterMap (·.frame)
noncomputable abbrev Cx.fs (X:Cx):List Addr:=T1 X.outer
def Ut (sc:Scope) (x:Str):Prop:=sc.names.lookup x=some .local\/sc.names.lookup x=some .cell\/sc.names.lookup x=some .free
def Loc (sc:Scope) (x:Str):Prop:=sc.names.lookup x=some .local\/sc.names.lookup x=some .cell
def C6 (env:Env) (h:Heap) (m:MG) (x:Str) (u:Value):Prop :=
 (env.kindOf x=some .local/\m x=some u)\/((env.kindOf x=some .cell\/env.kindOf x=some .free)/\∃c,env.cells.lookup x=some c/\h.IsCell c (some u))
structure Cx.Ok (X:Cx):Prop where
 mod:Mod X.K X.mg X.base
 kind:X.env.scope.kind=.function
 glob:X.env.globals=mainGlobals
 blt:X.env.builtins=builtinsNs
 above:X.s₀.heap.objs.size<=X.env.locals
 inj:∀x y c,X.env.cells.lookup x=some c->X.env.cells.lookup y=some c->x=y
 has:∀x,(X.env.kindOf x=some .cell\/X.env.kindOf x=some .free)->∃c,X.env.cells.lookup x=some c
 cab:∀x c,X.fn x=true->X.env.cells.lookup x=some c->X.s₀.heap.objs.size<=c
 hd:X.calm=true->X.A.handled=none
 frames:X.A.frames=some X.stack
 stk:X.stack=X.outer\/(X.stack=X.env::X.outer/\X.env.frame=some X.env.locals)
 exf:∀b∈X.ex,b≠X.env.locals/\∀x c,X.env.cells.lookup x=some c->c≠b
 bs:∀b o,X.base.get? b=some o->X.s₀.heap.get? b=some o/\X.H₀ b=none
 bsz:X.base.objs.size<=X.s₀.heap.objs.size
 noex:∀b o,X.base.get? b=some o->b∉X.ex
 exfs:∀b∈X.ex,b∉X.fs
 funs:X.s₀.heap.FunFrames X.base X.outer
 frf:∀b∈X.fs,X.H₀ b=none
structure Inv (X:Cx) (ZY:LO) (σ:List (Option V)) (H:Hp) (s:Shared):Prop where
 ok:X.Ok
 os:s.os=X.s₀.os
 bare:AllBare s.gens
 base:Un X.fs X.ex X.H₀ H X.s₀.heap s.heap
 loc:∃m,s.heap.Ns X.env.locals m/\∀(i:Nat) (x:Str) (v:V),X.N[i]?=some x->σ[i]?=some (some v)->Ut X.env.scope x->∃u,RelV v u/\C6 X.env s.heap m x u
 cell:∀x c,X.env.cells.lookup x=some c->∃v,s.heap.IsCell c v
 free:H X.env.locals=none
 freeC:∀x c,X.env.cells.lookup x=some c->H c=none
 pin:∀p∈X.pn++ZY,s.heap.get? p.1=some p.2/\H p.1=none/\p.1≠X.env.locals/\p.1∉X.fs/\∀v,p.2.data≠.cell v
 hok:HOk X.prog X.w H s.heap
 len:σ.length=X.N.length
section
variable {σ:List (Option V)}
def Cx.Ok.nofr(ok:X.Ok) {o:Obj} (e:X.base.get? b=some o):b∉X.fs:=λhb=>by
 have:=(ok.funs.mem hb).1
 rw[e] at this;cases this
theorem Inv.bs (I:Inv X ZY σ H s):∀b o,X.base.get? b=some o->s.heap.get? b=some o/\H b=none:=λb o e =>
 ⟨I.base.keep b o (I.ok.bs b o e).1 (I.ok.bs b o e).2 (I.ok.nofr e) (I.ok.noex b o e),I.base.free b o (I.ok.bs b o e).1 (I.ok.bs b o e).2 (I.ok.noex b o e)⟩
def Inv.bk (I:Inv X ZY σ H s):∀b o,X.base.get? b=some o->s.heap.get? b=some o:=λb o e=>(I.bs b o e).1
theorem Inv.mod (I:Inv X ZY σ H s):Mod X.K X.mg X.base:=I.ok.mod
def Inv.kIn (I:Inv X ZY σ H s):X.K.In s.heap:=I.ok.mod.kin.keeps I.bk
theorem Inv.lt (I:Inv X ZY σ H s):X.env.locals<s.heap.objs.size:=by obtain⟨_,hn,_⟩:=I.loc;exact hn.lt
def Inv.sz (I:Inv X ZY σ H s):X.s₀.heap.objs.size<=s.heap.objs.size:=v7 I.ok.above (Wz I.lt)
def Inv.nofs(I:Inv X ZY σ H s)  (h:s.heap.objs.size<=a):a∉X.fs:=λhb=>by
 obtain⟨_,o,ho,_⟩:=I.ok.funs.mem hb;exact absurd (v5 (z8 ho) (v7 I.sz h)) (t6 _)
def Inv.cne (I:Inv X ZY σ H s):∀x c,X.env.cells.lookup x=some c->c≠X.env.locals:=λx c e z=>by
 obtain⟨v,o,ho,hd⟩:=I.cell x c e;obtain⟨m,⟨o',es,ep,ho',hd',_⟩,_⟩:=I.loc;rw[z,ho'] at ho;cases ho;rw[hd'] at hd;cases hd
theorem Inv.funs (I:Inv X ZY σ H s):s.heap.FunFrames X.base X.outer:=by
 have all:∀(l:List Env),(∀b∈T1 l,b∈X.fs)->X.s₀.heap.FunFrames X.base l->s.heap.FunFrames X.base l:=by
  intro l;induction l with
  | nil=>intro _ _;trivial
  | cons env r ih =>
   intro hs hl;obtain⟨hk,⟨L,o,hf,hn,ho,hd⟩,hr⟩:=hl;have hL:L∈X.fs:=hs L (by unfold T1;rw[List.filterMap_cons,hf];exact z6)
   obtain⟨sl,e⟩:=I.base.slot L o ho (I.ok.frf L hL) hL λz=>I.ok.exfs L z hL
   exact⟨hk,⟨L,_,hf,hn,e,hd⟩,ih (λb hb=>hs b (by unfold T1;rw[List.filterMap_cons,hf];exact z5 _ hb)) hr⟩
 exact all X.outer (λ_ hb=>hb) I.ok.funs
theorem Inv.stack (I:Inv X ZY σ H s):s.heap.FunFrames X.base X.stack:=by
 rcases I.ok.stk with e|⟨e,hf⟩
 ·rw[e];exact I.funs
 ·rw [e]
  obtain⟨m,hn,_⟩:=I.loc;refine .cons (by rw[I.ok.kind];decide) hf hn ?_ I.funs
  exact Heap.get?_none_of_le (v7 I.ok.bsz I.ok.above)
def Inv.stkSub (I:Inv X ZY σ H s):∀b∈T1 X.stack,b∈X.env.locals::X.fs:=λb hb=>by
 rcases I.ok.stk with e|⟨e,hf⟩
 ·rw[e] at hb;exact z5 _ hb
 ·rw [e] at hb
  unfold T1 at hb;rw[List.filterMap_cons,hf] at hb;exact hb
def Inv.stkFree (I:Inv X ZY σ H s):∀b∈T1 X.stack,H b=none:=λb hb=>by
 rcases y0.mp (I.stkSub b hb) with e|hb
 ·rw[e];exact I.free
 ·obtain ⟨_,o,ho,_⟩:=I.ok.funs.mem hb
  exact I.base.free b o ho (I.ok.frf b hb) λz=>I.ok.exfs b z hb
def Inv.step{g':Array GenState}{d':Drawn}{ch:List Addr} (I:Inv X ZY σ H s)
  (hch:∀b∈ch,(b∈X.ex\/X.s₀.heap.objs.size<=b)/\b≠X.env.locals/\(∀x c,X.env.cells.lookup x=some c->c≠b)/\∀p∈X.pn++ZY,p.1≠b)
  (keep:∀b o,b≠X.env.locals->b∉X.fs->b∉ch->s.heap.get? b=some o->H b=none->h'.get? b=some o)
  (slot:∀b o,b≠X.env.locals->b∈X.fs->b∉ch->s.heap.get? b=some o->H b=none->∃sl,h'.get? b=some { o with slots:=sl }) (free:∀b o,b∉ch->s.heap.get? b=some o->H b=none->H' b=none)
  (there:∀b o,b∉ch->s.heap.get? b=some o->∃o',h'.get? b=some o')
  (tups:∀b xs,H b=some (.tup xs)->H' b=some (.tup xs)) (frzs:∀b o u,H b=some (.frz o u)->H' b=some (.frz o u)) (tbls:∀b ps,H b=some (.tbl ps)->∃more,H' b=some (.tbl (ps++more)))
  (ns:∀m,s.heap.Ns X.env.locals m->h'.Ns X.env.locals m) (hok:HOk X.prog X.w H' h') (hg:AllBare g') :
  Inv X ZY σ H' { s with heap:=h',gens:=g',drawn:=d',toks:=t' }:=by
 have neL:∀b o,X.s₀.heap.get? b=some o->b≠X.env.locals:=λb o e=>v6 (v5 (z8 e) I.ok.above)
 have neC:∀b o,X.s₀.heap.get? b=some o->b∉X.ex->b∉ch:=λb o e hx hb=>by
  rcases(hch b hb).1 with z|z
  ·exact hx z
  ·exact absurd (v5 (z8 e) z) (t6 _)
 have cellK:∀x c,X.env.cells.lookup x=some c->∀v,s.heap.IsCell c v->h'.IsCell c v:=λx c e v ⟨o,ho,hd⟩=>by
  have nch:c∉ch:=λz=>(hch c z).2.2.1 x c e rfl
  by_cases hc:c∈X.fs
  ·obtain ⟨sl,q⟩:=slot c o (I.cne x c e) hc nch ho (I.freeC x c e)
   exact⟨_,q,hd⟩
  ·exact⟨o,keep c o (I.cne x c e) hc nch ho (I.freeC x c e),hd⟩
 refine⟨I.ok,I.os,hg,⟨λb o e n hb hx=>?_,λb o e n hb hx=>?_,λb o e n hx=>?_,λb o e hx=>?_,λb xs e=>tups b xs (I.base.tups b xs e),λb o xs e=>frzs b o xs (I.base.frzs b o xs e),λb ps e=>?_⟩,?_,λx c e=>?_,?_,λx c e=>?_,λp hp=>?_,hok,I.len⟩
 ·exact keep b o (neL b o e) hb (neC b o e hx) (I.base.keep b o e n hb hx) (I.base.free b o e n hx)
 ·obtain ⟨sl,e1⟩:=I.base.slot b o e n hb hx
  obtain⟨sl',e2⟩:=slot b _ (neL b o e) hb (neC b o e hx) e1 (I.base.free b o e n hx);exact⟨sl',e2⟩
 ·obtain ⟨o',e1⟩:=I.base.there b o e hx
  exact free b o' (neC b o e hx) e1 (I.base.free b o e n hx)
 ·obtain ⟨o',e1⟩:=I.base.there b o e hx
  exact there b o' (neC b o e hx) e1
 ·obtain ⟨m1,e1⟩:=I.base.tbls b ps e
  obtain⟨m2,e2⟩:=tbls b _ e1;exact⟨m1++m2,by rw[e2,Array.append_assoc]⟩
 ·obtain ⟨m,hn,hl⟩:=I.loc
  refine⟨m,ns m hn,λi x v e1 e2 e3=>?_⟩
  obtain⟨u,r,l⟩:=hl i x v e1 e2 e3;refine⟨u,r,?_⟩;rcases l with l|⟨k,c,e,z⟩
  ·exact .inl l
  ·exact .inr ⟨k,c,e,cellK x c e _ z⟩
 ·obtain ⟨v,z⟩:=I.cell x c e
  exact⟨v,cellK x c e v z⟩
 ·obtain ⟨m,⟨o,_,_,ho,_⟩,_⟩:=I.loc
  exact free _ o (λz=>(hch _ z).2.1 rfl) ho I.free
 ·obtain ⟨v,o,ho,hd⟩:=I.cell x c e
  exact free c o (λz=>(hch c z).2.2.1 x c e rfl) ho (I.freeC x c e)
 ·obtain ⟨e,n,ne,nf,d⟩:=I.pin p hp
  have nch:p.1∉ch:=λz=>(hch p.1 z).2.2.2 p hp rfl
  exact⟨keep p.1 p.2 ne nf nch e n,free p.1 p.2 nch e n,ne,nf,d⟩
def Inv.un(I:Inv X ZY σ H s) (u:Un X.fs [] H H' s.heap h') (hok:HOk X.prog X.w H' h'):Inv X ZY σ H' { s with heap:=h',toks:=t' }:=by
 obtain⟨m,⟨o,es,ep,ho,r⟩,_⟩:=id I.loc;obtain⟨sl,hL⟩:=u.any ho I.free (by simp)
 exact I.step (g':=s.gens) (d':=s.drawn) (ch:=[]) (λ_ z=>nomatch z) (λb o _ hb _ e n=>u.keep b o e n hb (by simp)) (λb o _ hb _ e n=>u.slot b o e n hb (by simp)) (λb o _ e n=>u.free b o e n (by simp)) (λb o _ e=>u.there b o e (by simp)) u.tups u.frzs u.tbls (λm' hm=>by
  obtain⟨o',es',ep',ho',r'⟩:=hm;rw[ho] at ho';cases ho';exact⟨_,es',ep',hL,r'⟩) hok I.bare
def Inv.call{g':Array GenState}{d':Drawn}{ch:List Addr} (I:Inv X ZY σ H s) (u:Un (T1 X.stack) ch H H' s.heap h') (hok:HOk X.prog X.w H' h') (hg:AllBare g')
  (hch:∀b∈ch,(b∈X.ex\/X.s₀.heap.objs.size<=b)/\b≠X.env.locals/\(∀x c,X.env.cells.lookup x=some c->c≠b)/\∀p∈X.pn++ZY,p.1≠b) :
  Inv X ZY σ H' { s with heap:=h',gens:=g',drawn:=d',toks:=t' }:=by
 obtain⟨m,⟨o,es,ep,ho,r⟩,_⟩:=id I.loc;obtain⟨sl,hL⟩:=u.any ho I.free λz=>(hch _ z).2.1 rfl
 exact I.step (ch:=ch) hch (λb o hL hb hc e n=>u.keep b o e n (λz=>(y0.mp (I.stkSub b z)).elim hL hb) hc) (λb o _ _ hc e n=>u.any e n hc) (λb o hc e n=>u.free b o e n hc) (λb o hc e=>u.there b o e hc) u.tups u.frzs u.tbls (λm' hm=>by
  obtain⟨o',es',ep',ho',r'⟩:=hm;rw[ho] at ho';cases ho';exact⟨_,es',ep',hL,r'⟩) hok hg
def Inv.turned(I:Inv X ZY σ H s) (k:∀b o,b≠it->s.heap.get? b=some o->h'.get? b=some o) (hn:H it=none) (hL:it≠X.env.locals)
  (h1:it∈X.ex\/X.s₀.heap.objs.size<=it) (h2:∀x c,X.env.cells.lookup x=some c->c≠it) (h3:∀p∈X.pn++ZY,p.1≠it):Inv X ZY σ H { s with heap:=h',toks:=t' }:=by
 have nit:∀b u,H b=some u->b≠it:=λb u e z=>by rw[z,hn] at e;cases e
 refine I.step (g':=s.gens) (d':=s.drawn) (ch:=[it]) (λb hb=>?_) (λb o _ _ hc e _=>k b o (λz=>hc (by simp[z])) e) (λb o _ _ hc e _=>⟨o.slots,k b o (λz=>hc (by simp[z])) e⟩) (λ_ _ _ _ n=>n)
  (λb o hc e=>⟨o,k b o (λz=>hc (by simp[z])) e⟩) (λ_ _ e=>e) (λ_ _ _ e=>e) (λb ps e=>⟨#[],by rw[e];simp⟩) (λm hm=>?_) (λb u e=>?_) I.bare
 ·have e:b=it:=by simpa using hb
  subst e;exact⟨h1,hL,h2,h3⟩
 ·obtain ⟨o,es,ep,ho,r⟩:=hm
  exact⟨o,es,ep,k _ o (YN hL) ho,r⟩
 ·refine (I.hok b u e).stay (fun c v hc q=>k c v ?_ q) (fun _ q=>q) fun _ _ q=>q
  rcases hc with z|z
  ·rw[z];exact nit b u e
  ·exact nit c _ z
def Inv.tok (I:Inv X ZY σ H s) (t:Nat):Inv X ZY σ H { s with toks:=t }:=I.un (h':=s.heap) (t':=t) Un.refl I.hok
theorem Inv.kept(I:Inv X ZY σ H s) (k:∀b u,s.heap.get? b=some u->h'.get? b=some u):Inv X ZY σ H { s with heap:=h',toks:=t' }:=I.un (Un.kept k) (I.hok.kept k)
theorem Inv.laid(I:Inv X ZY σ H s) (k:∀b u,s.heap.get? b=some u->h'.get? b=some u) (hp:s.heap.objs.size<=a) (new:ObjOk X.prog X.w (Zd H a o) h' a o) :
  Inv X ZY σ (Zd H a o) { s with heap:=h',toks:=t' }:=I.un (Un.laid k hp (I.hok.fresh hp)) (I.hok.laid k hp new)
theorem Inv.write{x e:Addr} (I:Inv X ZY σ H s) (mu:Ij (H x)) (he:e=x\/H e=some (.own x)) (k:∀b u,b≠e->s.heap.get? b=some u->h'.get? b=some u) (heo:∃u,h'.get? e=some u)
  (new:ObjOk X.prog X.w (Zd H x o) h' x o):Inv X ZY σ (Zd H x o) { s with heap:=h',toks:=t' }:=I.un (Un.write mu he k heo) (I.hok.write mu he k heo new)
def Inv.weak {σ':List (Option V)} (I:Inv X ZY σ H s) (hl:σ'.length=σ.length) (w:∀(i:Nat) v,σ'[i]?=some (some v)->σ[i]?=some (some v)):Inv X ZY σ' H s :=
 ⟨I.ok,I.os,I.bare,I.base,by obtain⟨m,hn,hl'⟩:=I.loc;exact⟨m,hn,λi x v e1 e2 e3=>hl' i x v e1 (w i v e2) e3⟩,I.cell,I.free,I.freeC,I.pin,I.hok,hl.trans I.len⟩
def Inv.pins_of {pins':LO} (I:Inv X ZY σ H s) (h:∀p∈pins',s.heap.get? p.1=some p.2/\H p.1=none/\p.1≠X.env.locals/\p.1∉X.fs/\∀v,p.2.data≠.cell v):Inv X pins' σ H s :=
 ⟨I.ok,I.os,I.bare,I.base,I.loc,I.cell,I.free,I.freeC,λp hp=>(u9.mp hp).elim (λz=>I.pin p (HW _ z)) (h p),I.hok,I.len⟩
def zZ(hN:N.Nodup)  (a:N[i]?=some x) (b:N[j]?=some x):i=j:=by
 obtain⟨h1,e1⟩:=x0.mp a;obtain⟨h2,e2⟩:=x0.mp b;exact(List.getElem_inj hN).mp (e1.trans e2.symm)
def zA{M:Model}{Q:Unit->Shared->Prop} (I:Inv X ZY σ H s) (hN:X.N.Nodup) (hi:X.N[i]?=some x) (hx:Loc X.env.scope x) (r:RelV v u)
  (h:∀s',Inv X ZY (σ.set i (some v)) H s'->(∃a,Heap.SameBut a s.heap s'.heap/\(a=X.env.locals\/X.env.cells.lookup x=some a))->Q () s') (hf:autoParam (X.fn x=true\/X.env.scope.names.lookup x=some .local) aj._auto_1):wpAny M A (storeName X.env x u) Q E s:=by
 obtain⟨m,hn,hl⟩:=id I.loc;have hcls:(X.env.scope.kind==.class||(X.env.scope.kind==.module&&X.env.locals != X.env.globals))=false:=by rw[I.ok.kind];rfl
 have hiσ:i<σ.length:=by rw[I.len];exact(x0.mp hi).1
 have cne:=I.cne;have tracked:∀{a:Addr}{h':Heap},(∃o,s.heap.get? a=some o/\H a=none)->Heap.SameBut a s.heap h'->HOk X.prog X.w H h':=λ{a h'} ha hs b ob e=>by
  obtain⟨_,_,hfree⟩:=ha;refine(I.hok b ob e).stay (λc w' hc q=>(hs.2 c ?_).trans q) (λ_ q=>q) λ_ _ q=>q
  rintro rfl;rcases hc with rfl|hc
  ·rw[hfree] at e;cases e
  ·rw[hfree] at hc;cases hc
 rcases hx with hk|hk
 ·refine wpAny_storeName_local hk hn (fun h' hn' hs=>?_) hcls
  obtain⟨oL,_,_,hoL,_⟩:=id hn;refine h _ ⟨I.ok,I.os,I.bare,⟨λb o e n hb hx=>?_,λb o e n hb hx=>?_,I.base.free,λb o e hx=>?_,I.base.tups,I.base.frzs,I.base.tbls⟩,⟨_,hn',λj y v' e1 e2 e3=>?_⟩,λy c e=>?_,I.free,I.freeC,λp hp=>?_,tracked ⟨oL,hoL,I.free⟩ hs,by simpa using I.len⟩ ⟨_,hs,.inl rfl⟩
  ·exact(hs.2 b (v6 (v5 (z8 e) I.ok.above))).trans (I.base.keep b o e n hb hx)
  ·obtain ⟨sl,e1⟩:=I.base.slot b o e n hb hx
   exact⟨sl,(hs.2 b (v6 (v5 (z8 e) I.ok.above))).trans e1⟩
  ·obtain ⟨o',e1⟩:=I.base.there b o e hx
   exact⟨o',(hs.2 b (v6 (v5 (z8 e) I.ok.above))).trans e1⟩
  ·by_cases hj:j=i
   ·subst hj
    rw[hi] at e1;cases e1;rw[List.getElem?_set_self hiσ] at e2;cases e2;exact⟨u,r,.inl ⟨hk,by simp⟩⟩
   ·rw [List.getElem?_set_ne (YN hj)] at e2
    obtain⟨u',r',q⟩:=hl j y v' e1 e2 e3;refine⟨u',r',?_⟩;rcases q with⟨k,e⟩|⟨k,c,e,z⟩
    ·refine .inl ⟨k,?_⟩
     have:y≠x:=λe=>hj (zZ hN e1 (e ▸ hi))
     simp[this,e]
    ·exact .inr ⟨k,c,e,z.sameBut hs (cne y c e)⟩
  ·obtain ⟨w',z⟩:=I.cell y c e
   exact⟨w',z.sameBut hs (cne y c e)⟩
  ·obtain ⟨e,n,ne,nf,d⟩:=I.pin p hp
   exact⟨(hs.2 p.1 ne).trans e,n,ne,nf,d⟩
 ·have hfn:X.fn x=true:=by
   rcases hf with z|z
   ·exact z
   ·rw[z] at hk;cases hk
  obtain⟨c,hc⟩:=I.ok.has x (.inl hk);obtain⟨w',z⟩:=I.cell x c hc;refine wpAny_storeName_cell I.ok.kind hk hc z (λh' hc' hs=>?_)
  obtain⟨oc,hoc,hocd⟩:=id z;refine h { s with heap:=h' } ⟨I.ok,I.os,I.bare,⟨λb o e n hb hx=>?_,λb o e n hb hx=>?_,I.base.free,λb o e hx=>?_,I.base.tups,I.base.frzs,I.base.tbls⟩,⟨m,hn.sameBut hs (YN (cne x c hc)),λj y v' e1 e2 e3=>?_⟩,λy c' e=>?_,I.free,I.freeC,λp hp=>?_,tracked ⟨oc,hoc,I.freeC x c hc⟩ hs,by simpa using I.len⟩ ⟨c,hs,.inr hc⟩
  ·exact(hs.2 b (v6 (v5 (z8 e) (I.ok.cab x c hfn hc)))).trans (I.base.keep b o e n hb hx)
  ·obtain ⟨sl,e1⟩:=I.base.slot b o e n hb hx
   exact⟨sl,(hs.2 b (v6 (v5 (z8 e) (I.ok.cab x c hfn hc)))).trans e1⟩
  ·obtain ⟨o',e1⟩:=I.base.there b o e hx
   exact⟨o',(hs.2 b (v6 (v5 (z8 e) (I.ok.cab x c hfn hc)))).trans e1⟩
  ·by_cases hj:j=i
   ·subst hj
    rw[hi] at e1;cases e1;rw[List.getElem?_set_self hiσ] at e2;cases e2;exact⟨u,r,.inr ⟨.inl hk,c,hc,hc'⟩⟩
   ·rw [List.getElem?_set_ne (YN hj)] at e2
    obtain⟨u',r',q⟩:=hl j y v' e1 e2 e3;refine⟨u',r',?_⟩;rcases q with q|⟨k,c',e,z'⟩
    ·exact .inl q
    ·refine .inr ⟨k,c',e,z'.sameBut hs ?_⟩
     rintro rfl;exact hj (zZ hN e1 (I.ok.inj _ _ _ e hc ▸ hi))
  ·by_cases hcc:c'=c
   ·subst hcc;exact⟨_,hc'⟩
   ·obtain ⟨w2,z2⟩:=I.cell y c' e
    exact⟨w2,z2.sameBut hs hcc⟩
  ·obtain ⟨e,n,ne,nf,d⟩:=I.pin p hp
   refine⟨(hs.2 p.1 ?_).trans e,n,ne,nf,d⟩;intro q;rw[q,hoc] at e;have q':oc=p.2:=ZS e;exact d w' (by rw[<- q'];exact hocd)
def Ak{M:Model}{Q:Unit->Shared->Prop} (I:Inv X ZY σ H s) (hN:X.N.Nodup) (hi:X.N[i]?=some x) (hx:Loc X.env.scope x) (r:RelV v u)
  (h:∀s',Inv X ZY (σ.set i (some v)) H s'->Q () s') (hf:autoParam (X.fn x=true\/X.env.scope.names.lookup x=some .local) aj._auto_1):wpAny M A (storeName X.env x u) Q E s :=
 zA I hN hi hx r (λs' I' _=>h s' I') hf
def Inv.call'{ch:List Addr} (I:Inv X ZY σ H s) (ho:s'.os=s.os) (u:Un (T1 X.stack) ch H H' s.heap s'.heap) (hok:HOk X.prog X.w H' s'.heap) (hg:AllBare s'.gens)
  (hch:∀b∈ch,(b∈X.ex\/X.s₀.heap.objs.size<=b)/\b≠X.env.locals/\(∀x c,X.env.cells.lookup x=some c->c≠b)/\∀p∈X.pn++ZY,p.1≠b):Inv X ZY σ H' s':=by
 obtain⟨h',g',d',t',o'⟩:=s';have e:o'=s.os:=ho;subst e;exact I.call (g':=g') (t':=t') (d':=d') u hok hg hch
end
abbrev XK:=Value->Option Addr->Hp->Prop
abbrev St:=List (Option V)
variable {σ:St}
abbrev VK:=V->Hp->Prop
abbrev TE:=St->Hp->VK->Prop
variable {ta te tl:TE}
abbrev TT:=St->Hp->(Bool->Hp->Prop)->Prop
abbrev TA:=St->Hp->(List V->Hp->Prop)->Prop
variable {t:TA}
structure Vd where
 nx:St->Hp->Prop
 rt:VK
 bk:St->Hp->Prop:=λ_ _=>False
 ct:St->Hp->Prop:=λ_ _=>False
abbrev TS:=Vd->St->Hp->Prop
variable {tb:TS}
def EP (X:Cx) (ZY:LO) (σ:St) (Q:VK) (u:Value) (s':Shared):Prop:=∃v H',Inv X ZY σ H' s'/\RelV v u/\Q v H'
def TP (X:Cx) (ZY:LO) (σ:St) (Q:Bool->Hp->Prop) (b:Bool) (s':Shared):Prop:=∃H',Inv X ZY σ H' s'/\Q b H'
def AP (X:Cx) (ZY:LO) (σ:St) (Q:List V->Hp->Prop) (us:List Value) (s':Shared):Prop:=∃vs H',Inv X ZY σ H' s'/\Vals vs us/\Q vs H'
def SP (X:Cx) (ZY:LO) (D:Vd) (f:Flow) (s':Shared):Prop :=
 match f with
 | .next=>∃σ' H',Inv X ZY σ' H' s'/\D.nx σ' H'
 | .brk=>∃σ' H',Inv X ZY σ' H' s'/\D.bk σ' H'
 | .cont=>∃σ' H',Inv X ZY σ' H' s'/\D.ct σ' H'
 | .ret u=>∃v σ' H',Inv X ZY σ' H' s'/\RelV v u/\D.rt v H'
def PE (X:Cx) (e:Expr) (t:TE):Prop :=
 ∀(ZY:LO) (s:Shared) (σ:St) (H:Hp) (Q:VK),Inv X ZY σ H s->t σ H Q->wpAny (model X.prog X.w) X.A (eval e X.env) (EP X ZY σ Q) X.xe s
def PT (X:Cx) (e:Expr) (t:TT):Prop :=
 ∀(ZY:LO) (s:Shared) (σ:St) (H:Hp) (Q:Bool->Hp->Prop),Inv X ZY σ H s->t σ H Q->wpAny (model X.prog X.w) X.A (isTrue e X.env (eval e X.env)) (TP X ZY σ Q) X.xe s
def PW (X:Cx) (e:Expr) (t:TT):Prop :=
 ∀(whole:Sem Value) (ZY:LO) (s:Shared) (σ:St) (H:Hp) (Q:Bool->Hp->Prop),Inv X ZY σ H s->t σ H Q->wpAny (model X.prog X.w) X.A (isTrue e X.env whole) (TP X ZY σ Q) X.xe s
def PW.pt{t:TT} (h:PW X e t):PT X e t:=h _
def PA (X:Cx) (es:List Expr) (t:TA):Prop :=
 ∀(pos:Pos) (ZY:LO) (s:Shared) (σ:St) (H:Hp) (Q:List V->Hp->Prop),Inv X ZY σ H s->t σ H Q->wpAny (model X.prog X.w) X.A (spliced (backTo pos (starEach es X.env))) (AP X ZY σ Q) X.xe s
def PS (X:Cx) (st:Stmt) (t:TS):Prop :=
 ∀(ZY:LO) (s:Shared) (σ:St) (H:Hp) (D:Vd),Inv X ZY σ H s->t D σ H->wpAny (model X.prog X.w) X.A (exec st X.env) (SP X ZY D) X.xe s
def PSs (X:Cx) (st:List Stmt) (t:TS):Prop :=
 ∀(ZY:LO) (s:Shared) (σ:St) (H:Hp) (D:Vd),Inv X ZY σ H s->t D σ H->wpAny (model X.prog X.w) X.A (execs st X.env) (SP X ZY D) X.xe s
def Z2{t:Sem α}{Q Q':α->Shared->Prop}{M:Model} (h:wpAny M A t Q E s) (hQ:∀a s,Q a s->Q' a s):wpAny M A t Q' E s:=XZ h hQ λ_ _ x=>x
section
def D9 (i:Nat):TE:=λσ H Q=>∃v,σ[i]?=some (some v)/\Q v H
def tC (v:V):TE:=λ_ H Q=>Q v H
def U2(hN:X.N[i]?=some x) (hv:Ut X.env.scope x) (hd:autoParam ((x==("__debug__":Str))=false) ac._auto_1) (Xa:autoParam ((x==("__classdict__":Str))=false) ac._auto_1):PE X (.Name x pos) (D9 i):=by
 intro ZY s σ H Q I h;obtain⟨v,e,h⟩:=h;obtain⟨m,hn,hl⟩:=I.loc;obtain⟨u,r,l⟩:=hl i x v hN e hv;have Xe:EP X ZY σ Q u s:=⟨v,H,I,r,h⟩;rcases l with⟨hk,hm⟩|⟨hk,c,hc,hcell⟩
 ·exact wpAny_Name (wpAny_loadName_local I.ok.kind hk hn hm Xe) hd
 ·rcases hk with hk | hk
  ·exact wpAny_Name (wpAny_loadName_cell I.ok.kind hk hc hcell Xe) hd
  ·exact wpAny_Name (wpAny_loadName_free I.ok.kind hk hc hcell Xe Xa) hd
def ML {i j pos}:PE X (.Constant (.int i) j pos) (tC (.int i)):=λ_ _ _ H _ I h=>wpAny_Constant_int ⟨.int i,H,I.tok _,⟨_,rfl⟩,h⟩
def Jo {b j pos}:PE X (.Constant (.bool b) j pos) (tC (.bl b)):=λ_ _ _ H _ I h=>Constant_bool ⟨.bl b,H,I,rfl,h⟩
def MM {j pos}:PE X (.Constant .none j pos) (tC .non):=λ_ _ _ H _ I h=>Constant_none ⟨.non,H,I,rfl,h⟩
def MP {x j pos}:PE X (.Constant (.str x) j pos) (tC (.str x)):=λ_ _ _ H _ I h=>Calls.Constant_str ⟨.str x,H,I.tok _,⟨_,rfl⟩,h⟩
def Gl (X:Cx) (x:Str):Prop:=X.env.kindOf x=some .globalImplicit
def K9(I:Inv X ZY σ H s) (hg:Gl X x) (hm:X.mg x=some u) (h:Q u s)
  (hd:autoParam ((x==("__debug__":Str))=false) ac._auto_1):wpAny (model X.prog X.w) X.A (eval (.Name x pos) X.env) Q E s :=
 Calls.Name_function_global I.ok.kind hg (Calls.loadGlobal_global (by rw[I.ok.glob];exact I.mod.glob.keeps I.bk) hm h) hd
def SU(I:Inv X ZY σ H s) (hg:Gl X x) (hm:X.mg x=none) (hv:bootBuiltins x=some u) (h:Q u s)
  (hn:autoParam (x≠"__name__") ac._auto_1) (hd:autoParam ((x==("__debug__":Str))=false) ac._auto_1):wpAny (model X.prog X.w) X.A (eval (.Name x pos) X.env) Q E s:=by
 obtain⟨mb,h1,h2⟩:=I.mod.blt;exact Calls.Name_function_global I.ok.kind hg (Calls.loadGlobal_builtin (by rw[I.ok.glob];exact I.mod.glob.keeps I.bk) hm (by rw[I.ok.blt];exact h1.keeps I.bk) ((h2 x hn).trans hv) h) hd
def B8(hg:Gl X x) (hm:X.mg x=some u) (r:RelV v u) (hd:autoParam ((x==("__debug__":Str))=false) ac._auto_1):PE X (.Name x pos) (tC v) :=
 λ_ _ _ H _ I h=>K9 I hg hm ⟨v,H,I,r,h⟩ hd
def Qg(hg:Gl X x) (hm:X.mg x=none) (hv:bootBuiltins x=some u) (r:RelV v u) (hn:autoParam (x≠"__name__") ac._auto_1) (hd:autoParam ((x==("__debug__":Str))=false) ac._auto_1):PE X (.Name x pos) (tC v) :=
 λ_ _ _ H _ I h=>SU I hg hm hv ⟨v,H,I,r,h⟩ hn hd
variable {a b:Expr}{tb:TE}
def tB (t:TE):TT:=λσ H Q=>t σ H λx H1=>∃c,x=.bl c/\Q c H1
def N4{t:TE} (h:PE X e t) (he:autoParam (∀whole,isTrue e X.env whole=(do let v <- whole;standAt e.pos;holding [v] (truthy v))) af._auto_1):PT X e (tB t):=by
 intro ZY s σ H Q I hw;refine isTrue_plain (Z2 (h ZY s σ H _ I hw) λv s1 z92=>?_) (he _)
 obtain⟨x,H1,I1,r1,q1⟩:=z92;obtain⟨d,rfl,q⟩:=q1;cases r1;exact Ze ⟨H1,I1,q⟩
variable {tA tB':TT}
def CW (t u:TT):TT:=λσ H Q=>t σ H λc H1=>if c=true then u σ H1 Q else Q false H1
def rO (t u:TT):TT:=λσ H Q=>t σ H λc H1=>if c=true then Q true H1 else u σ H1 Q
def D4 (t:TT):TT:=λσ H Q=>t σ H λc H1=>Q (!c) H1
def Qy (ha:PT X a tA):PW X (.BoolOp .And [a] pos) tA:=by
 intro wh ZY s σ H Q I h;refine isTrue_and (Z2 (ha ZY s σ H Q I h) λc s1 e=>?_)
 cases c with
 | true=>exact isTrue_and_nil e
 | false=>exact e
def N8 (ha:PT X a tA):PW X (.BoolOp .Or [a] pos) tA:=by
 intro wh ZY s σ H Q I h;refine isTrue_or (Z2 (ha ZY s σ H Q I h) λc s1 e=>?_)
 cases c with
 | false=>exact isTrue_or_nil e
 | true=>exact e
def N7 (ha:PT X a tA) (hb:PW X (.BoolOp .And (b::YO) pos) tB'):PW X (.BoolOp .And (a::b::YO) pos) (CW tA tB'):=by
 intro wh ZY s σ H Q I h;refine isTrue_and (Z2 (ha ZY s σ H _ I h) λc s1 z93=>?_)
 obtain⟨H1,I1,q1⟩:=z93;cases c with
 | true=>exact hb wh ZY s1 σ H1 Q I1 q1
 | false=>exact⟨H1,I1,q1⟩
def Jt (ha:PT X a tA) (hb:PW X (.BoolOp .Or (b::YO) pos) tB'):PW X (.BoolOp .Or (a::b::YO) pos) (rO tA tB'):=by
 intro wh ZY s σ H Q I h;refine isTrue_or (Z2 (ha ZY s σ H _ I h) λc s1 z94=>?_)
 obtain⟨H1,I1,q1⟩:=z94;cases c with
 | true=>exact⟨H1,I1,q1⟩
 | false=>exact hb wh ZY s1 σ H1 Q I1 q1
def N3 (ha:PT X a tA):PT X (.UnaryOp .Not a pos) (D4 tA):=by
 intro ZY s σ H Q I h;exact isTrue_not (ha ZY s σ H (λc H1=>Q (!c) H1) I h)
def JG (ta tb:TE):TE:=λσ H Q=>ta σ H λx H1=>∃c,x=.bl c/\if c=true then tb σ H1 Q else Q (.bl false) H1
def D5 (ta tb:TE):TE:=λσ H Q=>ta σ H λx H1=>∃c,x=.bl c/\if c=true then Q (.bl true) H1 else tb σ H1 Q
def JL (ta:TE):TE:=λσ H Q=>ta σ H λx H1=>∃c,x=.bl c/\Q (.bl (!c)) H1
def MO {op}{t:TE} (h:PE X a t):PE X (.BoolOp op [a] pos) t:=λZY s σ H Q I hw=>BoolOp_one (h ZY s σ H Q I hw)
def MJ (ha:PE X a ta) (hb:PE X (.BoolOp .And (b::YO) pos) tb):PE X (.BoolOp .And (a::b::YO) pos) (JG ta tb):=by
 intro ZY s σ H Q I h;refine BoolOp_and (Z2 (ha ZY s σ H _ I h) λv s1 z95=>?_)
 obtain⟨x,H1,I1,r1,q1⟩:=z95;obtain⟨c,rfl,q1⟩:=q1;cases r1;refine Ze ?_;cases c with
 | true=>exact hb ZY s1 σ H1 Q I1 q1
 | false=>exact⟨.bl false,H1,I1,rfl,q1⟩
def Jq (ha:PE X a ta) (hb:PE X (.BoolOp .Or (b::YO) pos) tb):PE X (.BoolOp .Or (a::b::YO) pos) (D5 ta tb):=by
 intro ZY s σ H Q I h;refine BoolOp_or (Z2 (ha ZY s σ H _ I h) λv s1 z96=>?_)
 obtain⟨x,H1,I1,r1,q1⟩:=z96;obtain⟨c,rfl,q1⟩:=q1;cases r1;refine Ze ?_;cases c with
 | false=>exact hb ZY s1 σ H1 Q I1 q1
 | true=>exact⟨.bl true,H1,I1,rfl,q1⟩
def MN (ha:PE X a ta):PE X (.UnaryOp .Not a pos) (JL ta):=by
 intro ZY s σ H Q I h;refine UnaryOp_ (Z2 (ha ZY s σ H _ I h) λv s1 z97=>?_)
 obtain⟨x,H1,I1,r1,q1⟩:=z97;obtain⟨c,rfl,q1⟩:=q1;cases r1;exact not_of (Ze ⟨.bl (!c),H1,I1,rfl,q1⟩)
def rN (t:TT) (ta tb:TE):TE:=λσ H Q=>t σ H λc H1=>if c=true then ta σ H1 Q else tb σ H1 Q
def xK(hc:PT X c tA) (ha:PE X a ta) (hb:PE X b tb):PE X (.IfExp c a b pos) (rN tA ta tb):=by
 intro ZY s σ H Q I h;refine wpAny_IfExp (Z2 (hc ZY s σ H _ I h) λd s1 z98=>?_)
 obtain⟨H1,I1,q1⟩:=z98;cases d with
 | true=>exact ha ZY s1 σ H1 Q I1 q1
 | false=>exact hb ZY s1 σ H1 Q I1 q1
end
def Wr (K:W.Frag) (H:Hp) (a:Addr) (xs:List V):Prop :=
 Rd H a (.lst xs) \/
  ∃(o:Obj) (ZO:Array Value) (n:Nat),K.lookup a=some o/\o.cls=.type "list"/\o.dict=none/\o.data=.seq ZO n/\ZO.size<=sizeLine/\Vals xs ZO.toList
def UF (K:W.Frag) (H:Hp) (a:Addr) (xs:List V):Prop :=
 Rd H a (.tup xs) \/
  ∃(o:Obj) (ZO:Array Value) (n:Nat),K.lookup a=some o/\o.cls=.type "tuple"/\o.data=.seq ZO n/\ZO.size<=sizeLine/\Vals xs ZO.toList
noncomputable def Ca:Value->Option V
 | .none=>some .non
 | .bool b=>some (.bl b)
 | .int i _=>some (.int i)
 | .str x _=>some (.str x)
 | .bytes b _=>some (.byt b)
 | .float b _=>some (.flt b)
 | .ref a=>some (.ref a)
 | .type n=>some (.ty n)
 | _=>none
def RelV.abs{x:V} (r:RelV x u):Ca u=some x:=by
 cases x with
 | non=>cases r;rfl
 | bl _=>cases r;rfl
 | int _=>obtain⟨t,rfl⟩:=r;rfl
 | str _=>obtain⟨t,rfl⟩:=r;rfl
 | byt _=>obtain⟨t,rfl⟩:=r;rfl
 | flt _=>obtain⟨t,rfl⟩:=r;rfl
 | ref _=>cases r;rfl
 | ty _=>cases r;rfl
theorem RelV.inj{x:V} (r:RelV x u) (q:RelV y u):x=y:=ZS (r.abs.symm.trans q.abs)
theorem Vals.inj:∀{xs ys:List V}{us:List Value},Vals xs us->Vals ys us->xs=ys
 | _,_,_,.nil,.nil=>rfl
 | _,_,_,.cons r t,.cons r' t'=>by rw[r.inj r',Vals.inj t t']
section
variable {ys:List V}
theorem Inv.list (I:Inv X ZY σ H s) (h:Wr X.K H a xs):∃ZO:List Value,Vals xs ZO/\PlainL s.heap a ZO.toArray/\xs.length<=sizeLine:=by
 rcases h with h|⟨o,ZO,n,hk,hc,hd,hs,hz,r⟩
 ·obtain ⟨z,ZO,n,r,e⟩:=h.ok I.hok
  exact⟨ZO,r,⟨_,n,e,rfl,rfl,rfl⟩,z⟩
 ·refine ⟨ZO.toList,r,⟨o,n,I.kIn a o hk,hc,hd,by simpa using hs⟩,?_⟩
  have e:=r.length;simp only[q9] at e;lia
theorem Inv.tuple (I:Inv X ZY σ H s) (h:UF X.K H a xs):∃ZO:List Value,Vals xs ZO/\IsTup s.heap a ZO.toArray/\xs.length<=sizeLine:=by
 rcases h with h|⟨o,ZO,n,hk,hc,hs,hz,r⟩
 ·obtain ⟨z,ZO,r,p⟩:=h.ok I.hok
  exact⟨ZO,r,p,z⟩
 ·refine ⟨ZO.toList,r,⟨o,I.kIn a o hk,hc,n,by simpa using hs⟩,?_⟩
  have e:=r.length;simp only[q9] at e;lia
def Inv.list_inj (I:Inv X ZY σ H s) (h:Wr X.K H a xs) (h':Wr X.K H a ys):xs=ys:=by
 obtain⟨ZO,r,⟨o,n,e,_,_,d⟩,_⟩:=I.list h;obtain⟨its',r',⟨o',n',e',_,_,d'⟩,_⟩:=I.list h';rw[e] at e';cases e';rw[d] at d';injection d' with d1 _
 have:ZO=its':=by simpa using congrArg Array.toList d1
 subst this;exact r.inj r'
def Inv.tuple_inj (I:Inv X ZY σ H s) (h:UF X.K H a xs) (h':UF X.K H a ys):xs=ys:=by
 obtain⟨ZO,r,⟨o,e,_,n,d⟩,_⟩:=I.tuple h;obtain⟨its',r',⟨o',e',_,n',d'⟩,_⟩:=I.tuple h';rw[e] at e';cases e';rw[d] at d';injection d' with d1 _
 have:ZO=its':=by simpa using congrArg Array.toList d1
 subst this;exact r.inj r'
end
abbrev Cx.wish (X:Cx) (E:VP):Cx:={ X with xe:=E }
abbrev Cx.nox (X:Cx):Cx:=X.wish λ_ _=>False
theorem Cx.Ok.wish(ok:X.Ok) (E:VP):(X.wish E).Ok :=
 ⟨ok.mod,ok.kind,ok.glob,ok.blt,ok.above,ok.inj,ok.has,ok.cab,ok.hd,ok.frames,ok.stk,ok.exf,ok.bs,ok.bsz,ok.noex,ok.exfs,ok.funs,ok.frf⟩
def Cx.Ok.unwish(ok:(X.wish E).Ok):X.Ok :=
 ⟨ok.mod,ok.kind,ok.glob,ok.blt,ok.above,ok.inj,ok.has,ok.cab,ok.hd,ok.frames,ok.stk,ok.exf,ok.bs,ok.bsz,ok.noex,ok.exfs,ok.funs,ok.frf⟩
theorem Inv.wish (I:Inv X ZY σ H s) (E:VP):Inv (X.wish E) ZY σ H s:=⟨I.ok.wish E,I.os,I.bare,I.base,I.loc,I.cell,I.free,I.freeC,I.pin,I.hok,I.len⟩
theorem Inv.unwish (I:Inv (X.wish E) ZY σ H s):Inv X ZY σ H s:=⟨I.ok.unwish,I.os,I.bare,I.base,I.loc,I.cell,I.free,I.freeC,I.pin,I.hok,I.len⟩
theorem SP.unwish{D:Vd}{f:Flow} (h:SP (X.wish E) ZY D f s'):SP X ZY D f s':=by
 cases f with
 | next=>obtain⟨σ',H',I,q⟩:=h;exact⟨σ',H',I.unwish,q⟩
 | brk=>obtain⟨σ',H',I,q⟩:=h;exact⟨σ',H',I.unwish,q⟩
 | cont=>obtain⟨σ',H',I,q⟩:=h;exact⟨σ',H',I.unwish,q⟩
 | ret u=>obtain⟨v,σ',H',I,r,q⟩:=h;exact⟨v,σ',H',I.unwish,r,q⟩
theorem PSs.nox{t:TS} (h:PSs X.nox st t):PSs X st t:=λZY s σ H D I hw =>
 XZ (h ZY s σ H D (I.wish _) hw) (λ_ _ q=>q.unwish) λ_ _ z=>False.elim z
section
variable {st:Stmt}{YO:List Stmt}{t u:TS}
def JK:TS:=λD σ H=>D.nx σ H
def D7 (t u:TS):TS:=λD σ H=>t { D with nx:=u D } σ H
def EU:PSs X [] JK:=λ_ _ σ H _ I h=>wpAny_execs_nil ⟨σ,H,I,h⟩
def Hb (h1:PS X st t) (h2:PSs X YO u):PSs X (st::YO) (D7 t u):=by
 intro ZY s σ H D I h;refine wpAny_execs_cons (Z2 (h1 ZY s σ H { D with nx:=u D } I h) λf s1 q=>?_)
 cases f with
 | next =>
  obtain⟨σ',H',I',q⟩:=q;exact h2 ZY s1 σ' H' D I' q
 | ret v=>exact q
 | brk=>exact q
 | cont=>exact q
def Hv (h1:PS X st t):PSs X [st] t:=by
 intro ZY s σ H D I h;refine wpAny_execs_cons (Z2 (h1 ZY s σ H D I h) λf s1 q=>?_)
 cases f with
 | next=>exact wpAny_execs_nil q
 | ret v=>exact q
 | brk=>exact q
 | cont=>exact q
def Inv.quiet(I:Inv X ZY σ H s):interactive X.env=false:=by simp[interactive,I.ok.kind]
def JH (te:TE):TS:=λD σ H=>te σ H λ_ H1=>D.nx σ H1
def L7 (he:PE X e te) (hs:autoParam (swapsWith e none pos.line X.env=pure false) aa._auto_1):PS X (.Expr e pos) (JH te):=by
 intro ZY s σ H D I h;exact wpAny_Expr_any (Z2 (he ZY s σ H _ I h) λv s1 z99=>by obtain⟨x,H1,I1,r1,q1⟩:=z99;exact⟨σ,H1,I1,q1⟩) I.quiet hs
def D6 (te:TE):TS:=λD σ H=>te σ H D.rt
def FC (he:PE X e te):PS X (.Return (some e) pos) (D6 te):=by
 intro ZY s σ H D I h;exact wpAny_Return_some (Z2 (he ZY s σ H _ I h) λv s1 z910=>by obtain⟨x,H1,I1,r1,q1⟩:=z910;exact⟨x,σ,H1,I1,r1,q1⟩)
def D1 (c:TT) (t u:TS):TS:=λD σ H=>c σ H λb H1=>if b=true then t D σ H1 else u D σ H1
def Sn{a b:List Stmt}{tc:TT} (hc:PT X c tc) (ha:PSs X a t) (hb:PSs X b u):PS X (.If c a b pos) (D1 tc t u):=by
 intro ZY s σ H D I h;refine wpAny_If (Z2 (hc ZY s σ H _ I h) λd s1 z911=>?_)
 obtain⟨H1,I1,q1⟩:=z911;cases d with
 | true=>exact ha ZY s1 σ H1 D I1 q1
 | false=>exact hb ZY s1 σ H1 D I1 q1
end
abbrev TG:=V->St->Hp->(St->Hp->Prop)->Prop
abbrev NW:=List V->St->Hp->(St->Hp->Prop)->Prop
def PG (X:Cx) (target:Expr) (t:TG):Prop :=
 ∀(ZY:LO) (s:Shared) (σ:St) (H:Hp) (v:V) (u:Value) (Q:St->Hp->Prop),Inv X ZY σ H s->RelV v u->t v σ H Q ->
  wpAny (model X.prog X.w) X.A (assign target X.env u) (λ_ s'=>∃σ' H',Inv X ZY σ' H' s'/\Q σ' H') X.xe s
def Ik (X:Cx) (ts:List Expr) (t:NW):Prop :=
 ∀(ZY:LO) (s:Shared) (σ:St) (H:Hp) (vs:List V) (us:List Value) (Q:St->Hp->Prop),Inv X ZY σ H s->Vals vs us->t vs σ H Q ->
  wpAny (model X.prog X.w) X.A (assignInOrder ((assignEach ts X.env).map (·.2)) us) (λ_ s'=>∃σ' H',Inv X ZY σ' H' s'/\Q σ' H') X.xe s
abbrev LC:=V->V->V->Hp->(Hp->Prop)->Prop
def Il (X:Cx) (t:LC):Prop :=
 ∀(ZY:LO) (s:Shared) (σ:St) (H:Hp) (o i v:V) (ov iv u:Value) (Q:Hp->Prop),Inv X ZY σ H s->RelV o ov->RelV i iv->RelV v u->t o i v H Q ->
  wpAny (model X.prog X.w) X.A (setItem ov iv u) (λ_ s'=>∃H',Inv X ZY σ H' s'/\Q H') X.xe s
def V3 (i:Nat):TG:=λv σ H Q=>Q (σ.set i (some v)) H
def Qm(hN:X.N.Nodup) (hi:X.N[i]?=some x) (hx:Loc X.env.scope x) (hf:autoParam (X.fn x=true\/X.env.scope.names.lookup x=some .local) aj._auto_1):PG X (.Name x pos) (V3 i):=by
 intro ZY s σ H v u Q I r h;exact wpAny_assign_Name (Ak I hN hi hx r (λs' I'=>⟨_,H,I',h⟩) hf)
def Cm:NW:=λvs σ H Q=>vs=[]/\Q σ H
def IU (t:TG) (u:NW):NW:=λvs σ H Q=>∃v r,vs=v::r/\t v σ H λσ' H'=>u r σ' H' Q
def Qn:Ik X [] Cm:=by
 intro ZY s σ H vs us Q I r h;obtain⟨e,h⟩:=h;subst e;cases r;exact assignInOrder_nil ⟨σ,H,I,h⟩
def xJ{t:TG}{u:NW} (h1:PG X e t) (h2:Ik X es u)
  (hs:autoParam ((assignEach (e::es) X.env).map (·.2)=assign e X.env::(assignEach es X.env).map (·.2)) aa._auto_1):Ik X (e::es) (IU t u):=by
 intro ZY s σ H vs us Q I r h;obtain⟨v,vr,e1,h⟩:=h;subst e1;cases r with
 | cons r rr =>
  rw[hs];refine assignInOrder_cons (Z2 (h1 ZY s σ H _ _ _ I r h) λ_ s1 z912=>?_)
  obtain⟨σ1,H1,I1,q1⟩:=z912;exact h2 ZY s1 σ1 H1 _ _ Q I1 rr q1
def Cp (K:W.Frag) (n:Nat) (t:NW):TG:=λv σ H Q=>∃a xs,v=.ref a/\UF K H a xs/\xs.length=n/\t xs σ H Q
def MS{t:NW} (hc:X.calm=true) (h:Ik X es t)
  (hn:autoParam ((assignEach es X.env).length=n) aa._auto_1) (WY:autoParam ((assignEach es X.env).findIdx? (·.1)=none) aa._auto_1):PG X (.Tuple es k pos) (Cp X.K n t):=by
 intro ZY s σ H v u Q I r hw;obtain⟨a,xs,e1,hq,hl,hw⟩:=hw;subst e1;cases r;obtain⟨ZO,rv,ht,hz⟩:=I.tuple hq;refine assign_Tuple_tuple (I.ok.hd hc) ht (by simp[hn,<- hl,rv.length]) WY λh' hx=>?_
 have I1:Inv X ZY σ H { s with heap:=h' }:=I.kept (t':=s.toks) λb o e=>hx b o (v6 (z8 e)) e
 exact h ZY _ σ H xs _ Q I1 (by simpa using rv) hw
def Co (to ti:TE) (t:LC):TG:=λv σ H Q=>to σ H λo H1=>ti σ H1 λi H2=>t o i v H2 λH3=>Q σ H3
def MR {o i:Expr}{to ti:TE}{t:LC} (ho:PE X o to) (hi:PE X i ti) (hs:Il X t)
  (ha:autoParam (∀ v,assign (.Subscript o i pos) X.env v=(do
   let ov <- holding [v] (eval o X.env)
   let iv <- holding [v,ov] (eval i X.env)
   standAt pos
   holding [v,ov,iv] (setItem ov iv v)
   release [v,ov,iv] [])) af._auto_1):PG X (.Subscript o i pos) (Co to ti t):=by
 intro ZY s σ H v u Q I r h;rw[ha];refine ZZ (Zx (Z2 (ho ZY s σ H _ I h) λov s1 z913=>?_))
 obtain⟨x,H1,I1,r1,q1⟩:=z913;refine ZZ (Zx (Z2 (hi ZY s1 σ H1 _ I1 q1) λiv s2 z914=>?_))
 obtain⟨y,H2,I2,r2,q2⟩:=z914;refine ZZ (wpAny_standAt (ZZ (Zx (Z2 (hs ZY s2 σ H2 x y v ov iv u _ I2 r1 r2 r q2) λ_ s3 z915=>?_))))
 obtain⟨H3,I3,q3⟩:=z915;exact wpAny_release ⟨σ,H3,I3,q3⟩
def QV (te:TE) (g:TG):TS:=λD σ H=>te σ H λx H1=>g x σ H1 D.nx
def MZ{g:TG} (he:PE X e te) (hg:PG X tg g) (hs:autoParam (swapsWithSole [tg] e pos.line X.env=pure false) aa._auto_1) (hw:autoParam (swappedStores [tg] e X.env=pure none) aa._auto_1)
  (h1:autoParam ((assignEach [tg] X.env).map (·.2)=[assign tg X.env]) aa._auto_1):PS X (.Assign [tg] e pos) (QV te g):=by
 intro ZY s σ H D I h;refine wpAny_Assign_stores (Z2 (he ZY s σ H _ I h) λv s1 z916=>?_) hs hw
 obtain⟨x,H1,I1,r1,q1⟩:=z916;rw[h1];exact Z2 (hg ZY s1 σ H1 x v _ I1 r1 q1) λ_ s2 q=>q
def N2(hN:X.N.Nodup) (hi:X.N[i]?=some x) (hx:Loc X.env.scope x) (he:PE X e te) (hs:autoParam (swapsWith e (some (.Name x pos')) pos.line X.env=pure false) aa._auto_1) (hf:autoParam (X.fn x=true\/X.env.scope.names.lookup x=some .local) aj._auto_1) :
  PS X (.Assign [.Name x pos'] e pos) (QV te (V3 i)):=by
 intro ZY s σ H D I h;refine wpAny_Assign_Name (Z2 (he ZY s σ H _ I h) λv s1 z917=>?_) hs
 obtain⟨y,H1,I1,r1,q1⟩:=z917;exact Ak I1 hN hi hx r1 (λs2 I2=>⟨_,H1,I2,q1⟩) hf
def Nm (c:TT) (tb:TS):TS:=λD σ H=>∃W:Nat->St->Hp->Prop,(∃m,W m σ H)/\∀m σ H,W m σ H ->
 c σ H λb H1=>if b=true then ∃N:St->Hp->Prop,(∀σ' H',N σ' H'->∃m',m'<m/\W m' σ' H')/\tb { D with nx:=N,ct:=N,bk:=D.nx } σ H1 else D.nx σ H1
def xG{tc:TT} (hp:PassesOwn (model X.prog X.w) X.A X.env X.xe) (hc:PT X c tc) (hb:PSs X body tb):PS X (.While c body [] pos) (Nm tc tb):=by
 intro ZY s σ H D I h;obtain⟨W,⟨m0,w0⟩,turn⟩:=h;refine wpAny_While (codeAny_whileLoop (λn s'=>∃σ' H',Inv X ZY σ' H' s'/\W n σ' H') ?_ m0 ⟨σ,H,I,w0⟩)
 rintro n s1 ⟨σ1,H1,I1,w1⟩;refine XT hp (Z2 (hc ZY s1 σ1 H1 _ I1 (turn n σ1 H1 w1)) λb s2 z918=>?_)
 obtain⟨H2,I2,q2⟩:=z918;cases b with
 | true =>
  obtain⟨N,hN,q2⟩:=q2;rw[if_pos rfl];refine XT hp (Z2 (hb ZY s2 σ1 H2 _ I2 q2) λf s3 q3=>?_)
  cases f with
  | next =>
   obtain⟨σ3,H3,I3,n3⟩:=q3;obtain⟨m',hm,w3⟩:=hN σ3 H3 n3;exact⟨m',hm,σ3,H3,I3,w3⟩
  | cont =>
   obtain⟨σ3,H3,I3,n3⟩:=q3;obtain⟨m',hm,w3⟩:=hN σ3 H3 n3;exact⟨m',hm,σ3,H3,I3,w3⟩
  | brk=>exact q3
  | ret v=>exact q3
 | false =>
  rw[if_neg OS];exact wpAny_execs_nil ⟨σ1,H2,I2,q2⟩
structure It where
 go:Nat->Hp->Prop
 yld:Nat->Hp->V->Hp->Prop
 stop:Nat->Hp->Prop
def VT (X:Cx) (ZY:LO) (H:Hp) (b:Addr):Prop :=
 H b=none/\b≠X.env.locals/\b∉X.fs/\(b∈X.ex\/X.s₀.heap.objs.size<=b)/\(∀x c,X.env.cells.lookup x=some c->c≠b)/\∀p∈X.pn++ZY,p.1≠b
def Inv.fpOk(I:Inv X ZY σ H s) (hb:s.heap.objs.size<=b) (hn:H' b=none):VT X ZY H' b:=by
 refine⟨hn,Yz (v5 I.lt hb),I.nofs hb,.inr (v7 I.sz hb),λx c e z=>?_,λp hp z=>?_⟩
 ·obtain ⟨v,q⟩:=I.cell x c e
  exact absurd (v5 q.lt (by rw[z];exact hb)) (t6 _)
 ·exact absurd (v5 (z8 (I.pin p hp).1) (by rw[z];exact hb)) (t6 _)
structure UH (P:Program) (w:World) (K:W.Frag) (tg:Expr) (J:It) (fp:List Addr) (it:Addr) (tn:Nat->Heap->Prop):Prop where
 mem:it∈fp
 obj:∀i h,tn i h->∀b∈fp,∃o,h.get? b=some o/\∀v,o.data≠.cell v
 keep:∀i h h',tn i h->(∀b∈fp,∀o,h.get? b=some o->h'.get? b=some o)->tn i h'
 item:∀(X:Cx),X.prog=P->X.w=w->X.K=K->X.calm=true->∀(i:Nat) (ZY:LO) (s:Shared) (σ:St) (H:Hp) (E:VP),Inv X ZY σ H s->(∀b∈fp,VT X ZY H b)->tn i s.heap->J.go i H ->
  wpAny (model P w) X.A (pyNext (.ref it)) (λr s1=>∃u,r=some u /\
   wpAny (model P w) X.A (letOwnedTupleGo tg (.ref it) u) (λ_ s2=>∃x H',Inv X ZY σ H' s2/\RelV x u/\J.yld i H x H'/\tn (i+1) s2.heap/\∀b∈fp,H' b=none) E s1) E s
 done:∀(X:Cx),X.prog=P->X.w=w->X.K=K->X.calm=true->∀(i:Nat) (ZY:LO) (s:Shared) (σ:St) (H:Hp) (E:VP),Inv X ZY σ H s->(∀b∈fp,VT X ZY H b)->tn i s.heap->J.stop i H ->
  wpAny (model P w) X.A (pyNext (.ref it)) (λr s1=>r=none/\Inv X ZY σ H s1) E s
 self:∀(A:Around) (i:Nat) (s:Shared) (Q:VP) (E:VP),tn i s.heap->Q (.ref it) s->wpAny (model P w) A (pyIter (.ref it)) Q E s
abbrev TI:=St->Hp->(It->Hp->Prop)->Prop
def yh (X:Cx) (ZY:LO) (σ:St) (tg:Expr) (R:It->Hp->Prop) (itv:Value) (s2:Shared):Prop :=
 ∃(it:Addr) (fp:List Addr) (tn:Nat->Heap->Prop) (J:It) (H':Hp),itv=.ref it/\Inv X ZY σ H' s2/\UH X.prog X.w X.K tg J fp it tn/\tn 0 s2.heap/\(∀b∈fp,VT X ZY H' b)/\R J H'
def PI (X:Cx) (tg Yg:Expr) (wi:TI):Prop :=
 ∀(ZY:LO) (s:Shared) (σ:St) (H:Hp) (R:It->Hp->Prop),Inv X ZY σ H s->wi σ H R ->
  wpAny (model X.prog X.w) X.A (eval Yg X.env) (λv s1=>wpAny (model X.prog X.w) X.A (pyIter v) (yh X ZY σ tg R) X.xe s1) X.xe s
def Kq{M:Model}{o:Obj}{n:String}{vs:Array Value}{Q:Unit->Shared->Prop} (ho:s.heap.get? it=some o) (hc:o.cls=.type n) (hd:o.data=.fields vs)
  (hn:["enumerate","zip","dict_itemiterator","dict_reverseitemiterator","odict_iterator","itertools.zip_longest","itertools.pairwise"].contains n=false) (hQ:Q () s):wpAny M A (letOwnedTupleGo tg (.ref it) u) Q E s:=by
 unfold letOwnedTupleGo;cases tg<;>first
  | exact wpAny_pure hQ
  | (cases u<;>first
    | exact wpAny_pure hQ
    | (refine ZZ (wpAny_load ho ?_)
       rw[hc,hd];show wpAny M A (if (["enumerate","zip","dict_itemiterator","dict_reverseitemiterator","odict_iterator","itertools.zip_longest","itertools.pairwise"].contains n&&vs[0]?==some (rawInt _))=true then _ else _) Q E s
       rw[if_neg (by intro h;rw[hn,Bool.false_and] at h;cases h)]
       exact wpAny_pure hQ))
def C3 (K:W.Frag) (a:Addr):It :=
 ⟨λi H=>∃xs x,Wr K H a xs/\xs[i]?=some x,λi H x H'=>H'=H/\∀xs,Wr K H a xs->xs[i]?=some x,λi H=>∃xs,Wr K H a xs/\xs.length<=i⟩
def C4 (K:W.Frag) (a:Addr):It :=
 ⟨λi H=>∃xs x,UF K H a xs/\xs[i]?=some x,λi H x H'=>H'=H/\∀xs,UF K H a xs->xs[i]?=some x,λi H=>∃xs,UF K H a xs/\xs.length<=i⟩
def Ii (lo:Int) (n:Nat):It:=⟨λi _=>i<n,λi H x H'=>H'=H/\x=.int (lo+i),λi _=>n<=i⟩
theorem ve(a it:Addr):UH P w K tg (C3 K a) [it] it (λi h=>h.IsListIter it a i) where
 mem:=by simp
 obj:=λi h st b hb=>by
  have e:b=it:=by simpa using hb
  subst e;obtain⟨o,e,c,d⟩:=st;exact⟨o,e,λv z=>by rw[d] at z;cases z⟩
 keep:=λi h h' st k=>st.at λo e=>k it (by simp) o e
 item:=by
  intro X hP hw hK hc i ZY s σ H E I hf st hg;subst hP hw hK;obtain⟨xs,x,hq,hx⟩:=hg;obtain⟨ZO,rv,p,hz⟩:=I.list hq;obtain⟨u,hu,ru⟩:=rv.get hx;obtain⟨f0,f1,f2,f3,f4,f5⟩:=hf it (by simp)
  refine wpAny_pyNext_list_item st p.isList (x:=u) (by simpa using hu) λh' st' sb=>?_
  have I1:Inv X ZY σ H { s with heap:=h' }:=I.turned (t':=s.toks) (λb o hb e=>(sb.2 b hb).trans e) f0 f1 f3 f4 f5
  obtain⟨o,e,c,d⟩:=id st';exact⟨u,rfl,Kq (s:={ s with heap:=h' }) e c d (by decide) ⟨x,H,I1,ru,⟨rfl,λys hy=>by rw[I.list_inj hy hq];exact hx⟩,st',λb hb=>(hf b hb).1⟩⟩
 done:=by
  intro X hP hw hK hc i ZY s σ H E I hf st hg;subst hP hw hK;obtain⟨xs,hq,hx⟩:=hg;obtain⟨ZO,rv,p,hz⟩:=I.list hq;obtain⟨f0,f1,f2,f3,f4,f5⟩:=hf it (by simp)
  have hl:=rv.length;exact wpAny_pyNext_list_end (I.ok.hd hc) st p.isList (by simp;lia) λh' eb=>⟨rfl,I.turned (t':=s.toks) (λb o hb e=>eb b o hb e) f0 f1 f3 f4 f5⟩
 self:=λ_ _ _ _ _ st h=>wpAny_pyIter_listiter st h
theorem uG(a it:Addr):UH P w K tg (C4 K a) [it] it (λi h=>h.IsTupleIter it a i) where
 mem:=by simp
 obj:=λi h st b hb=>by
  have e:b=it:=by simpa using hb
  subst e;obtain⟨o,e,c,d⟩:=st;exact⟨o,e,λv z=>by rw[d] at z;cases z⟩
 keep:=λi h h' st k=>st.at λo e=>k it (by simp) o e
 item:=by
  intro X hP hw hK hc i ZY s σ H E I hf st hg;subst hP hw hK;obtain⟨xs,x,hq,hx⟩:=hg;obtain⟨ZO,rv,p,hz⟩:=I.tuple hq;obtain⟨u,hu,ru⟩:=rv.get hx;obtain⟨f0,f1,f2,f3,f4,f5⟩:=hf it (by simp)
  refine wpAny_pyNext_tuple_item st (show s.heap.IsTuple a ZO.toArray from p) (x:=u) (by simpa using hu) λh' st' sb=>?_
  have I1:Inv X ZY σ H { s with heap:=h' }:=I.turned (t':=s.toks) (λb o hb e=>(sb.2 b hb).trans e) f0 f1 f3 f4 f5
  obtain⟨o,e,c,d⟩:=id st';exact⟨u,rfl,Kq (s:={ s with heap:=h' }) e c d (by decide) ⟨x,H,I1,ru,⟨rfl,λys hy=>by rw[I.tuple_inj hy hq];exact hx⟩,st',λb hb=>(hf b hb).1⟩⟩
 done:=by
  intro X hP hw hK hc i ZY s σ H E I hf st hg;subst hP hw hK;obtain⟨xs,hq,hx⟩:=hg;obtain⟨ZO,rv,p,hz⟩:=I.tuple hq;obtain⟨f0,f1,f2,f3,f4,f5⟩:=hf it (by simp)
  have hl:=rv.length;exact wpAny_pyNext_tuple_end (I.ok.hd hc) st (show s.heap.IsTuple a ZO.toArray from p) (by simp;lia) λh' eb=>⟨rfl,I.turned (t':=s.toks) (λb o hb e=>eb b o hb e) f0 f1 f3 f4 f5⟩
 self:=λ_ _ _ _ _ st h=>wpAny_pyIter_tupleiter st h
theorem uH(it:Addr) (lo:Int) (n:Nat):UH P w K tg (Ii lo n) [it] it (λi h=>IsRangeIter h it (lo+(i:Nat)*1) ((n:Int) - (i:Nat)) 1) where
 mem:=by simp
 obj:=λi h st b hb=>by
  have e:b=it:=by simpa using hb
  subst e;exact⟨_,st,λv z=>by
   have z':Data.fields _=Data.cell v:=z;cases z'⟩
 keep:=λi h h' st k=>k it (by simp) _ st
 item:=by
  intro X hP hw hK hc i ZY s σ H E I hf st hg;subst hP hw hK;obtain⟨f0,f1,f2,f3,f4,f5⟩:=hf it (by simp)
  have W:=Walks.range (prog:=X.prog) (w:=X.w) (I.ok.hd hc) it lo 1 n;refine W.item i s _ _ hg st λv h' tk hv st' kk=>?_
  obtain⟨t,rfl⟩:=hv;have I1:Inv X ZY σ H { s with heap:=h',toks:=tk }:=I.turned (λb o hb e=>kk b o (by simpa using hb) e) f0 f1 f3 f4 f5
  refine⟨_,rfl,Kq (s:={ s with heap:=h',toks:=tk }) (n:="range_iterator") st' rfl rfl (by decide) ⟨.int (lo+i),H,I1,⟨t,?_⟩,⟨rfl,rfl⟩,st',λb hb=>(hf b hb).1⟩⟩
  rw[Int.mul_one]
 done:=by
  intro X hP hw hK hc i ZY s σ H E I hf st hg;subst hP hw hK;obtain⟨f0,f1,f2,f3,f4,f5⟩:=hf it (by simp)
  exact wpAny_pyNext_range_end (I.ok.hd hc) st (by have:n<=i:=hg;lia) λh' eb=>⟨rfl,I.turned (t':=s.toks) (λb o hb e=>eb b o hb e) f0 f1 f3 f4 f5⟩
 self:=λ_ _ _ _ _ st h=>wpAny_pyIter_rangeiter st h
def IW (K:W.Frag) (tl:TE):TI:=λσ H R=>tl σ H λx H1=>∃a,x=.ref a/\(∃xs,Wr K H1 a xs)/\R (C3 K a) H1
def Cz (K:W.Frag) (tl:TE):TI:=λσ H R=>tl σ H λx H1=>∃a,x=.ref a/\(∃xs,UF K H1 a xs)/\R (C4 K a) H1
def EV(hl:PE X l tl):PI X tg l (IW X.K tl):=by
 intro ZY s σ H R I h;refine Z2 (hl ZY s σ H _ I h) λv s1 z919=>?_
 obtain⟨x,H1,I1,r1,q1⟩:=z919;obtain⟨a,e,⟨xs,hq⟩,q⟩:=q1;subst e;cases r1;obtain⟨ZO,rv,p,hz⟩:=I1.list hq;refine XE p.isList ?_;refine⟨s1.heap.objs.size,[s1.heap.objs.size],_,_,H1,rfl,I1.kept (t':=s1.toks) λb o e=>z0 _ e,ve a _,⟨_,z7 _ rfl,rfl,rfl⟩,λb hb=>?_,q⟩
 have e:b=s1.heap.objs.size:=by simpa using hb
 subst e;exact I1.fpOk (w4 _) (I1.hok.fresh (w4 _))
def MU(hl:PE X l tl):PI X tg l (Cz X.K tl):=by
 intro ZY s σ H R I h;refine Z2 (hl ZY s σ H _ I h) λv s1 z920=>?_
 obtain⟨x,H1,I1,r1,q1⟩:=z920;obtain⟨a,e,⟨xs,hq⟩,q⟩:=q1;subst e;cases r1;obtain⟨ZO,rv,p,hz⟩:=I1.tuple hq;refine wpAny_pyIter_tuple (show s1.heap.IsTuple a ZO.toArray from p) ?_
 refine⟨s1.heap.objs.size,[s1.heap.objs.size],_,_,H1,rfl,I1.kept (t':=s1.toks) λb o e=>z0 _ e,uG a _,⟨_,z7 _ rfl,rfl,rfl⟩,λb hb=>?_,q⟩
 have e:b=s1.heap.objs.size:=by simpa using hb
 subst e;exact I1.fpOk (w4 _) (I1.hok.fresh (w4 _))
theorem zV{R:It->Hp->Prop}{lo hi:Int}{t u v:Tok}{tk:Nat} (I:Inv X ZY σ H s) (h1:-(2^62)<=lo) (h2:lo<2^62) (h3:-(2^62)<=hi) (h4:hi<2^62)
  (q:R (Ii lo (hi - lo).toNat) H):wpAny (model X.prog X.w) X.A (pyIter (.ref s.heap.objs.size)) (yh X ZY σ tg R) E { s with heap:=s.heap.push { cls:=.type "range",data:=.fields #[.int lo t,.int hi u,.int 1 v] },toks:=tk }:=by
 refine wpAny_pyIter_range (IsRange.new ..) (small_one h1 h2 h3 h4) ?_;have I1:Inv X ZY σ H { s with heap:=s.heap.push { cls:=.type "range",data:=.fields #[.int lo t,.int hi u,.int 1 v] },toks:=tk }:=I.kept λb o e=>z0 _ e
 refine⟨(s.heap.push { cls:=.type "range",data:=.fields #[.int lo t,.int hi u,.int 1 v] }).objs.size,[(s.heap.push { cls:=.type "range",data:=.fields #[.int lo t,.int hi u,.int 1 v] }).objs.size],_,_,H,rfl,
  I1.kept (t':=tk) λb o e=>z0 _ e,uH _ lo (hi - lo).toNat,?_,λb hb=>?_,q⟩
 ·have e1:lo+((0:Nat):Int)*1=lo:=by simp
  have e2:(((hi - lo).toNat:Nat):Int) - ((0:Nat):Int)=Builtin.Range.rangeSize lo hi 1:=by rw[rangeSize_one];split<;>lia
  show IsRangeIter _ _ (lo+((0:Nat):Int)*1) ((((hi - lo).toNat:Nat):Int) - ((0:Nat):Int)) 1;rw[e1,e2];exact z7 _ rfl
 ·have e:b=(s.heap.push { cls:=.type "range",data:=.fields #[.int lo t,.int hi u,.int 1 v] }).objs.size:=by simpa using hb
  subst e;exact I1.fpOk (w4 _) (I1.hok.fresh (w4 _))
def IX (ta:TA):TI:=λσ H R=>ta σ H λvs H1=>∃j:Int,vs=[.int j]/\-(2^62)<=j/\j<2^62/\R (Ii 0 j.toNat) H1
def IY (ta:TA):TI:=λσ H R=>ta σ H λvs H1=>∃i j:Int,vs=[.int i,.int j]/\(-(2^62)<=i/\i<2^62/\-(2^62)<=j/\j<2^62)/\R (Ii i (j - i).toNat) H1
theorem we{a:Expr}{ta:TA} (hg:Gl X "range") (hm:X.mg "range"=none) (ha:PA X [a] ta) (hs:autoParam (starEach [a] X.env=[(false,eval a X.env)]) aa._auto_1):PI X tg (.Call (.Name "range" p) [a] [] pos) (IX ta):=by
 intro ZY s σ H R I h;refine Call_ (SU I hg hm boot_range (ZL (Z2 (ha pos ZY s σ H _ I h) λus s1 z921=>?_) hs rfl))
 obtain⟨vs,H1,I1,r1,q1⟩:=z921;obtain⟨j,e,q1,q2,q⟩:=q1;subst e;cases r1 with
 | cons r rr =>
  cases rr;obtain⟨t,rfl⟩:=r;exact call_range_1 (zV I1 (by lia) (by lia) q1 q2 (by simpa using q))
def wc{a b:Expr}{ta:TA} (hg:Gl X "range") (hm:X.mg "range"=none) (ha:PA X [a,b] ta) (hs:autoParam (starEach [a,b] X.env=[(false,eval a X.env),(false,eval b X.env)]) aa._auto_1) (hs2:autoParam (starEach [b] X.env=[(false,eval b X.env)]) aa._auto_1) :
  PI X tg (.Call (.Name "range" p) [a,b] [] pos) (IY ta):=by
 intro ZY s σ H R I h;refine Call_ (SU I hg hm boot_range (ZL (Z2 (ha pos ZY s σ H _ I h) λus s1 ⟨vs,H1,I1,r1,q1⟩=>?_) (by rw[hs,hs2]) (by rw[hs2];rfl)))
 obtain⟨i,j,e,⟨q1,q2,q3,q4⟩,q⟩:=q1;subst e;cases r1 with
 | cons r rr =>
  cases rr with
  | cons r' rr =>
   cases rr;obtain⟨t,rfl⟩:=r;obtain⟨t',rfl⟩:=r';exact call_range_2 (zV I1 q1 q2 q3 q4 q)
def D0 (wi:TI) (g:TG) (tb:TS):TS:=λD σ H=>wi σ H λJ H1=>∃W:Nat->Nat->St->Hp->Prop,(∃m,W 0 m σ H1)/\∀i m σ H,W i m σ H ->
 (J.stop i H/\D.nx σ H)\/(J.go i H/\∃N:St->Hp->Prop,(∀σ' H',N σ' H'->∃m',m'<m/\W (i+1) m' σ' H')/\∀x H',J.yld i H x H'->g x σ H' λσ2 H2=>tb { D with nx:=N,ct:=N,bk:=D.nx } σ2 H2)
noncomputable def Vw (fp:List Addr) (h:Heap):LO:=fp.filterMap λb=>(h.get? b).map λo=>(b,o)
def GH{fp:List Addr}{o:Obj} (hb:b∈fp) (e:h.get? b=some o):(b,o)∈Vw fp h:=List.mem_filterMap.mpr ⟨b,hb,by rw[e];rfl⟩
def wj{fp:List Addr}{p:Addr×Obj} (hp:p∈Vw fp h):p.1∈fp/\h.get? p.1=some p.2:=by
 obtain⟨b,hb,e⟩:=List.mem_filterMap.mp hp;cases q:h.get? b with
 | none=>rw[q] at e;cases e
 | some o =>
  rw[q] at e;have e':(b,o)=p:=ZS e;subst e';exact⟨hb,q⟩
def Inv.pinned{fp:List Addr} (I:Inv X ZY σ H s) (hf:∀b∈fp,VT X ZY H b) (ho:∀b∈fp,∃o,s.heap.get? b=some o/\∀v,o.data≠.cell v):Inv X (ZY++Vw fp s.heap) σ H s :=
 I.pins_of λp hp=>(u9.mp hp).elim (λz=>I.pin p (u7 _ z)) λz=>by
  obtain⟨hb,e⟩:=wj z;obtain⟨f0,f1,f2,_⟩:=hf p.1 hb;obtain⟨o,e',d⟩:=ho p.1 hb;rw[e] at e';cases e';exact⟨e,f0,f1,f2,d⟩
def Inv.unpinned{pl:LO} (I:Inv X (ZY++pl) σ H s):Inv X ZY σ H s:=I.pins_of λp hp=>I.pin p (u7 _ (HW _ hp))
def BW{Yg:Expr}{wi:TI}{g:TG} (hp:PassesOwn (model X.prog X.w) X.A X.env X.xe) (hc:X.calm=true) (hi:PI X tg Yg wi) (hg:PG X tg g) (hb:PSs X body tb)
  (hs:autoParam (∀x,foldedSetIterable Yg X.env x=pure x) af._auto_1):PS X (.For tg Yg body [] pos) (D0 wi g tb):=by
 intro ZY s σ H D I h;refine wpAny_For (Z2 (hi ZY s σ H _ I h) λv s1 h1=>Z2 h1 λitv s2 h2=>?_) hs
 obtain⟨it,fp,tn,J,H2,e,I2,T,st2,f2,W,⟨m0,w0⟩,turn⟩:=h2;subst e;have stat:∀{H':Hp},(∀b∈fp,H' b=none)->∀b∈fp,VT X ZY H' b:=λhn b hb=>⟨hn b hb,(f2 b hb).2⟩
 refine codeAny_forLoop_any (λn s'=>∃i σ' H',Inv X ZY σ' H' s'/\tn i s'.heap/\(∀b∈fp,H' b=none)/\W i n σ' H') ?_ m0 ⟨0,σ,H2,I2,st2,λb hb=>(f2 b hb).1,w0⟩
 rintro n s3 ⟨i,σ3,H3,I3,st3,fr3,w3⟩;rcases turn i n σ3 H3 w3 with⟨stop,qn⟩|⟨go,N,hN,step⟩
 ·refine XT hp (Z2 (T.done X rfl rfl rfl hc i ZY s3 σ3 H3 X.xe I3 (stat fr3) st3 stop) fun r s4 z923=>?_)
  obtain⟨hr,I4⟩:=z923;subst hr;exact wpAny_execs_nil ⟨σ3,H3,I4,qn⟩
 ·refine XT hp (Z2 (T.item X rfl rfl rfl hc i ZY s3 σ3 H3 X.xe I3 (stat fr3) st3 go) fun r s4 z924=>?_)
  obtain⟨u,hr,h4⟩:=z924;subst hr;refine XT hp (Z2 h4 λ_ s5 z925=>?_)
  obtain⟨x,H5,I5,r5,y5,st5,fr5⟩:=z925;have I5':=I5.pinned (stat fr5) (T.obj _ _ st5);refine XT hp (Z2 (hg _ s5 σ3 H5 x u _ I5' r5 (step x H5 y5)) λ_ s6 z926=>?_)
  obtain⟨σ6,H6,I6,q6⟩:=z926;refine XT hp (Z2 (hb _ s6 σ6 H6 _ I6 q6) λf s7 q7=>?_)
  have again:∀{σ7:St}{H7:Hp},Inv X (ZY++Vw fp s5.heap) σ7 H7 s7->N σ7 H7->∃m,m<n/\∃i σ' H',Inv X ZY σ' H' s7/\tn i s7.heap/\(∀b∈fp,H' b=none)/\W i m σ' H':=λ{σ7 H7} I7 n7=>by
   obtain⟨m',hm,w7⟩:=hN σ7 H7 n7;refine⟨m',hm,i+1,σ7,H7,I7.unpinned,T.keep _ _ _ st5 λb hb o e=>(I7.pin (b,o) (u7 _ (u7 _ (GH hb e)))).1,λb hb=>?_,w7⟩
   obtain⟨o,e,d⟩:=T.obj _ _ st5 b hb;exact(I7.pin (b,o) (u7 _ (u7 _ (GH hb e)))).2.1
  cases f with
  | next=>obtain⟨σ7,H7,I7,n7⟩:=q7;exact again I7 n7
  | cont=>obtain⟨σ7,H7,I7,n7⟩:=q7;exact again I7 n7
  | brk=>obtain⟨σ7,H7,I7,q7⟩:=q7;exact⟨σ7,H7,I7.unpinned,q7⟩
  | ret v=>obtain⟨x7,σ7,H7,I7,r7,q7⟩:=q7;exact⟨x7,σ7,H7,I7.unpinned,r7,q7⟩
abbrev R2:=V->V->Hp->VK->Prop
def Y0 (X:Cx) (f:Value->Value->Sem Value) (r:R2):Prop :=
 ∀(ZY:LO) (s:Shared) (σ:St) (H:Hp) (x y:V) (v u:Value) (Q:VK),Inv X ZY σ H s->RelV x v->RelV y u->r x y H Q ->
  wpAny (model X.prog X.w) X.A (f v u) (EP X ZY σ Q) X.xe s
def Ir (X:Cx) (f:Value->Sem Value) (r:V->Hp->VK->Prop):Prop :=
 ∀(ZY:LO) (s:Shared) (σ:St) (H:Hp) (x:V) (v:Value) (Q:VK),Inv X ZY σ H s->RelV x v->r x H Q ->
  wpAny (model X.prog X.w) X.A (f v) (EP X ZY σ Q) X.xe s
def YG (X:Cx) (f:Value) (r:List V->Hp->VK->Prop):Prop :=
 ∀(ZY:LO) (s:Shared) (σ:St) (H:Hp) (xs:List V) (us:List Value) (Q:VK),Inv X ZY σ H s->Vals xs us->r xs H Q ->
  wpAny (model X.prog X.w) X.A (call f us) (EP X ZY σ Q) X.xe s
def Gh (r:R2) (ta tb:TE):TE:=λσ H Q=>ta σ H λx H1=>tb σ H1 λy H2=>r x y H2 Q
def rQ (r:V->Hp->VK->Prop) (ta:TE):TE:=λσ H Q=>ta σ H λx H1=>r x H1 Q
def rI (C:Int->Int->Prop) (g:Int->Int->V):R2:=λx y H Q=>∃i j,x=.int i/\y=.int j/\C i j/\Q (g i j) H
def QA (g:Int->Int->V):R2:=λx y H Q=>∃i j,x=.int i/\y=.int j/\Q (g i j) H
def rU (g:Int->V):V->Hp->VK->Prop:=λx H Q=>∃i,x=.int i/\Q (g i) H
section
variable {a b:Expr}{tb tc:TE}
def LH(ha:PE X a ta) (hb:PE X b tb) {R:V->V->Hp->Prop} (I:Inv X ZY σ H s)
  (h:ta σ H λx H1=>tb σ H1 λy H2=>R x y H2) {f:Value->Value->Sem Value}
  (hf:∀v u s2 x y H2,Inv X ZY σ H2 s2->RelV x v->RelV y u->R x y H2->wpAny (model X.prog X.w) X.A (f v u) Q X.xe s2) :
  wpAny (model X.prog X.w) X.A (eval a X.env) (λv s₁=>wpAny (model X.prog X.w) X.A (eval b X.env) (λu s₂=>wpAny (model X.prog X.w) X.A (f v u) Q X.xe s₂) X.xe s₁) X.xe s:=by
 refine Z2 (ha ZY s σ H _ I h) λv s1 z927=>?_
 obtain⟨x,H1,I1,r1,q1⟩:=z927;refine Z2 (hb ZY s1 σ H1 _ I1 q1) λu s2 z928=>?_
 obtain⟨y,H2,I2,r2,q2⟩:=z928;exact hf v u s2 x y H2 I2 r1 r2 q2
def Op {op:Operator}{r:R2} (ho:Y0 X (binaryOp op) r) (ha:PE X a ta) (hb:PE X b tb):PE X (.BinOp a op b pos) (Gh r ta tb):=by
 intro ZY s σ H Q I h;exact wpAny_BinOp (LH ha hb I h λv u s2 x y H2 I2 rx ry q=>ho ZY s2 σ H2 x y v u Q I2 rx ry q)
def Jr {op:UnaryOp}{r:V->Hp->VK->Prop} (ho:Ir X (unaryOp op) r) (ha:PE X a ta):PE X (.UnaryOp op a pos) (rQ r ta):=by
 intro ZY s σ H Q I h;exact UnaryOp_ (Z2 (ha ZY s σ H _ I h) λv s1 z929=>by obtain⟨x,H1,I1,r1,q1⟩:=z929;exact ho ZY s1 σ H1 x v Q I1 r1 q1)
def Gc {f:Value->Value->Sem Value}{C:Int->Int->Prop}{g:Int->Int->Int}
  (rule:∀(i j:Int) (t u:Tok) (s:Shared) (Q:VP) (E:VP),C i j->Q (.int (g i j) s.toks) { s with toks:=s.toks+1 }->wpAny (model X.prog X.w) X.A (f (.int i t) (.int j u)) Q E s) :
  Y0 X f (rI C λi j=>.int (g i j)):=by
 intro ZY s σ H x y v u Q I rx ry h;obtain⟨i,j,rfl,rfl,hc,q⟩:=h;obtain⟨t,rfl⟩:=rx;obtain⟨t',rfl⟩:=ry;exact rule i j t t' s _ _ hc ⟨.int (g i j),H,I.tok _,⟨_,rfl⟩,q⟩
def Jj {f:Value->Value->Sem Value}{g:Int->Int->Int}
  (rule:∀(i j:Int) (t u:Tok) (s:Shared) (Q:VP) (E:VP),Q (.int (g i j) s.toks) { s with toks:=s.toks+1 }->wpAny (model X.prog X.w) X.A (f (.int i t) (.int j u)) Q E s) :
  Y0 X f (QA λi j=>.int (g i j)):=by
 intro ZY s σ H x y v u Q I rx ry h;obtain⟨i,j,rfl,rfl,q⟩:=h;obtain⟨t,rfl⟩:=rx;obtain⟨t',rfl⟩:=ry;exact rule i j t t' s _ _ ⟨.int (g i j),H,I.tok _,⟨_,rfl⟩,q⟩
def Qa {f:Value->Value->Sem Value}{g:Int->Int->Bool}
  (rule:∀(i j:Int) (t u:Tok) (s:Shared) (Q:VP) (E:VP),Q (.bool (g i j)) s->wpAny (model X.prog X.w) X.A (f (.int i t) (.int j u)) Q E s) :
  Y0 X f (QA λi j=>.bl (g i j)):=by
 intro ZY s σ H x y v u Q I rx ry h;obtain⟨i,j,rfl,rfl,q⟩:=h;obtain⟨t,rfl⟩:=rx;obtain⟨t',rfl⟩:=ry;exact rule i j t t' s _ _ ⟨.bl (g i j),H,I,rfl,q⟩
def Tx (i j:Int):Prop:=0<=j/\j<=1000000/\i.natAbs<2^64
def CMul (i j:Int):Prop:=(-(2^64)<i/\i<2^64)\/(-(2^64)<j/\j<2^64)
def CMul.ok {i j:Int} (h:CMul i j):IntMulOk i j:=by
 rcases h with⟨h1,h2⟩|⟨h1,h2⟩
 ·exact .of_left (intBits_le_64 h1 h2)
 ·exact .of_right (intBits_le_64 h1 h2)
def MA:Y0 X (binaryOp .Add) (QA λi j=>.int (i+j)):=Jj λ_ _ _ _ _ _ _ q=>add_int q
def MI:Y0 X (binaryOp .Sub) (QA λi j=>.int (i - j)):=Jj λ_ _ _ _ _ _ _ q=>sub_int q
def ME:Y0 X (binaryOp .Mult) (rI CMul λi j=>.int (i*j)):=Gc λ_ _ _ _ _ _ _ hc q=>mul_int q hc.ok
theorem MD:Y0 X (binaryOp .Mod) (rI (λ_ j=>0<j) λi j=>.int (i%j)):=Gc λi j _ _ _ _ _ hc q=>by
 have h1:(0:Int)<j:=hc;exact mod_int' (by lia) (by rw[Int.fmod_eq_emod_of_nonneg i (by lia)];exact q)
def MH:Y0 X (binaryOp .Pow) (rI Tx λi j=>.int (i^j.toNat)):=Gc λ_ _ _ _ _ _ _ hc q=>pow_int_small hc.1 hc.2.1 hc.2.2 q
def uD {f:Value->Sem Value}{g:Int->Int}
  (rule:∀(i:Int) (t:Tok) (s:Shared) (Q:VP) (E:VP),Q (.int (g i) s.toks) { s with toks:=s.toks+1 }->wpAny (model X.prog X.w) X.A (f (.int i t)) Q E s) :
  Ir X f (rU λi=>.int (g i)):=by
 intro ZY s σ H x v Q I rx h;obtain⟨i,rfl,q⟩:=h;obtain⟨t,rfl⟩:=rx;exact rule i t s _ _ ⟨.int (g i),H,I.tok _,⟨_,rfl⟩,q⟩
def NE:Ir X (unaryOp .USub) (rU λi=>.int (-i)):=uD λ_ _ _ _ _ q=>neg_int q
def FO{Q:VK}{k k':Bool} (I:Inv X ZY σ H s) (q:Q (.bl k) H) (e:k=k'):EP X ZY σ Q (.bool k') s:=by
 subst e;exact⟨.bl k,H,I,rfl,q⟩
def Jn:Y0 X (compareOp .Lt) (QA λi j=>.bl (decide (i<j))):=Qa λ_ _ _ _ _ _ _ q=>lt_int q
def Jm:Y0 X (compareOp .LtE) (QA λi j=>.bl (decide (i<=j))):=Qa λ_ _ _ _ _ _ _ q=>le_int q
def Jl:Y0 X (compareOp .Gt) (QA λi j=>.bl (decide (j<i))):=Qa λ_ _ _ _ _ _ _ q=>gt_int q
def Jk:Y0 X (compareOp .GtE) (QA λi j=>.bl (decide (j<=i))):=Qa λ_ _ _ _ _ _ _ q=>ge_int q
def wg:Y0 X (compareOp .In) (λx y H Q=>∃i j,x=.str i/\y=.str j/\Q (.bl (!(Builtin.Str.occurrences j i 0 j.length 1).isEmpty)) H):=by
 intro ZY s σ H x y v u Q I rx ry h;obtain⟨i,j,rfl,rfl,q⟩:=h;obtain⟨t,rfl⟩:=rx;obtain⟨t',rfl⟩:=ry;exact in_str (FO I q rfl)
def MC:Y0 X (compareOp .Is) (λx y H Q=>y=.non/\Q (.bl (decide (x=.non))) H):=by
 intro ZY s σ H x y v u Q I rx ry h;obtain⟨rfl,q⟩:=h;cases ry;refine is_none_gen (FO I q ?_);cases x<;>first
  | (cases rx;rfl)
  | (obtain⟨t,rfl⟩:=rx;rfl)
def Qb:Y0 X (compareOp .IsNot) (λx y H Q=>y=.non/\Q (.bl (!decide (x=.non))) H):=by
 intro ZY s σ H x y v u Q I rx ry h;obtain⟨rfl,q⟩:=h;cases ry;refine isnot_none_gen (FO I q ?_);cases x<;>first
  | (cases rx;rfl)
  | (obtain⟨t,rfl⟩:=rx;rfl)
def Sh (b:Expr) {op:CmpOp} (h:autoParam (op≠.In) ac._auto_1) (h2:autoParam (op≠.NotIn) ac._auto_1):behindInMarks op b=false:=by
 have e1:(op==CmpOp.In)=false:=by cases op<;>first|rfl|exact absurd rfl h
 have e2:(op==CmpOp.NotIn)=false:=by cases op<;>first|rfl|exact absurd rfl h2
 cases b<;>simp[behindInMarks,e1,e2]
def Qi {op:CmpOp}{r:R2} (ho:Y0 X (compareOp op) r) (ha:PE X a ta) (hb:PE X b tb) (hm:behindInMarks op b=false):PE X (.Compare a [op] [b] pos) (Gh r ta tb):=by
 intro ZY s σ H Q I h;exact wpAny_Compare1 (LH ha hb I h λv u s2 x y H2 I2 rx ry q=>ho ZY s2 σ H2 x y v u Q I2 rx ry q) hm
def Oy (t:TE):TT:=λσ H Q=>t σ H λx H'=>∃k,x=.bl k/\Q k H'
def Qw {op:CmpOp}{r:R2} (ho:Y0 X (compareOp op) r) (ha:PE X a ta) (hb:PE X b tb) (hm:behindInMarks op b=false):PT X (.Compare a [op] [b] pos) (Oy (Gh r ta tb)):=by
 intro ZY s σ H Q I h;refine wpAny_isTrue_Compare1 (Z2 (ha ZY s σ H _ I h) λv s1 ⟨x,H1,I1,r1,q1⟩=>Z2 (hb ZY s1 σ H1 _ I1 q1) λu s2 ⟨y,H2,I2,r2,q2⟩ =>
  Z2 (ho ZY s2 σ H2 x y v u _ I2 r1 r2 q2) λc s3 ⟨z,H3,I3,r3,k,e,q3⟩=>?_) hm
 subst e;cases r3;exact Ze ⟨H3,I3,q3⟩
def U0 (r r':R2) (ta tb tc:TE):TE:=λσ H Q=>ta σ H λx H1=>tb σ H1 λy H2=>r x y H2 λz H3=>∃k,z=.bl k /\
 (if k=true then tc σ H3 λw' H4=>r' y w' H4 Q else Q (.bl false) H3)
def xM {op op':CmpOp}{r r':R2} (ho:Y0 X (compareOp op) r) (ho':Y0 X (compareOp op') r') (ha:PE X a ta) (hb:PE X b tb) (hc:PE X c tc)
  (hm:autoParam (lastMarks [op,op'] [b,c]=false) ak._auto_1):PE X (.Compare a [op,op'] [b,c] pos) (U0 r r' ta tb tc):=by
 intro ZY s σ H Q I h;refine Compare_chain (Z2 (ha ZY s σ H _ I h) λv s1 ⟨x,H1,I1,r1,q1⟩=>chain_link (Z2 (hb ZY s1 σ H1 _ I1 q1) λu s2 ⟨y,H2,I2,r2,q2⟩ =>
  Z2 (ho ZY s2 σ H2 x y v u _ I2 r1 r2 q2) λd s3 ⟨z,H3,I3,r3,k,e,q3⟩=>?_)) hm
 subst e;cases r3;refine Ze ?_;cases k with
 | false=>exact ite_ff ⟨.bl false,H3,I3,rfl,q3⟩
 | true=>exact ite_tt (chain_last (Z2 (hc ZY s3 σ H3 _ I3 q3) λw' s4 z936=>by obtain⟨z',H4,I4,r4,q4⟩:=z936;exact ho' ZY s4 σ H4 y z' u w' Q I4 r2 r4 q4))
def xF {op op':CmpOp}{r r':R2} (ho:Y0 X (compareOp op) r) (ho':Y0 X (compareOp op') r') (ha:PE X a ta) (hb:PE X b tb) (hc:PE X c tc)
  (hm:autoParam (lastMarks [op,op'] [b,c]=false) ak._auto_1):PT X (.Compare a [op,op'] [b,c] pos) (Oy (U0 r r' ta tb tc)):=by
 intro ZY s σ H Q I h;refine isTrue_chain (Z2 (ha ZY s σ H _ I h) λv s1 ⟨x,H1,I1,r1,q1⟩=>test_link (Z2 (hb ZY s1 σ H1 _ I1 q1) λu s2 ⟨y,H2,I2,r2,q2⟩ =>
  Z2 (ho ZY s2 σ H2 x y v u _ I2 r1 r2 q2) λd s3 ⟨z,H3,I3,r3,k,e,q3⟩=>?_)) hm
 subst e;cases r3;refine Ze ?_;cases k with
 | false =>
  obtain⟨k',e',q'⟩:=q3;cases e';exact ite_ff ⟨H3,I3,q'⟩
 | true =>
  refine ite_tt (test_last (Z2 (hc ZY s3 σ H3 _ I3 q3) λw' s4 ⟨z',H4,I4,r4,q4⟩=>Z2 (ho' ZY s4 σ H4 y z' u w' _ I4 r2 r4 q4) λd' s5 z941=>?_))
  obtain⟨z2,H5,I5,r5,k2,e2,q5⟩:=z941;subst e2;cases r5;exact Ze ⟨H5,I5,q5⟩
def Vu:(sizeLine:Nat)<2^63:=by rw[sizeLine_eq];decide
def vy:Y0 X (binaryOp .Add) (λx y H Q=>∃i j,x=.str i/\y=.str j/\i.length+j.length<=sizeLine/\Q (.str (i++j)) H):=by
 intro ZY s σ H x y v u Q I rx ry h;obtain⟨i,j,rfl,rfl,hz,q⟩:=h;obtain⟨t,rfl⟩:=rx;obtain⟨t',rfl⟩:=ry;exact add_str (λt' tk=>⟨.str (i++j),H,I.tok _,⟨_,rfl⟩,q⟩) hz
def vals1{x:V} (r:Vals [x] us):∃u,us=[u]/\RelV x u:=by
 cases r with
 | cons r1 r2=>cases r2;exact⟨_,rfl,r1⟩
def vals2{x:V} (r:Vals [x,y] us):∃u w',us=[u,w']/\RelV x u/\RelV y w':=by
 cases r with
 | cons r1 r2 =>
  cases r2 with
  | cons r3 r4=>cases r4;exact⟨_,_,rfl,r1,r3⟩
def wU (hc:X.calm=true):YG X (.builtin "max") (λxs H Q=>∃i j,xs=[.int i,.int j]/\Q (.int (if j > i then j else i)) H):=by
 intro ZY s σ H xs us Q I r h;obtain⟨i,j,rfl,q⟩:=h;obtain⟨u,w',rfl,⟨t,rfl⟩,⟨t',rfl⟩⟩:=vals2 r;refine max_two_ints (I.ok.hd hc) λh' tk k=>⟨_,H,I.kept k,?_,q⟩
 by_cases hj:j > i
 ·rw[if_pos hj,if_pos hj];exact⟨_,rfl⟩
 ·rw[if_neg hj,if_neg hj];exact⟨_,rfl⟩
def wT (hc:X.calm=true):YG X (.builtin "min") (λxs H Q=>∃i j,xs=[.int i,.int j]/\Q (.int (if j<i then j else i)) H):=by
 intro ZY s σ H xs us Q I r h;obtain⟨i,j,rfl,q⟩:=h;obtain⟨u,w',rfl,⟨t,rfl⟩,⟨t',rfl⟩⟩:=vals2 r;refine min_two_ints (I.ok.hd hc) λh' tk k=>⟨_,H,I.kept k,?_,q⟩
 by_cases hj:j<i
 ·rw[if_pos hj,if_pos hj];exact⟨_,rfl⟩
 ·rw[if_neg hj,if_neg hj];exact⟨_,rfl⟩
def C5 (K:W.Frag) (x:V) (H:Hp) (n:Nat):Prop :=
 match x with
 | .str y=>y.length<=sizeLine/\n=y.length
 | .byt y=>y.size<=sizeLine/\n=y.size
 | .ref p=>(∃xs,Wr K H p xs/\n=xs.length)\/∃xs,UF K H p xs/\n=xs.length
 | _=>False
theorem EG:YG X (.builtin "len") (λxs H Q=>∃x n,xs=[x]/\C5 X.K x H n/\Q (.int n) H):=by
 intro ZY s σ H xs us Q I r h;obtain⟨x,n,rfl,e,q⟩:=h;obtain⟨u,rfl,rx⟩:=vals1 r;have hl:=Vu;have hs:sizeLine=16777216:=sizeLine_eq;cases x with
 | str y =>
  obtain⟨t,rfl⟩:=rx;obtain⟨hy,e'⟩:y.length<=sizeLine/\n=y.length:=e;subst e';exact len_str (by lia) ⟨.int _,H,I.tok _,⟨_,rfl⟩,q⟩
 | byt y =>
  obtain⟨t,rfl⟩:=rx;obtain⟨hy,e'⟩:y.size<=sizeLine/\n=y.size:=e;subst e';exact W.len_bytes (by lia) ⟨.int _,H,I.tok _,⟨_,rfl⟩,q⟩
 | ref p =>
  cases rx;have e':(∃xs,Wr X.K H p xs/\n=xs.length)\/∃xs,UF X.K H p xs/\n=xs.length:=e;rcases e' with⟨xs,hx,e'⟩|⟨xs,hx,e'⟩
  ·subst e'
   obtain⟨ZO,r',pl,hz⟩:=I.list hx;have XJ:=r'.length;exact Calls.call_len_list pl.isList (by simp only[w5];lia) ⟨.int xs.length,H,I.tok _,⟨_,by simp only[w5];rw[XJ]⟩,q⟩
  ·subst e'
   obtain⟨ZO,r',pl,hz⟩:=I.tuple hx;have XJ:=r'.length;exact len_tuple pl (by simp only[w5];lia) ⟨.int xs.length,H,I.tok _,⟨_,by simp only[w5];rw[XJ]⟩,q⟩
 | _=>exact(show False from e).elim
end
structure ObjM (h:Heap) (x dx C:Addr) (mA:MG):Prop where
 obj:h.get? x=some (W.instObj C dx)
 ns:h.Ns1 dx mA
 ne:dx≠x
set_option tactic.hygienic true in
def wl(n:h.Ns1 dx mA):∃od,h.get? dx=some od/\∀name,W.lookIn name od=some (mA name):=by
 obtain⟨o,es,ep,ho,hd,hk,_,hm⟩:=n;refine⟨o,ho,λname=>?_⟩
 have e:=hm name;unfold nsFind findBy at e;rw[<- Array.find?_toList] at e;unfold W.lookIn;rw[hd];dsimp only;split
 ·rename_i y q
  rw[q] at e;exact congrArg some e
 ·rename_i q
  rw[q] at e;have a:es.toList.any (·.refKey)=false:=by
   rw[List.any_eq_false];intro y hy;obtain⟨z,t,hkey⟩:=hk y (Array.mem_toList_iff.mp hy);simp[DictEntry.refKey,hkey]
  have a':¬ es.toList.any (·.refKey)=true:=by rw[a];exact OS
  rw[if_neg a'];exact congrArg some e
def ObjM.look{x:Addr} (I:ObjM h x dx C mA):∃od,W.InstAt h x (W.instObj C dx) C (some od)/\∀name,W.lookIn name od=some (mA name) :=
 let ⟨od,ho,hl⟩:=wl I.ns
 ⟨od,⟨I.obj,rfl,rfl,ho⟩,hl⟩
section
variable {x:Addr}{v:Value}
def Px{expr:Bool} (X:K.In s.heap) (I:ObjM s.heap x dx C mA) (hg:W.plainGet K C name=true) (hh:W.hasDictIn K C=true)
  (ha:W.findIn K (.ref C) name=some none) (hv:mA name=some v) (hv':W.handedIn v=true) (h:Q v { s with toks:=s.toks+1 }) :
  wpAny (model prog w) A (getAttr (.ref x) name expr) Q E s:=by
 obtain⟨od,J,hl⟩:=I.look;exact W.get_value X J (W.plainGet_of hg).1 (W.findObj_own hh ha rfl (by rw[hl,hv])) hv' h
def xr {pl:Sem Bool}{Q:Value×List Value->Shared->Prop} (X:K.In s.heap) (I:ObjM s.heap x dx C mA) (hg:W.plainGet K C name=true)
  (hf:W.findIn K (.ref C) name=some (some (.ref f))) (ht:W.isFn K (.ref f)=true) (hv:mA name=none) (h:Q (.ref f,[.ref x]) s) :
  wpAny (model prog w) A (getMethod (.ref x) name pl) Q E s:=by
 obtain⟨od,J,hl⟩:=I.look;exact W.method_fn X J (W.plainGet_of hg).1 (W.plainGet_of hg).2 hf (beq_iff_eq.mp ht) (by show(W.lookIn name od).map (·.isSome)=some false;rw[hl,hv];rfl) h
theorem QL{Q:Unit->Shared->Prop} (X:K.In s.heap) (I:ObjM s.heap x dx C mA)
  (hs:W.findIn K (.ref C) "__setattr__"=some (some (.builtin "object.__setattr__"))) (hp:W.plainOver K C=true) (ht:W.takerIn K C name=some none) (hh:W.hasDictIn K C=true)
  (hw:PySem.Within mA ns) (hsz:ns.length<=sizeLine)
  (h:∀h',ObjM h' x dx C (λy=>if y=name then some v else mA y)->Heap.SameBut dx s.heap h'->Q () { s with heap:=h',toks:=s.toks+2 }) :
  wpAny (model prog w) A (setAttr (.ref x) name v) Q E s:=by
 obtain⟨od,J,hl⟩:=I.look;refine W.set_plain X J hs (W.osa_open (s:={ s with toks:=s.toks+1 }) (r:=none) X J hp ht λb=>?_)
 obtain⟨cd,hc,hd'⟩:=W.any_some hh;have hx:s.heap.get? x=some ⟨.ref C,some dx,.plain,#[]⟩:=I.obj;refine ZZ (wpAny_pure (ZZ (ZZ (wpAny_loadPart hx (ZZ (W.Looks.here (s:={ s with toks:=s.toks+1 }) (W.looks_clsIn X hc) ?_))))))
 rw[hd'];refine wpAny_pure (a:=some dx) (ZZ (wpAny_pure (ZZ ?_)));refine wpAny_nsSet1 (s:={ s with toks:=s.toks+1 }) I.ns λh' hn2 hs2=>?_
 obtain⟨oD,esD,epD,hoD,T4,hcD⟩:=hn2.count (PySem.Within.cons name v hw);refine ZZ (wpAny_lookBehind hoD (by rw[T4];exact pastItsLine_dict (v7 hcD (by rw[u6];lia))) ?_)
 exact wpAny_pure (h _ ⟨(hs2.2 _ (YN I.ne)).trans I.obj,hn2,I.ne⟩ hs2)
def A2 {R:Result->Shared->Prop}{vs:List Value}{kw:List (Str×Value)} (X:K.In s.heap) (hm:W.makesIn K C=true)
  (hi:W.findIn K (.ref C) "__init__"=some (some (.ref f))) (hf:W.typeIn K (.ref f)=some (.type "function"))
  (h:codeAny (model prog w) (A.under (.builtin "type.__call__" ⟨.ref C::vs,kw⟩)) (.call (.ref f) ⟨.ref (s.heap.objs.size+1)::vs,kw⟩) (W.InitBack (s.heap.objs.size+1) R)
   { s with heap:=(s.heap.push W.emptyDict).push (W.instObj C s.heap.objs.size) }) :
  codeAny (model prog w) A (.call (.ref C) ⟨vs,kw⟩) R s:=by
 obtain⟨hh,g,d,t,os⟩:=s;exact W.make_core (W.makes_of X hm) (W.looks_findIn X hi) (λself=>W.bind_fn X self hf) (.inl rfl) h
end
noncomputable def WM (f:Str) (v:V):List (Str×V)->List (Str×V)
 | []=>[(f,v)]
 | (g,x)::r=>if g=f then (g,v)::r else (g,x)::WM f v r
theorem yJ (f g:Str) (v:V):∀fs:List (Str×V),(WM f v fs).lookup g=if g=f then some v else fs.lookup g
 | []=>by
  show List.lookup g [(f,v)]=_;by_cases h:g=f
  ·have hb:(g==f)=true:=beq_iff_eq.mpr h
   simp only[List.lookup,hb,if_pos h]
  ·have hb:(g==f)=false:=beq_eq_false_iff_ne.mpr h
   simp only[List.lookup,hb,if_neg h]
 | (k,x)::r=>by
  have ih:=yJ f g v r;rw[show WM f v ((k,x)::r)=(if k=f then (k,v)::r else (k,x)::WM f v r) from rfl]
  by_cases hk:k=f
  ·rw [if_pos hk]
   by_cases h:g=k
   ·have hb:(g==k)=true:=beq_iff_eq.mpr h
    simp only[List.lookup,hb,if_pos (h.trans hk)]
   ·have hb:(g==k)=false:=beq_eq_false_iff_ne.mpr h
    simp only[List.lookup,hb,if_neg (λe:g=f=>h (e.trans hk.symm))]
  ·rw [if_neg hk]
   by_cases h:g=k
   ·have hb:(g==k)=true:=beq_iff_eq.mpr h
    simp only[List.lookup,hb,if_neg (λe:g=f=>hk (h.symm.trans e))]
   ·have hb:(g==k)=false:=beq_eq_false_iff_ne.mpr h
    simp only[List.lookup,hb];exact ih
theorem Ep (f:Str) (v:V):∀fs:List (Str×V),f∈(WM f v fs).map (·.1)/\∀g,g∈fs.map (·.1)->g∈(WM f v fs).map (·.1)
 | []=>⟨by simp[WM],λg h=>by simp at h⟩
 | (k,x)::r=>by
  obtain⟨i1,i2⟩:=Ep f v r;rw[show WM f v ((k,x)::r)=(if k=f then (k,v)::r else (k,x)::WM f v r) from rfl]
  by_cases hk:k=f
  ·rw [if_pos hk]
   subst hk;exact⟨by simp,λg h=>by simpa using h⟩
  ·rw [if_neg hk]
   refine⟨?_,λg h=>?_⟩
   ·rw [w9]
    exact z5 _ i1
   ·rw [w9] at h |-
    rcases y0.mp h with e|e
    ·exact y0.mpr (.inl e)
    ·exact z5 _ (i2 g e)
theorem zd (f:Str) (v:V):∀fs:List (Str×V),(WM f v fs).length<=fs.length+1
 | []=>by simp[WM]
 | (k,x)::r=>by
  have ih:=zd f v r;rw[show WM f v ((k,x)::r)=(if k=f then (k,v)::r else (k,x)::WM f v r) from rfl]
  by_cases hk:k=f
  ·rw[if_pos hk,u6,u6];lia
  ·rw[if_neg hk,u6,u6];lia
def RelO.some_of{o:Option Value} (r:RelO (some v) o):∃u,o=some u/\RelV v u:=by
 cases o with
 | none=>exact(show False from r).elim
 | some u=>exact⟨u,rfl,r⟩
def RelO.none_of {o:Option Value} (r:RelO none o):o=none:=by
 cases o with
 | none=>rfl
 | some u=>exact(show False from r).elim
def vY(r:RelV v u):W.handedIn u=true:=by
 cases v with
 | non=>cases (show u=Value.none from r);rfl
 | bl b=>cases (show u=Value.bool b from r);rfl
 | int i=>obtain⟨t,e⟩:=(show ∃t,u=Value.int i t from r);cases e;rfl
 | str x=>obtain⟨t,e⟩:=(show ∃t,u=Value.str x t from r);cases e;rfl
 | byt b=>obtain⟨t,e⟩:=(show ∃t,u=Value.bytes b t from r);cases e;rfl
 | flt b=>obtain⟨t,e⟩:=(show ∃t,u=Value.float b t from r);cases e;rfl
 | ref a=>cases (show u=Value.ref a from r);rfl
 | ty n=>cases (show u=Value.type n from r);rfl
section
variable {fs fs':List (Str×V)}
def Hg (hok:HOk P w H h) (e:H a=some (.ins C dx fs)):∃mA,ObjM h a dx C mA/\(∀f,RelO (fs.lookup f) (mA f))/\PySem.Within mA (fs.map (·.1))/\fs.length<=1000/\H dx=some (.own a):=by
 obtain⟨d,z,ne,ob,mA,n,r,q⟩:=(show ObjOk P w H h a (.ins C dx fs) from hok a _ e)
 exact⟨mA,⟨ob,n,ne⟩,r,q,z,d⟩
end
structure Cls (K:W.Frag) (C:Addr):Prop where
 pg:W.plainGet K C Str.empty=true
 hd:W.hasDictIn K C=true
 po:W.plainOver K C=true
 sa:W.findIn K (.ref C) "__setattr__"=some (some (.builtin "object.__setattr__"))
def Cls.get(c:Cls K C) (f:Str):W.plainGet K C f=true:=c.pg
def NoAttr (K:W.Frag) (C:Addr) (f:Str):Prop:=W.findIn K (.ref C) f=some none
def NoAttr.taker{f:Str} (n:NoAttr K C f):W.takerIn K C f=some none:=by
 unfold W.takerIn;rw[show W.findIn K (.ref C) f=some none from n]
 rfl
structure RJ (K:W.Frag) (C:Addr) (m:Str) (f:Addr):Prop where
 at_:W.findIn K (.ref C) m=some (some (.ref f))
 fn:W.isFn K (.ref f)=true
 kp:W.keepIn K (.ref f)=true
section
variable {fs:List (Str×V)}{f:Str}
def vH{b:Bool} (I:Inv X ZY σ H s) (e:H a=some (.ins C dx fs)) (c:Cls X.K C) (n:NoAttr X.K C f) (l:fs.lookup f=some v)
  (h:∀u s',Inv X ZY σ H s'->RelV v u->Q u s'):wpAny (model X.prog X.w) A (getAttr (.ref a) f b) Q E s:=by
 obtain⟨mA,O,r,_,_,_⟩:=Hg I.hok e;obtain⟨u,hu,ru⟩:=RelO.some_of (v:=v) (o:=mA f) (by rw[<- l];exact r f)
 exact Px I.kIn O (c.get f) c.hd n hu (vY ru) (h u _ (I.tok _) ru)
def E4{pl:Sem Bool}{Q:Value×List Value->Shared->Prop} (I:Inv X ZY σ H s) (e:H a=some (.ins C dx fs)) (c:Cls X.K C) (k:RJ X.K C m g) (l:fs.lookup m=none)
  (h:Q (.ref g,[.ref a]) s):wpAny (model X.prog X.w) A (getMethod (.ref a) m pl) Q E s:=by
 obtain⟨mA,O,r,_,_,_⟩:=Hg I.hok e;have hn:mA m=none:=RelO.none_of (by rw[<- l];exact r m)
 exact xr I.kIn O (c.get m) k.at_ k.fn hn h
theorem uM{Q:Unit->Shared->Prop} (I:Inv X ZY σ H s) (e:H a=some (.ins C dx fs)) (c:Cls X.K C) (n:NoAttr X.K C f) (hl:fs.length<1000) (ry:RelV y u)
  (h:∀s',Inv X ZY σ (Zd H a (.ins C dx (WM f y fs))) s'->Q () s'):wpAny (model X.prog X.w) A (setAttr (.ref a) f u) Q E s:=by
 obtain⟨mA,O,r,wi,_,ho⟩:=Hg I.hok e;have hz:(fs.map (·.1)).length<=sizeLine:=by rw[v0,sizeLine_eq];lia
 refine QL I.kIn O c.sa c.po n.taker c.hd wi hz λh' O' sb=>h _ ?_
 have hd:∃o,h'.get? dx=some o:=let ⟨o,_,_,e',_⟩:=O'.ns;⟨o,e'⟩
 refine I.write (x:=a) (e:=dx) (by rw[e];exact True.intro) (.inr ho) (λb q hb z=>(sb.2 b hb).trans z) hd ?_
 refine⟨by rw[Xd O.ne];exact ho,?_,O.ne,O'.obj,_,O'.ns,λg=>?_,λg hg=>?_⟩
 ·have:=zd f y fs;lia
 ·show RelO ((WM f y fs).lookup g) (if g=f then some u else mA g)
  rw[yJ];by_cases q:g=f
  ·rw[if_pos q,if_pos q];exact ry
  ·rw[if_neg q,if_neg q];exact r g
 ·by_cases q:g=f
  ·rw[q];exact(Ep f y fs).1
  ·refine (Ep f y fs).2 g (wi g fun z=>hg ?_)
   show(if g=f then some u else mA g)=none
   rw[if_neg q];exact z
def Inv.made (I:Inv X ZY σ H s):Inv X ZY σ (Zd (Zd H s.heap.objs.size (.own (s.heap.objs.size+1))) (s.heap.objs.size+1) (.ins C s.heap.objs.size []))
  { s with heap:=(s.heap.push W.emptyDict).push (W.instObj C s.heap.objs.size) }:=by
 have e1:(s.heap.push W.emptyDict).get? s.heap.objs.size=some W.emptyDict:=z7 s.heap rfl;have e2:((s.heap.push W.emptyDict).push (W.instObj C s.heap.objs.size)).get? (s.heap.objs.size+1)=some (W.instObj C s.heap.objs.size):=by
  have:=z7 (s.heap.push W.emptyDict) (o:=W.instObj C s.heap.objs.size) rfl
  rwa [ZJ] at this
 have e3:(s.heap.push W.emptyDict).Ns s.heap.objs.size (λ_=>none):=⟨W.emptyDict,#[],_,e1,rfl,(λe he=>absurd he (by simp)),λ_=>rfl⟩
 have I1:=I.laid (a:=s.heap.objs.size) (o:=.own (s.heap.objs.size+1)) (h':=s.heap.push W.emptyDict) (t':=s.toks) (λb u q=>z0 _ q) (w4 _) ⟨_,e1⟩
 refine I1.laid (a:=s.heap.objs.size+1) (o:=.ins C s.heap.objs.size []) (t':=s.toks) (λb u q=>z0 _ q) (Nat.le_of_eq (ZJ _ _)) ?_
 have ne:s.heap.objs.size≠s.heap.objs.size+1:=v6 (YJ _);refine⟨by rw[Xd ne,WN],Us _,ne,e2,λ_=>none,(Heap.Ns1.of_empty e3).at λo q=>z0 _ q,λ_=>True.intro,λy hy=>absurd rfl hy⟩
def P3{env:Env}{f:Str} (hb:attributeBase e f env (eval e env)=eval e env)
  (h:wpAny (model prog w) A (eval e env) (λo s₁=>wpAny (model prog w) A (getAttr o f true) Q E s₁) E s):wpAny (model prog w) A (eval (.Attribute e f pos) env) Q E s :=
 Attribute_any_ h (by rw[arm_eval_Attribute,hb])
end
def CZ (K:W.Frag) (ta:TE) (f:Str):TE:=λσ H Q=>ta σ H λx H1=>∃a C dx fs v,x=.ref a/\H1 a=some (.ins C dx fs)/\Cls K C/\NoAttr K C f/\fs.lookup f=some v/\Q v H1
def CT (K:W.Frag) (ta tv:TE) (f:Str):TS:=λD σ H=>tv σ H λy H1=>ta σ H1 λx H2=>∃a C dx fs,x=.ref a/\H2 a=some (.ins C dx fs)/\Cls K C/\NoAttr K C f/\fs.length<1000 /\
 D.nx σ (Zd H2 a (.ins C dx (WM f y fs)))
section
variable {o value:Expr}{f:Str}{tpos:Pos}{tv:TE}
def FF (he:PE X e ta) (hb:attributeBase e f X.env (eval e X.env)=eval e X.env):PE X (.Attribute e f pos) (CZ X.K ta f):=by
 intro ZY s σ H Q I h;refine P3 hb (Z2 (he ZY s σ H _ I h) λu s1 z942=>?_)
 obtain⟨x,H1,I1,rx,a,C,dx,fs,v,ex,ea,c,n,l,q⟩:=z942;subst ex;obtain rfl:u=Value.ref a:=rx;exact vH I1 ea c n l λu' s2 I2 ru=>⟨v,H1,I2,ru,q⟩
def N0 (ha:PE X o ta) (hv:PE X value tv) (hs:swapsWith value (some (.Attribute o f pos')) pos.line X.env=pure false):PS X (.Assign [.Attribute o f pos'] value pos) (CT X.K ta tv f):=by
 intro ZY s σ H D I h;refine plainObj_wpAny_Assign_Attribute (Z2 (hv ZY s σ H _ I h) λu s1 ⟨y,H1,I1,ry,q⟩=>Z2 (ha ZY s1 σ H1 _ I1 q) λov s2 z944=>?_) hs
 obtain⟨x,H2,I2,rx,a,C,dx,fs,ex,ea,c,n,l,q2⟩:=z944;subst ex;obtain rfl:ov=Value.ref a:=rx;exact uM I2 ea c n l ry λs3 I3=>⟨σ,_,I3,q2⟩
end
section
variable {c:Value}{b:Bool}
inductive Vz (K:W.Frag) (H:Hp):V->Value->Prop where
 | non:Vz K H .non (.type "NoneType")
 | bl (x:Bool):Vz K H (.bl x) (.type "bool")
 | int (i:Int):Vz K H (.int i) (.type "int")
 | str (x:Str):Vz K H (.str x) (.type "str")
 | flt (x:UInt64):Vz K H (.flt x) (.type "float")
 | lst {a:Addr}{xs:List V} (e:H a=some (.lst xs)):Vz K H (.ref a) (.type "list")
 | frz {a:Addr}{o:Obj}{xs:List V} (e:H a=some (.frz o (.lst xs))):Vz K H (.ref a) (.type "list")
 | tup {a:Addr}{xs:List V} (e:H a=some (.tup xs)):Vz K H (.ref a) (.type "tuple")
 | dK {a:Addr}{kvs:List (Ys×V)} (e:H a=some (.dK kvs)):Vz K H (.ref a) (.type "dict")
 | dT {a:Addr}{kvs:List (List Ys×V)} (e:H a=some (.dT kvs)):Vz K H (.ref a) (.type "dict")
 | ins {a C dx:Addr}{fs:List (Str×V)} (e:H a=some (.ins C dx fs)) (cl:Cls K C) (ha:W.findIn K (.ref C) "__class__"=some (some (.builtin "object.__class__")))
   (hn:W.specialIn K (.builtin "object.__class__") "__get__"=some (some (.builtin "getset_descriptor.__get__"))) (htk:W.takesIn K (.builtin "object.__class__")=some true)
   (hm:W.mroIn K C (.type "object")=some true):Vz K H (.ref a) (.ref C)
def OG{x:V}{t:Value} (I:Inv X ZY σ H s) (rx:RelV x u) (ty:Vz X.K H x t) (e:W.kitOne X.K t c=some b) (h:∀tk,Q (.bool b) { s with toks:=tk }) :
  wpAny (model X.prog X.w) A (call (.builtin "isinstance") [u,c]) Q E s:=by
 cases ty with
 | non=>cases (show u=Value.none from rx);exact Y8 W.kitx_none I.kIn True.intro e (λz=>nomatch z) h
 | bl y=>cases (show u=Value.bool y from rx);exact Y8 W.kitx_bool I.kIn True.intro e (λz=>nomatch z) h
 | int i=>obtain⟨t,q⟩:=(show ∃t,u=Value.int i t from rx);cases q;exact Y8 W.kitx_int I.kIn True.intro e (λz=>nomatch z) h
 | str y=>obtain⟨t,q⟩:=(show ∃t,u=Value.str y t from rx);cases q;exact Y8 W.kitx_str I.kIn True.intro e (λz=>nomatch z) h
 | flt y=>obtain⟨t,q⟩:=(show ∃t,u=Value.float y t from rx);cases q;exact Y8 W.kitx_float I.kIn True.intro e (λz=>nomatch z) h
 | @lst a xs ea =>
  cases (show u=Value.ref a from rx)
  obtain⟨_,_,n,_,h1⟩:=(show ObjOk X.prog X.w H s.heap a (.lst xs) from I.hok a _ ea)
  exact Y8 W.kitx_list I.kIn ⟨_,h1,rfl⟩ e (λz=>nomatch z) h
 | @frz a ob xs ea =>
  cases (show u=Value.ref a from rx)
  obtain⟨_,_,_,n,_,h1⟩:=(show ObjOk X.prog X.w H s.heap a (.frz ob (.lst xs)) from I.hok a _ ea)
  exact Y8 W.kitx_list I.kIn ⟨_,h1,rfl⟩ e (λz=>nomatch z) h
 | @tup a xs ea =>
  cases (show u=Value.ref a from rx)
  obtain⟨_,_,_,p⟩:=(show ObjOk X.prog X.w H s.heap a (.tup xs) from I.hok a _ ea)
  obtain⟨o,h1,h2,_⟩:=p;exact Y8 W.kitx_tuple I.kIn ⟨o,h1,h2⟩ e (λz=>nomatch z) h
 | @dK a kvs ea =>
  cases (show u=Value.ref a from rx)
  obtain⟨_,_,vs,_,p⟩:=(show ObjOk X.prog X.w H s.heap a (.dK kvs) from I.hok a _ ea)
  obtain⟨o,es,ep,h1,h2,_⟩:=p;exact Y8 W.kitx_dict I.kIn ⟨o,h1,h2.1⟩ e (λz=>nomatch z) h
 | @dT a kvs ea =>
  cases (show u=Value.ref a from rx)
  obtain⟨_,_,xs,_,o,es,ep,h1,h2,_⟩:=(show ObjOk X.prog X.w H s.heap a (.dT kvs) from I.hok a _ ea)
  exact Y8 W.kitx_dict I.kIn ⟨o,h1,h2.1⟩ e (λz=>nomatch z) h
 | @ins a C dx fs ea cl ha hn htk hm =>
  cases (show u=Value.ref a from rx)
  obtain⟨mA,O,_⟩:=Hg I.hok ea;obtain⟨od,J,_⟩:=O.look;exact Y8 (W.kitx_own (cl.get _) cl.hd ha hn htk hm) I.kIn J e (λz=>nomatch z) h
end
structure Room (k:Nat) (A:Around):Prop where
 hd:A.handled=none
 dp:A.depth+3*k+5<recursionLimit
 un:A.units+16*k+200<cLine
theorem Room.mono(r:Room k A) (h:j<=k):Room j A:=⟨r.hd,by have:=r.dp;lia,by have:=r.un;lia⟩
theorem Room.deeper(r:Room (k+1) A) (env:Env):Room k (A.deeper env) :=
 ⟨r.hd,by have:=r.dp;show A.depth+1+3*k+5<_;lia,by have:=r.un;show A.units+3+16*k+200<_;lia⟩
def vE{kw:List (Str×Value)}:(A.under (.builtin "type.__call__" ⟨.ref C::us,kw⟩)).depth=A.depth+1:=by
 first|rfl|simp[Around.under,Code.weight,Code.isCreation,Code.isGuard,Code.isCaller,Code.frames,Code.isFrame,guardIds]
def vD{kw:List (Str×Value)}:(A.under (.builtin "type.__call__" ⟨.ref C::us,kw⟩)).units=A.units+1:=by
 first|rfl|simp[Around.under,Code.cUnits,Code.frames,Code.isFrame]
theorem Room.make(r:Room (k+1) A) (C:Addr) (us:List Value) (kw:List (Str×Value)):Room k (A.under (.builtin "type.__call__" ⟨.ref C::us,kw⟩)) :=
 ⟨r.hd,by have:=r.dp;rw[vE];lia,by have:=r.un;rw[vD];lia⟩
theorem Room.depth(r:Room k A):A.depth<recursionLimit:=by have:=r.dp;lia
def D3:TA:=λ_ H Q=>Q [] H
def Ox (ta:TE) (tr:TA):TA:=λσ H Q=>ta σ H λx H1=>tr σ H1 λxs H2=>Q (x::xs) H2
def R8:PA X [] D3:=λ_ _ _ _ H Q I h=>Calls.spliced_nil ⟨[],H,I,.nil,h⟩
def Qe (ha:PE X e te) (hr:PA X es t) (hs:autoParam (starEach (e::es) X.env=(false,eval e X.env)::starEach es X.env) aa._auto_1):PA X (e::es) (Ox te t):=by
 intro pos ZY s σ H Q I h;rw[hs];show wpAny _ _ (spliced ((false,eval e X.env)::backTo pos (starEach es X.env))) _ _ s;refine Calls.spliced_cons (Z2 (ha ZY s σ H _ I h) λu s1 z945=>?_)
 obtain⟨x,H1,I1,r1,q1⟩:=z945;exact Z2 (hr pos ZY s1 σ H1 _ I1 q1) λus s2 ⟨xs,H2,I2,r2,q2⟩=>⟨x::xs,H2,I2,.cons r1 r2,q2⟩
def D8 (t:TA):TE:=λσ H Q=>t σ H λxs H1=>xs.length<=sizeLine/\∀p,H1 p=none->Q (.ref p) (Zd H1 p (.tup xs))
def D2 (t:TA):TE:=λσ H Q=>t σ H λxs H1=>xs.length<=sizeLine/\∀p,H1 p=none->Q (.ref p) (Zd H1 p (.lst xs))
def MQ {x1} (h:PA X es t):PE X (.Tuple es x1 pos) (D8 t):=by
 intro ZY s σ H Q I hq;refine wpAny_Tuple_spliced (Z2 (h pos ZY s σ H _ I hq) λus s1 ⟨xs,H1,I1,r,z,q⟩=>⟨by rw[<- r.length];exact z,?_⟩)
 have hf:H1 s1.heap.objs.size=none:=I1.hok.fresh (w4 _);refine⟨.ref s1.heap.objs.size,Zd H1 s1.heap.objs.size (.tup xs),I1.laid (t':=s1.toks) (λb u e=>z0 _ e) (w4 _) ?_,rfl,q _ hf⟩
 exact⟨z,us,r,⟨_,z7 _ rfl,rfl,_,rfl⟩⟩
def FE (h:PA X es t):PE X (.List es pos) (D2 t):=by
 intro ZY s σ H Q I hq;refine wpAny_List_spliced (Z2 (h pos ZY s σ H _ I hq) λus s1 ⟨xs,H1,I1,r,z,q⟩=>⟨by rw[<- r.length];exact z,?_⟩)
 have hf:H1 s1.heap.objs.size=none:=I1.hok.fresh (w4 _);refine⟨.ref s1.heap.objs.size,Zd H1 s1.heap.objs.size (.lst xs),I1.laid (t':=s1.toks) (λb u e=>z0 _ e) (w4 _) ?_,rfl,q _ hf⟩
 exact⟨z,us,0,r,z7 _ rfl⟩
abbrev Sp:=List V->Hp->VK->XK->Prop
variable {sp:Sp}
abbrev RD:=List Env->Hp->Shared->XK->Value->Shared->Prop
structure Env0 (P:Program) (w:World) (K:W.Frag) (mg:MG) (base:Heap) (A:Around) (outer:List Env) (s:Shared) (H:Hp):Prop where
 frames:A.frames=some outer
 mod:Mod K mg base
 bs:∀b o,base.get? b=some o->s.heap.get? b=some o/\H b=none
 bsz:base.objs.size<=s.heap.objs.size
 funs:s.heap.FunFrames base outer
 frf:∀b∈T1 outer,H b=none
 hok:HOk P w H s.heap
 bare:AllBare s.gens
def CE (outer:List Env) (P:Program) (w:World) (H:Hp) (s:Shared) (Q:VK) (u:Value) (s':Shared):Prop :=
 ∃v H',s'.os=s.os/\AllBare s'.gens/\Un (T1 outer) [] H H' s.heap s'.heap/\HOk P w H' s'.heap/\RelV v u/\Q v H'
def CR (CX:RD) (outer:List Env) (P:Program) (w:World) (H:Hp) (s:Shared) (Q:VK) (E:XK) (r:Result) (s':Shared):Prop :=
 match r with
 | .ok (.ret u)=>CE outer P w H s Q u s'
 | .ok _=>False
 | .error e=>CX outer H s E e s'
structure FnOk (P:Program) (w:World) (K:W.Frag) (mg:MG) (base:Heap) (CX:RD) (k:Nat) (f:Addr) (fd:FuncData) (ps:List Str) (sp:Sp):Prop where
 len:∀vs H Q E,sp vs H Q E->vs.length=ps.length
 run:∀(A:Around) (outer:List Env) (s:Shared) (H:Hp) (args:Args) (us:List Value) (vs:List V) (Q:VK) (E:XK),Room k A->Env0 P w K mg base A outer s H->BindsTo s fd args (ps.zip us)->Vals vs us->sp vs H Q E ->
  codeAny (model P w) A (.call (.ref f) args) (CR CX outer P w H s Q E) s
def FnOk.imp{CX:RD}{sp':Sp} (F:FnOk P w K mg base CX k f fd ps sp)
  (h:∀vs H Q E,sp' vs H Q E->sp vs H Q E):FnOk P w K mg base CX k f fd ps sp' :=
 ⟨λvs H Q E q=>F.len vs H Q E (h _ _ _ _ q),λA outer s H args us vs Q E hr he hb hv hs=>F.run A outer s H args us vs Q E hr he hb hv (h _ _ _ _ hs)⟩
def Env0.make(e:Env0 P w K mg base A outer s H) (C:Addr) (us:List Value) (kw:List (Str×Value)) :
  Env0 P w K mg base (A.under (.builtin "type.__call__" ⟨.ref C::us,kw⟩)) outer s H:=⟨by first|exact e.frames|(simpa[Around.under,Code.envs,Code.isFrame,pushEnvs] using e.frames),e.mod,e.bs,e.bsz,e.funs,e.frf,e.hok,e.bare⟩
def Inv.env0 (I:Inv X ZY σ H s):Env0 X.prog X.w X.K X.mg X.base X.A X.stack s H :=
 ⟨I.ok.frames,I.ok.mod,I.bs,v7 I.ok.bsz I.sz,I.stack,I.stkFree,I.hok,I.bare⟩
def Inv.after{Q:VK} (I:Inv X ZY σ H s) (h:CE X.stack X.prog X.w H s Q u s'):EP X ZY σ Q u s':=by
 obtain⟨v,H',os,bare,un,hok,r,q⟩:=h;obtain⟨hh,g,d,t,os'⟩:=s';obtain rfl:os'=s.os:=os;exact⟨v,H',I.call (h':=hh) (g':=g) (d':=d) (t':=t) (ch:=[]) un hok bare (λb z=>absurd z (by simp)),r,q⟩
def Ow (sp:Sp) (dvs:List V) (E:XK) (t:TA):TE:=λσ H Q=>t σ H λvs H1=>sp (vs++dvs) H1 Q E
def JJ (C:Addr) (m:Str) (sp:Sp) (dvs:List V) (E:XK) (ta:TE) (t:TA):TE:=λσ H Q=>ta σ H λx H1=>∃a dx fs,x=.ref a/\H1 a=some (.ins C dx fs)/\fs.lookup m=none /\
 t σ H1 λvs H2=>sp (x::(vs++dvs)) H2 Q E
def JI (C:Addr) (sp:Sp) (dvs:List V) (E:XK) (t:TA):TE:=λσ H Q=>t σ H λvs H1=>∀x dx,H1 x=none->H1 dx=none->dx≠x ->
 sp (.ref x::(vs++dvs)) (Zd (Zd H1 dx (.own x)) x (.ins C dx [])) (λv H2=>v=.non/\Q (.ref x) H2) E
def Binds (K:W.Frag) (fd:FuncData) (ps:List Str) (ds:List Value):Prop :=
 ∀(s:Shared) (us:List Value),K.In s.heap->(us++ds).length=ps.length->BindsTo s fd ⟨us,[]⟩ (ps.zip (us++ds))
def Binds.all(h:∀us:List Value,us.length=ps.length->bindArgs fd ⟨us,[]⟩=pure (ps.zip us)):Binds K fd ps []:=λs us _ hl=>by
 rw[ZI] at hl |-
 exact .of_eq (h us hl)
def VV (CX:RD) (X:Cx) (E:XK):Prop:=∀(ZY:LO) (σ:St) (H:Hp) (s:Shared) (e:Value) (s':Shared),Inv X ZY σ H s->CX X.stack H s E e s'->X.xe e s'
section
variable {CX:RD}{E:XK}{Yw:Pos}{o:Expr}
def Kh{Q:VK} (F:FnOk X.prog X.w X.K X.mg X.base CX k f fd ps sp) (hr:Room k X.A) (hb:Binds X.K fd ps ds) (hd:Vals dvs ds) (hx:VV CX X E)
  (I:Inv X ZY σ H s) (r:Vals vs us) (h:sp (vs++dvs) H Q E):wpAny (model X.prog X.w) X.A (call (.ref f) us) (EP X ZY σ Q) X.xe s:=by
 have r2:Vals (vs++dvs) (us++ds):=r.append hd;have hl:(us++ds).length=ps.length:=by rw[<- r2.length];exact F.len _ _ _ _ h
 refine wpAny_call (Xo (F.run X.A X.stack s H ⟨us,[]⟩ (us++ds) (vs++dvs) Q E hr I.env0 (hb s us I.kIn hl) r2 h) λr s' hq=>?_)
 cases r with
 | error e=>exact hx ZY σ H s e s' I hq
 | ok fl =>
  cases fl with
  | ret u=>exact I.after hq
  | next=>exact False.elim hq
  | brk=>exact False.elim hq
  | cont=>exact False.elim hq
def Qh (F:FnOk X.prog X.w X.K X.mg X.base CX k f fd ps sp) (hr:Room k X.A) (hg:Gl X x) (hm:X.mg x=some (.ref f)) (hk:W.keepIn X.K (.ref f)=true) (hb:Binds X.K fd ps ds) (hd:Vals dvs ds) (hx:VV CX X E)
  (ha:PA X (e::es) t) (WJ:autoParam ((x==("__debug__":Str))=false) ac._auto_1) (he:autoParam (starEach (e::es) X.env=(false,eval e X.env)::starEach es X.env) aa._auto_1) (hpl:autoParam ((backTo pos (starEach es X.env)).any (·.1)=false) aa._auto_1) :
  PE X (.Call (.Name x p) (e::es) [] pos) (Ow sp dvs E t):=by
 intro ZY s σ H Q I h;refine YA (K9 I hg hm ?_ WJ);refine W.callWith_K (h₀:=X.base) I.ok.mod.kin hk (Z2 (ha pos ZY s σ H _ I h) λus s1 ⟨vs,H1,I1,r,q⟩=>⟨I1.kIn,?_⟩) he hpl
 exact Kh F hr hb hd hx I1 r q
def Ql {pl:Sem Bool} (he:PE X o ta) (c:Cls X.K C) (hm:RJ X.K C m f) (F:FnOk X.prog X.w X.K X.mg X.base CX k f fd ps sp) (hr:Room k X.A) (hb:Binds X.K fd ps ds) (hd:Vals dvs ds) (hx:VV CX X E) (ha:PA X (e::es) t)
  (WY:autoParam (starEach (e::es) X.env=(false,eval e X.env)::starEach es X.env) aa._auto_1) (hpl:autoParam ((backTo pos (starEach es X.env)).any (·.1)=false) aa._auto_1)
  (ht:autoParam (eval (.Call (.Attribute o m Yw) (e::es) [] pos) X.env=(do
   let ov <- eval o X.env
   standAt Yw.atName
   let (f,first) <- holding [ov] (getMethod ov m pl)
   callWith pos f first (backTo pos (starEach (e::es) X.env)) (backToKw pos (keywordEach [] X.env)))) aa._auto_1) :
  PE X (.Call (.Attribute o m Yw) (e::es) [] pos) (JJ C m sp dvs E ta t):=by
 intro ZY s σ H Q I h;refine W.methodCall_KW (pl:=pl) (Z2 (he ZY s σ H _ I h) λu s1 z950=>?_) ht
 obtain⟨x,H1,I1,rx,a,dx,fs,ex,ea,l,q⟩:=z950;subst ex;obtain rfl:u=Value.ref a:=rx;refine E4 I1 ea c hm l ?_;refine W.callWith_K (first:=[.ref a]) (h₀:=X.base) I.ok.mod.kin hm.kp (Z2 (ha pos ZY s1 σ H1 _ I1 q) λus s2 ⟨vs,H2,I2,r,q2⟩=>⟨I2.kIn,?_⟩) WY hpl
 exact Kh (us:=.ref a::us) (vs:=.ref a::vs) F hr hb hd hx I2 (.cons rfl r) q2
structure Mk (K:W.Frag) (C f:Addr):Prop where
 makes:W.makesIn K C=true
 init:W.findIn K (.ref C) "__init__"=some (some (.ref f))
 fn:W.isFn K (.ref f)=true
 kp:W.keepIn K (.ref C)=true
def xD{Q:VK} (M:Mk X.K C f) (F:FnOk X.prog X.w X.K X.mg X.base CX k f fd ps sp) (hr:Room (k+1) X.A) (hb:Binds X.K fd ps ds) (hd:Vals dvs ds)
  (hx:VV CX X E) (I:Inv X ZY σ H s) (r:Vals vs us)
  (h:∀x dx,H x=none->H dx=none->dx≠x->sp (.ref x::(vs++dvs)) (Zd (Zd H dx (.own x)) x (.ins C dx [])) (λv H2=>v=.non/\Q (.ref x) H2) E) :
  wpAny (model X.prog X.w) X.A (call (.ref C) us) (EP X ZY σ Q) X.xe s:=by
 have hq:=h (s.heap.objs.size+1) s.heap.objs.size (I.hok.fresh (Yx _)) (I.hok.fresh (w4 _)) (v6 (YJ _));have I2:=Inv.made (C:=C) I;have r2:Vals (V.ref (s.heap.objs.size+1)::(vs++dvs)) (Value.ref (s.heap.objs.size+1)::(us++ds)):=.cons rfl (r.append hd);have hl:(Value.ref (s.heap.objs.size+1)::us++ds).length=ps.length:=by
  have e:=r2.length;rw[F.len _ _ _ _ hq] at e;exact e.symm
 refine wpAny_call (A2 (f:=f) I.kIn M.makes M.init (beq_iff_eq.mp M.fn) (Xo (F.run _ X.stack _ _ ⟨Value.ref (s.heap.objs.size+1)::us,[]⟩ (Value.ref (s.heap.objs.size+1)::(us++ds)) _ _ E (hr.make C us [])
  (I2.env0.make C us []) (hb _ (Value.ref (s.heap.objs.size+1)::us) I2.kIn hl) r2 hq) λr s' hq'=>?_))
 cases r with
 | error e=>exact hx ZY σ _ _ e s' I2 hq'
 | ok fl =>
  cases fl with
  | ret u =>
   obtain⟨v,H',I3,rv,ev,q3⟩:=I2.after hq';subst ev;exact⟨rv,⟨V.ref (s.heap.objs.size+1),H',I3,rfl,q3⟩⟩
  | next=>exact False.elim hq'
  | brk=>exact False.elim hq'
  | cont=>exact False.elim hq'
def Qk (M:Mk X.K C f) (F:FnOk X.prog X.w X.K X.mg X.base CX k f fd ps sp) (hr:Room (k+1) X.A) (hg:Gl X x) (hm:X.mg x=some (.ref C)) (hb:Binds X.K fd ps ds) (hd:Vals dvs ds) (hx:VV CX X E)
  (ha:PA X (e::es) t) (WJ:autoParam ((x==("__debug__":Str))=false) ac._auto_1) (he:autoParam (starEach (e::es) X.env=(false,eval e X.env)::starEach es X.env) aa._auto_1) (hpl:autoParam ((backTo pos (starEach es X.env)).any (·.1)=false) aa._auto_1) :
  PE X (.Call (.Name x p) (e::es) [] pos) (JI C sp dvs E t):=by
 intro ZY s σ H Q I h;refine YA (K9 I hg hm ?_ WJ);refine W.callWith_K (h₀:=X.base) I.ok.mod.kin M.kp (Z2 (ha pos ZY s σ H _ I h) λus s1 ⟨vs,H1,I1,r,q⟩=>⟨I1.kIn,?_⟩) he hpl
 exact xD M F hr hb hd hx I1 r q
end
structure FnScope (N P:List Str) (sc:Scope):Prop where
 kind:sc.kind=.function
 co:sc.isCoroutine=false
 gen:sc.isGenerator=false
 nd:N.Nodup
 pre:N.take P.length=P
 par:∀x∈P,sc.names.lookup x=some .local\/sc.names.lookup x=some .cell
 nofree:∀y∈sc.names,y.2≠.free
def FnScope.au{P:List Str} (a:autoParam (sc.kind=.function) aa._auto_1) (b:autoParam (sc.isCoroutine=false) aa._auto_1) (c:autoParam (sc.isGenerator=false) aa._auto_1) (d:autoParam (N.Nodup) am._auto_1) (e:autoParam (N.take P.length=P) aa._auto_1) (f:autoParam (∀x∈P,sc.names.lookup x=some .local\/sc.names.lookup x=some .cell) am._auto_1) (g:autoParam (∀y∈sc.names,y.2≠.free) am._auto_1):FnScope N P sc:=⟨a,b,c,d,e,f,g⟩
theorem zI{kindOf:Str->Option NameKind}:∀{binds:List (Str×Value)}{m:MG},(∀v,(x,v)∉binds)->bindL kindOf binds m x=m x
 | [],_,_=>rfl
 | (n,v)::r,m,h=>by
  unfold bindL;rw[zI λw hw=>h w (z5 _ hw)]
  split
  ·have:x≠n:=by rintro rfl;exact h v z6
   simp[this]
  ·rfl
theorem zK{kindOf:Str->Option NameKind}:∀{binds:List (Str×Value)}{m:MG},(∀v,(x,v)∉binds)->bindC kindOf binds m x=m x
 | [],_,_=>rfl
 | (n,v)::r,m,h=>by
  unfold bindC;rw[zK λw hw=>h w (z5 _ hw)]
  split
  ·rfl
  ·have:x≠n:=by rintro rfl;exact h v z6
   simp[this]
theorem zJ{kindOf:Str->Option NameKind}{v:Value}:∀{P:List Str}{vs:List Value}{i:Nat}{m:MG},P.Nodup->P[i]?=some x->vs[i]?=some v->kindOf x=some .local ->
  bindL kindOf (P.zip vs) m x=some v
 | [],_,_,_,_,h,_,_=>by simp at h
 | _::_,[],_,_,_,_,h,_=>by simp at h
 | p::P,w::vs,0,m,nd,h1,h2,hk=>by
  simp at h1 h2;subst h1;subst h2;show bindL kindOf ((p,w)::P.zip vs) m p=_;unfold bindL;rw[zI λv hv=>(OT.mp nd).1 (WK hv).1,if_pos hk]
  simp
 | p::P,w::vs,i+1,m,nd,h1,h2,hk=>by
  show bindL kindOf ((p,w)::P.zip vs) m x=_;unfold bindL;exact zJ (i:=i) (OT.mp nd).2 (by simpa using h1) (by simpa using h2) hk
theorem zL{kindOf:Str->Option NameKind}{v:Value}:∀{P:List Str}{vs:List Value}{i:Nat}{m:MG},P.Nodup->P[i]?=some x->vs[i]?=some v->kindOf x≠some .local ->
  bindC kindOf (P.zip vs) m x=some v
 | [],_,_,_,_,h,_,_=>by simp at h
 | _::_,[],_,_,_,_,h,_=>by simp at h
 | p::P,w::vs,0,m,nd,h1,h2,hk=>by
  simp at h1 h2;subst h1;subst h2;show bindC kindOf ((p,w)::P.zip vs) m p=_;unfold bindC;rw[zK λv hv=>(OT.mp nd).1 (WK hv).1,if_neg hk]
  simp
 | p::P,w::vs,i+1,m,nd,h1,h2,hk=>by
  show bindC kindOf ((p,w)::P.zip vs) m x=_;unfold bindC;exact zL (i:=i) (OT.mp nd).2 (by simpa using h1) (by simpa using h2) hk
noncomputable def start (N:List Str) (vs:List V):St:=vs.map some++List.replicate (N.length - vs.length) none
noncomputable def VC (CX:RD) (P:Program) (w:World) (K:W.Frag) (mg:MG) (base:Heap) (N:List Str) (qual:Str) (scope:Scope) (f:Addr) (cd:Value) (A:Around) (outer:List Env) (s:Shared) (H:Hp) (E:XK):Cx where
 prog:=P
 w:=w
 K:=K
 mg:=mg
 base:=base
 A:=A.deeper (envOfC qual scope s.heap.objs.size f cd)
 N:=N
 s₀:=s
 H₀:=H
 env:=envOfC qual scope s.heap.objs.size f cd
 outer:=outer
 stack:=envOfC qual scope s.heap.objs.size f cd::outer
 ex:=[]
 calm:=true
 fn:=λ_=>true
 pn:=[]
 xe:=λe s'=>wpAny (model P w) (A.deeper (envOfC qual scope s.heap.objs.size f cd)) (leaving (envOfC qual scope s.heap.objs.size f cd) e) (λ_ s''=>CX outer H s E e s'') (λe' s''=>CX outer H s E e' s'') s'
def AD(h:sc.names.lookup x=some .cell):∃c,(cellsFrom n sc.names []).lookup x=some c:=by
 have q:=W.cellsFrom_some sc.names n [] (.inl h);exact Option.isSome_iff_exists.mp q
theorem vV{CX:RD}{s1:Shared}{E:XK}
  (S:FnScope N ps scope) (hd:A.handled=none) (e0:Env0 P w K mg base A outer s H) (hl:vs.length=ps.length) (r:Vals vs us)
  (x:InCallC s s.heap.objs.size (bindL (envOfC qual scope s.heap.objs.size f cd).kindOf (ps.zip us) λ_=>none) (cellsFrom (s.heap.objs.size+1) scope.names []) (bindC (envOfC qual scope s.heap.objs.size f cd).kindOf (ps.zip us) λ_=>none) s1) :
  Inv (VC CX P w K mg base N qual scope f cd A outer s H E) [] (start N vs) H s1:=by
 have hpl:ps.length<=N.length:=by have:=congrArg List.length S.pre;rw[r9] at this;lia
 obtain⟨h1,tk,rfl,hk⟩:=x.done;have noA:∀b:Addr,b∉(VC CX P w K mg base N qual scope f cd A outer s H E).ex:=λb z=>absurd (show b∈([]:List Addr) from z) (by simp)
 refine⟨⟨e0.mod,S.kind,rfl,rfl,w4 _,λy z c h1 h2=>?_,λy hy=>?_,λy c _ h=>?_,λ_=>hd,Around.frames_deeper e0.frames,.inr ⟨rfl,rfl⟩,λb z=>absurd z (noA b),e0.bs,e0.bsz,λb _ _=>noA b,λb z=>absurd z (noA b),e0.funs,e0.frf⟩,
  rfl,e0.bare,Un.kept hk,⟨_,x.toInCall.ns,λi y v h1 h2 h3=>?_⟩,λy c h=>⟨_,x.cell y c h⟩,e0.hok.fresh (w4 _),λy c h=>?_,λp hp=>absurd (show p∈([]:LO) from hp) (by simp),e0.hok.kept hk,?_⟩
 ·exact name_of_addr x.apart (Z7 h1) (Z7 h2)
 ·have hy:scope.names.lookup y=some .cell\/scope.names.lookup y=some .free:=hy
  rcases hy with hy|hy
  ·exact AD hy
  ·exact absurd rfl (S.nofree _ (Z7 hy))
 ·exact Wz (x.above y c (Z7 h))
 ·have hi:i<vs.length:=by
   unfold start at h2;by_cases hi:i<vs.length
   ·exact hi
   ·rw [NI (by simpa using hi)] at h2
    rw[t8] at h2;split at h2<;>cases h2
  have ha:vs[i]?=some v:=by
   unfold start at h2;rw[Lp (by simpa using hi),w6] at h2
   cases e:vs[i]? with
   | none=>rw[e] at h2;cases h2
   | some a=>rw[e] at h2;cases h2;rfl
  obtain⟨u,hu,rv⟩:=r.get ha;have hp:ps[i]?=some y:=by
   rw[<- S.pre,List.getElem?_take_of_lt (by lia)];exact h1
  have ndP:ps.Nodup:=by rw[<- S.pre];exact S.nd.sublist (List.take_sublist _ _)
  refine⟨u,rv,?_⟩;rcases S.par y (ZP hp) with k|k
  ·exact .inl ⟨k,zJ ndP hp hu k⟩
  ·obtain ⟨c,e⟩:=AD (n:=s.heap.objs.size+1) k
   refine .inr ⟨.inl k,c,e,?_⟩;have q:=x.cell y c e;rw[zL ndP hp hu (by show scope.names.lookup y≠_;rw[k];decide)] at q
   exact q
 ·exact e0.hok.fresh (Wz (x.above y c (Z7 h)))
 ·unfold start
  show _=N.length;rw[t5,v0,Lq];lia
def O6{CX:RD}{params:Arguments}{dV kV doc pm Zm ct oc:Value}{an od:Option Addr}
  {osl:Array (Option Value)} (lk:K.lookup f=some ⟨oc,od,.func (W.fnOf name qual params body scope dV kV doc pm an Zm ct),osl⟩) (Xa:W.codeIn K Zm qual=true) (S:FnScope N ps scope)
  (len:∀vs H Q E,sp vs H Q E->vs.length=ps.length)
  (Xm:∀ (A:Around) (outer:List Env) (s:Shared) (H:Hp) (vs:List V) (Q:VK) (E:XK),Room k (A.deeper (envOfC qual scope s.heap.objs.size f Zm))->sp vs H Q E ->
   ∃t,PSs (VC CX P w K mg base N qual scope f Zm A outer s H E) body t/\t { nx:=λ_ H'=>Q .non H',rt:=Q } (start N vs) H) :
  FnOk P w K mg base CX (k+1) f (W.fnOf name qual params body scope dV kV doc pm an Zm ct) ps sp:=by
 refine⟨len,λA outer s H args us vs Q E hr e0 hb r hsp=>?_⟩
 have hl:=len _ _ _ _ hsp;have KX:K.In s.heap:=e0.mod.kin.keeps λb o e=>(e0.bs b o e).1
 have lim:s.heap.NoLimit:=e0.mod.nolimit.keeps λb o e=>(e0.bs b o e).1
 have hkind:∀y∈ps.zip us,scope.names.lookup y.1=some .local\/(scope.names.lookup y.1=some .cell/\((cellsFrom (s.heap.objs.size+1) scope.names []).lookup y.1).isSome=true):=λ⟨n,v⟩ hy=>by
  rcases S.par n (WK hy).1 with q|q
  ·exact .inl q
  ·exact .inr ⟨q,W.cellsFrom_some _ _ _ (.inl q)⟩
 refine codeAny_call_function hr.depth (KX _ _ lk) rfl S.co S.gen rfl (W.codeRec_of KX Xa) (hb _ _ _ _ ?_);refine wpAny_newFunctionEnv_cells S.kind hkind λenv he s1 x=>?_
 subst he;refine⟨lim.keeps x.toInCall.keep,codeAny_func ?_⟩;obtain⟨t,ht,hq⟩:=Xm A outer s H vs Q E (hr.deeper _) hsp;have I:Inv (VC CX P w K mg base N qual scope f Zm A outer s H E) [] (start N vs) H s1:=vV S hr.hd e0 hl r x;refine XZ (ht [] s1 (start N vs) H _ I hq) (λfl s' hs=>?_) λe s' hs=>hs
 have Xe:∀{σ':St}{H':Hp}{v:V}{u:Value},Inv (VC CX P w K mg base N qual scope f Zm A outer s H E) [] σ' H' s'->RelV v u->Q v H'->CE outer P w H s Q u s' :=
  λ{σ' H' v u} J rv q=>⟨v,H',J.os,J.bare,J.base,J.hok,rv,q⟩
 cases fl with
 | ret u =>
  obtain⟨v,σ',H',J,rv,q⟩:=hs;exact Xe J rv q
 | next =>
  obtain⟨σ',H',J,q⟩:=hs;exact Xe (v:=V.non) (u:=Value.none) J rfl q
 | brk =>
  obtain⟨_,_,_,q⟩:=hs;exact False.elim q
 | cont =>
  obtain⟨_,_,_,q⟩:=hs;exact False.elim q
section
variable {id T:String}{r:List V->Hp->VK->Prop}
def Gg (r:List V->Hp->VK->Prop) (t:TA):TE:=λσ H Q=>t σ H λvs H1=>r vs H1 Q
def xN (hc:YG X (.builtin id) r) (hg:Gl X x) (hm:X.mg x=none) (hv:bootBuiltins x=some (.builtin id)) (ha:PA X (e::es) t) (hn:autoParam (x≠"__name__") ac._auto_1) (WJ:autoParam ((x==("__debug__":Str))=false) ac._auto_1)
  (he:autoParam (starEach (e::es) X.env=(false,eval e X.env)::starEach es X.env) aa._auto_1) (hpl:autoParam ((backTo pos (starEach es X.env)).any (·.1)=false) aa._auto_1):PE X (.Call (.Name x p) (e::es) [] pos) (Gg r t):=by
 intro ZY s σ H Q I h;refine YA (SU I hg hm hv ?_ hn WJ);exact PyProof.Rows.callWith_builtin1 (Z2 (ha pos ZY s σ H _ I h) λus s1 z954=>by obtain⟨vs,H1,I1,r1,q1⟩:=z954;exact hc ZY s1 σ H1 vs us Q I1 r1 q1) he hpl
def wf (hc:YG X (.type T) r) (hg:Gl X x) (hm:X.mg x=none) (hv:bootBuiltins x=some (.type T)) (ha:PA X (e::es) t) (hn:autoParam (x≠"__name__") ac._auto_1) (WJ:autoParam ((x==("__debug__":Str))=false) ac._auto_1)
  (he:autoParam (starEach (e::es) X.env=(false,eval e X.env)::starEach es X.env) aa._auto_1) (hpl:autoParam ((backTo pos (starEach es X.env)).any (·.1)=false) aa._auto_1):PE X (.Call (.Name x p) (e::es) [] pos) (Gg r t):=by
 intro ZY s σ H Q I h;refine YA (SU I hg hm hv ?_ hn WJ);exact ZL (Z2 (ha pos ZY s σ H _ I h) λus s1 z955=>by obtain⟨vs,H1,I1,r1,q1⟩:=z955;exact hc ZY s1 σ H1 vs us Q I1 r1 q1) he hpl
end
end L2
namespace HT
open PySem PyProof.Rows
section
open PySem.SeqAt
open PySem.AutoSeq1 (wpAny_loadPart')
open PySem.MeetsSeq PySem.MeetsSeq2 PySem.MeetsSeq3
end
section
variable {prog:Program}{w:World}{A:Around}{E:VP}{s:Shared}
noncomputable def sIx (n d:Nat):Option Int->Nat
 | none=>d
 | some v=>if v<0 then (v+(n:Int)).toNat else min v.toNat n
def sIx_none (n d:Nat):sIx n d none=d:=rfl
theorem sIx_nat (n d k:Nat):sIx n d (some (k:Int))=min k n:=by
 show(if (k:Int)<0 then ((k:Int)+(n:Int)).toNat else min (k:Int).toNat n)=min k n
 rw[if_neg (by lia),Int.toNat_natCast]
theorem sIx_le (n d:Nat) (hd:d<=n) (o:Option Int):sIx n d o<=n:=by
 cases o with
 | none=>exact hd
 | some v =>
  show(if v<0 then (v+(n:Int)).toNat else min v.toNat n)<=n
  by_cases hv:v<0
  ·rw[if_pos hv];lia
  ·rw[if_neg hv];exact Nat.min_le_right _ _
end
end HT
namespace L2
open PySem PySem.Spec PyProof.Rows
variable {X:Cx}{e:Expr}{pos:Pos}{α:Type}{n j t':Nat}{i:Int}{ZY:LO}{σ:St}{H:Hp}{s:Shared}{p:Addr}{xs ys:List V}{ZO its' us:List Value}{T:String}
abbrev TO:=St->Hp->(Option Int->Hp->Prop)->Prop
def PO (X:Cx) (e:Option Expr) (t:TO):Prop :=
 ∀(ZY:LO) (s:Shared) (σ:St) (H:Hp) (Q:Option Int->Hp->Prop),Inv X ZY σ H s->t σ H Q ->
  wpAny (model X.prog X.w) X.A (evalPart e X.env) (λu s'=>∃o H',Inv X ZY σ H' s'/\IsPart u o/\Q o H') X.xe s
noncomputable def QW:TO:=λ_ H Q=>Q none H
noncomputable def JM (t:TE):TO:=λσ H Q=>t σ H λx H1=>∃i,x=.int i/\Q (some i) H1
section
variable {te:TE}{lo hi:Option Expr}{tl th:TO}{p2:Pos}
def Qr:PO X none QW:=by
 intro ZY s σ H Q I h;rw[evalPart_none];exact wpAny_pure ⟨none,H,I,.none,h⟩
def Qs (h:PE X e te):PO X (some e) (JM te):=by
 intro ZY s σ H Q I hw;rw[evalPart_some];refine Z2 (h ZY s σ H _ I hw) λu s1 z956=>?_
 obtain⟨x,H1,I1,r1,q1⟩:=z956;obtain⟨i,rfl,q⟩:=q1;obtain⟨t,rfl⟩:=r1;exact⟨some i,H1,I1,.int i t,q⟩
def G0 (X:Cx) (r:V->Option Int->Option Int->Hp->VK->Prop):Prop :=
 ∀(ZY:LO) (s:Shared) (σ:St) (H:Hp) (x:V) (v vl vu:Value) (lo hi:Option Int) (sl:Addr) (Q:VK),Inv X ZY σ H s->RelV x v->s.heap.IsSliceOf sl vl vu .none->IsPart vl lo->IsPart vu hi->r x lo hi H Q ->
  ∃T id,typeLookup (.type T) "__getitem__"=pure (some (.builtin id))/\s.TypeIs v T/\wpAny (model X.prog X.w) X.A (getItem v (.ref sl)) (EP X ZY σ Q) X.xe s
def rP (r:V->Option Int->Option Int->Hp->VK->Prop) (te:TE) (tl th:TO):TE:=λσ H Q=>te σ H λx H1=>tl σ H1 λl H2=>th σ H2 λu H3=>r x l u H3 Q
def zX {r:V->Option Int->Option Int->Hp->VK->Prop} (hr:G0 X r) (he:PE X e te) (hl:PO X lo tl) (hu:PO X hi th):PE X (.Subscript e (.Slice lo hi none p2) pos) (rP r te tl th):=by
 intro ZY s σ H Q I h;refine Subscript_ (Z2 (he ZY s σ H _ I h) λv s1 z957=>?_)
 obtain⟨x,H1,I1,r1,q1⟩:=z957;refine wpAny_Slice (Z2 (hl ZY s1 σ H1 _ I1 q1) λvl s2 ⟨l,H2,I2,pl,q2⟩=>Z2 (hu ZY s2 σ H2 _ I2 q2) λvu s3 z959=>?_)
 obtain⟨u,H3,I3,pu,q3⟩:=z959;rw[evalPart_none];refine wpAny_pure ?_;have I4:Inv X ZY σ H3 { s3 with heap:=s3.heap.push { cls:=.type "slice",data:=.fields #[vl,vu,.none] } }:=I3.kept (t':=s3.toks) λb ob q=>z0 _ q
 obtain⟨T,id,hT,ht,hg⟩:=hr ZY { s3 with heap:=s3.heap.push { cls:=.type "slice",data:=.fields #[vl,vu,.none] } } σ H3 x v vl vu l u s3.heap.objs.size Q I4 r1 (Heap.IsSliceOf.new ..) pl pu q3
 show wpAny (model X.prog X.w) X.A (subscriptTail e (.Slice lo hi none p2) v (.ref s3.heap.objs.size)) (EP X ZY σ Q) X.xe { s3 with heap:=s3.heap.push { cls:=.type "slice",data:=.fields #[vl,vu,.none] } }
 exact tail_any (ops:=[.ref s3.heap.objs.size,v]) ht hT hg (by with_unfolding_all rfl)
noncomputable def SY (xs:List V) (lo hi:Option Int):List V:=(xs.drop (HT.sIx xs.length 0 lo)).take (HT.sIx xs.length xs.length hi - HT.sIx xs.length 0 lo)
theorem uC (xs:List V) (lo hi:Option Int):(SY xs lo hi).length<=xs.length:=by
 unfold SY;rw[r9,RC];lia
end
noncomputable def T7 (n:Nat) (i:Int):Option Nat:=if 0<=i then (if i<n then some i.toNat else none) else if -(n:Int)<=i then some (i+n).toNat else none
noncomputable def VA(xs:List α) (i:Int):Option α:=(T7 xs.length i).bind λj=>xs[j]?
theorem AX(h:T7 n i=some j):seqIndex? i n=some j/\j<n/\-(n:Int)<=i/\i<n:=by
 unfold T7 at h;by_cases h0:0<=i
 ·rw [if_pos h0] at h
  by_cases h1:i<n
  ·rw [if_pos h1] at h
   have e:i.toNat=j:=ZS h;exact⟨by rw[seqIndex_of h0 h1,e],by lia,by lia,h1⟩
  ·rw[if_neg h1] at h;cases h
 ·rw [if_neg h0] at h
  by_cases h1:-(n:Int)<=i
  ·rw [if_pos h1] at h
   have e:(i+n).toNat=j:=ZS h;exact⟨by rw[seqIndex_neg (by lia) h1,e],by lia,h1,by lia⟩
  ·rw[if_neg h1] at h;cases h
def Fp{xs:List α}{v:α} (h:VA xs i=some v):∃j,seqIndex? i xs.length=some j/\xs[j]?=some v/\j<xs.length/\-(xs.length:Int)<=i/\i<xs.length:=by
 unfold VA at h;cases e:T7 xs.length i with
 | none=>rw[e] at h;cases h
 | some j =>
  rw[e] at h;obtain⟨h1,h2,h3,h4⟩:=AX e;exact⟨j,h1,h,h2,h3,h4⟩
theorem Hq{xs:List α}{v:α} (h:xs[j]?=some v):VA xs (j:Int)=some v:=by
 have hj:j<xs.length:=(x0.mp h).1;have e:T7 xs.length (j:Int)=some j:=by
  unfold T7;rw[if_pos (by lia),if_pos (by lia)];simp
 unfold VA;rw[e];exact h
def UD (b:Expr):Prop:=∀o i,subscripted b false o i=operate [o,i] (getItem o i)
def Ly (X:Cx) (r:R2):Prop :=
 ∀(value slice:Expr) (ZY:LO) (s:Shared) (σ:St) (H:Hp) (x y:V) (v u:Value) (Q:VK),Inv X ZY σ H s->RelV x v->RelV y u->r x y H Q ->
  subscripted slice false v u=operate [v,u] (getItem v u)->wpAny (model X.prog X.w) X.A (subscriptTail value slice v u) (EP X ZY σ Q) X.xe s
def C7 (X:Cx) (id:String) (r:V->List V->Hp->VK->Prop):Prop :=
 ∀(ZY:LO) (s:Shared) (σ:St) (H:Hp) (x:V) (xs:List V) (v:Value) (us:List Value) (Q:VK),Inv X ZY σ H s->RelV x v->Vals xs us->r x xs H Q ->
  wpAny (model X.prog X.w) X.A (call (.builtin id) (v::us)) (EP X ZY σ Q) X.xe s
section
variable {a b:Expr}{ta tb:TE}
def Oo {r:R2} (hr:Ly X r) (ha:PE X a ta) (hb:PE X b tb) (hs:UD b):PE X (.Subscript a b pos) (Gh r ta tb):=by
 intro ZY s σ H Q I h;exact Subscript_ (LH ha hb I h λv u s2 x y H2 I2 rx ry q=>hr a b ZY s2 σ H2 x y v u Q I2 rx ry q (hs _ _))
def CK (K:W.Frag):R2:=λx y H Q=>∃p xs i v,x=.ref p/\y=.int i/\Wr K H p xs/\VA xs i=some v/\Q v H
def CM (K:W.Frag):R2:=λx y H Q=>∃p xs i v,x=.ref p/\y=.int i/\UF K H p xs/\VA xs i=some v/\Q v H
def CL:R2:=λx y H Q=>∃z i c,x=.str z/\y=.int i/\z.length<=sizeLine/\VA z.cps.toList i=some c/\Q (.str ⟨#[c]⟩) H
theorem PM:Ly X (CK X.K):=by
 intro value slice ZY s σ H x y v u Q I rx ry h hs;obtain⟨p,xs,i,z,rfl,rfl,hq,he,q⟩:=h;cases rx;obtain⟨t,rfl⟩:=ry;obtain⟨ZO,r,pl,hz⟩:=I.list hq;obtain⟨j,h1,h2,h3,h4,h5⟩:=Fp he;obtain⟨w,ew,rw'⟩:=r.get h2;have hl:=r.length;have hn:=Vu;have Xe:EP X ZY σ Q w s:=⟨z,H,I,rw',q⟩;by_cases h0:0<=i
 ·have hj:i.toNat=j:=by
   rw[seqIndex_of h0 h5] at h1;exact ZS h1
  exact item_listR pl.isList h0 (by lia) (by rw[hj];simpa using ew) Xe hs
 ·have hj:(i+(ZO.toArray.size:Int)).toNat=j:=by
   rw[seqIndex_neg (by lia) h4] at h1
   rw[w5,<- hl];exact ZS h1
  exact subscriptTail_builtinR (x:=w) pl.isList.typeIs slot_list_getitem.lookup
   (wpAny_getItem_list_neg (Q:=λr s'=>r=w/\EP X ZY σ Q r s') pl.isList (by lia) (by rw[w5]<;>lia) (by lia) (by rw[hj];simpa using ew) ⟨rfl,Xe⟩) hs
theorem Ml:Ly X (CM X.K):=by
 intro value slice ZY s σ H x y v u Q I rx ry h hs;obtain⟨p,xs,i,z,rfl,rfl,hq,he,q⟩:=h;cases rx;obtain⟨t,rfl⟩:=ry;obtain⟨ZO,r,pl,hz⟩:=I.tuple hq;obtain⟨j,h1,h2,h3,h4,h5⟩:=Fp he;obtain⟨w,ew,rw'⟩:=r.get h2;have hl:=r.length;have hn:=Vu;have Xe:EP X ZY σ Q w s:=⟨z,H,I,rw',q⟩;exact subscriptTail_builtinR (x:=w) pl.typeIs slot_tuple_getitem.lookup
  (getItem_tuple (j:=j) (Q:=λr s'=>r=w/\EP X ZY σ Q r s') pl (by lia) (by lia) (by rw[w5,<- hl];exact h1) (by simpa using ew) ⟨rfl,Xe⟩) hs
theorem Mj:Ly X CL:=by
 intro value slice ZY s σ H x y v u Q I rx ry h hs;obtain⟨z,i,c,rfl,rfl,hz,he,q⟩:=h;obtain⟨t,rfl⟩:=rx;obtain⟨t',rfl⟩:=ry;obtain⟨j,h1,h2,h3,h4,h5⟩:=Fp he;have hl:z.cps.toList.length=z.length:=by simp[Str.length]
 rw[hl] at h1 h4 h5;have hn:=Vu;exact tail_any (typeIs_str s z t) slot_str_getitem.lookup (getItem_str (c:=c) (by
  have e1:decide (i < -(2^63:Int))=false:=ZE (by lia)
  have e2:decide (i ≥ 2^63)=false:=ZE (by lia)
  rw[e1,e2,Bool.or_false]) (by rw[h1];simpa using h2) ⟨.str ⟨#[c]⟩,H,I.tok _,⟨_,rfl⟩,q⟩) hs
def vC (ZO:List Value) (n j:Nat) (u:Value):Obj.mapSeq (·.setIfInBounds j u) { cls:=.type "list",data:=.seq ZO.toArray n }={ cls:=.type "list",data:=.seq (ZO.set j u).toArray n }:=by
 simp[Obj.mapSeq]
theorem Inv.lst(I:Inv X ZY σ H s) (h:H p=some (.lst xs)) :
  ∃(ZO:List Value) (n:Nat),Vals xs ZO/\s.heap.get? p=some { cls:=.type "list",data:=.seq ZO.toArray n }/\xs.length<=sizeLine:=by
 obtain⟨z,ZO,n,r,e⟩:=I.hok p _ h;exact⟨ZO,n,r,e,z⟩
def Inv.lstUpd{n':Nat}{f:Obj->Obj} (I:Inv X ZY σ H s) (h:H p=some (.lst xs))
  (ho:s.heap.get? p=some { cls:=.type "list",data:=.seq ZO.toArray n }) (hf:f { cls:=.type "list",data:=.seq ZO.toArray n }={ cls:=.type "list",data:=.seq its'.toArray n' }) (r:Vals ys its') (hz:ys.length<=sizeLine) (t:Nat) :
  Inv X ZY σ (Zd H p (.lst ys)) { s with heap:=s.heap.update p f,toks:=t }:=by
 have e:(s.heap.update p f).get? p=some { cls:=.type "list",data:=.seq its'.toArray n' }:=by
  rw[t0 f ho (by rw[hf]<;>rfl),hf]
 refine I.write (x:=p) (e:=p) (by rw[h];trivial) (.inl rfl) (λb u hb q=>(v9 _ _ (YN hb)).trans q) ⟨_,e⟩ ?_
 exact⟨hz,its',n',r,e⟩
noncomputable def Jy:V->V->V->Hp->(Hp->Prop)->Prop:=λo i v H Q=>∃p xs k j,o=.ref p/\i=.int k/\H p=some (.lst xs)/\T7 xs.length k=some j/\Q (Zd H p (.lst (xs.set j v)))
theorem wE:Il X Jy:=by
 intro ZY s σ H o i v ov iv u Q I ro ri rv h;obtain⟨p,xs,k,j,rfl,rfl,hp,hj,q⟩:=h;cases ro;obtain⟨t,rfl⟩:=ri;obtain⟨ZO,n,r,ho,hz⟩:=I.lst hp;obtain⟨h1,h2,h3,h4⟩:=AX hj;have hl:=r.length;have hn:=Vu;have I':Inv X ZY σ (Zd H p (.lst (xs.set j v))) { s with heap:=s.heap.update p (Obj.mapSeq (·.setIfInBounds j u)) } :=
  I.lstUpd hp ho (vC ZO n j u) (r.set rv j) (by rw[List.length_set];exact hz) s.toks
 by_cases h0:0<=k
 ·have hk:k.toNat=j:=by
   rw[seqIndex_of h0 h4] at h1;exact ZS h1
  exact W.ki_setAt ho h0 (by lia) (by rw[w5,<- hl];exact h4) (by rw[hk];exact⟨_,I',q⟩)
 ·have hk:(k+(ZO.toArray.size:Int)).toNat=j:=by
   rw[seqIndex_neg (by lia) h3] at h1
   rw[w5,<- hl];exact ZS h1
  exact W.ki_setBack ho (by lia) (by rw[w5,<- hl];exact h3) (by lia) (by rw[hk];exact⟨_,I',q⟩)
theorem tN (lo hi:Option Int) (n:Nat):(sliceBounds lo hi none n).1=((HT.sIx n 0 lo:Nat):Int)/\(sliceBounds lo hi none n).2.1=((HT.sIx n n hi:Nat):Int)/\(sliceBounds lo hi none n).2.2=1:=by
 refine⟨?_,?_,rfl⟩
 ·cases lo with
  | none=>simp[sliceBounds,HT.sIx]
  | some i =>
   simp only[sliceBounds,HT.sIx,Option.getD_none,show(1:Int) > 0 by decide,if_true]
   by_cases h:i<0
   ·simp only[h,if_true]<;>lia
   ·simp only[h,if_false]<;>lia
 ·cases hi with
  | none=>simp[sliceBounds,HT.sIx]
  | some i =>
   simp only[sliceBounds,HT.sIx,Option.getD_none,show(1:Int) > 0 by decide,if_true]
   by_cases h:i<0
   ·simp only[h,if_true]<;>lia
   ·simp only[h,if_false]<;>lia
def sY (ZO:List Value) (lo hi:Option Int):slicePick ZO.toArray lo hi none=((ZO.drop (HT.sIx ZO.length 0 lo)).take (HT.sIx ZO.length ZO.length hi - HT.sIx ZO.length 0 lo)).toArray:=by
 obtain⟨h1,h2,h3⟩:=tN lo hi ZO.toArray.size;unfold slicePick;rw[h1,h2,h3];simp only[sliceRange_one,pick_run,w5]<;>rfl
def CP (K:W.Frag):V->Option Int->Option Int->Hp->VK->Prop:=λx lo hi H Q=>∃a xs,x=.ref a/\Wr K H a xs/\∀p,H p=none->Q (.ref p) (Zd H p (.lst (SY xs lo hi)))
theorem AL:G0 X (CP X.K):=by
 intro ZY s σ H x v vl vu lo hi sl Q I rx hs pl pu h;obtain⟨a,xs,rfl,hx,q⟩:=h;cases rx;obtain⟨ZO,r,ht,hz⟩:=I.list hx;have XJ:=r.length;refine⟨"list",_,slot_list_getitem.lookup,ht.isList.typeIs,?_⟩;refine wpAny_getItem_list_slice ht.isList hs pl pu .none (by simp) ?_ (by rw[w5]<;>lia)
 rw[sY,<- XJ];refine⟨.ref s.heap.objs.size,_,I.laid (t':=s.toks) (o:=.lst (SY xs lo hi)) (λb ob q=>z0 _ q) (w4 _) ?_,rfl,q _ (I.hok.fresh (w4 _))⟩
 exact⟨v7 (uC xs lo hi) hz,_,0,(r.drop (HT.sIx xs.length 0 lo)).take (HT.sIx xs.length xs.length hi - HT.sIx xs.length 0 lo),z7 _ rfl⟩
def tI:Y0 X (compareOp .NotIn) (λx y H Q=>∃i j,x=.str i/\y=.str j/\Q (.bl (!(!(Builtin.Str.occurrences j i 0 j.length 1).isEmpty))) H):=by
 intro ZY s σ H x y v u Q I rx ry h;obtain⟨i,j,rfl,rfl,q⟩:=h;obtain⟨t,rfl⟩:=rx;obtain⟨t',rfl⟩:=ry;exact notIn_str ⟨.bl _,H,I,rfl,q⟩
theorem ux:YG X (.type "list") (λxs H Q=>∃p ys,xs=[.ref p]/\(Wr X.K H p ys\/UF X.K H p ys)/\∀l,H l=none->Q (.ref l) (Zd H l (.lst ys))):=by
 intro ZY s σ H xs us Q I r h;obtain⟨p,ys,rfl,hq,q⟩:=h;obtain⟨u,rfl,rx⟩:=vals1 r;cases rx;have Xe:∀(ZO:List Value),Vals ys ZO->ys.length<=sizeLine->∀(h':Heap) (c':Nat),(∀b o',s.heap.get? b=some o'->h'.get? b=some o') ->
   h'.get? s.heap.objs.size=some { cls:=.type "list",dict:=none,data:=.seq ZO.toArray c',slots:=#[] }->EP X ZY σ Q (.ref s.heap.objs.size) { s with heap:=h' }:=λZO r' hz h' c' kp e =>
  ⟨.ref s.heap.objs.size,_,I.laid (t':=s.toks) kp (w4 _) (show ObjOk X.prog X.w _ h' _ (.lst ys) from⟨hz,ZO,c',r',e⟩),rfl,q _ (I.hok.fresh (w4 _))⟩
 rcases hq with hq|hq
 ·obtain ⟨ZO,r',pl,hz⟩:=I.list hq
  have XJ:=r'.length;obtain⟨o,ho,hc,n,hd⟩:=pl.isList;exact call_list_seq p (.inl rfl) ho hc hd (λh' c' kp e=>Xe ZO r' hz h' c' kp e) (by simp only[w5]<;>lia)
 ·obtain ⟨ZO,r',pl,hz⟩:=I.tuple hq
  have XJ:=r'.length;obtain⟨o,ho,hc,n,hd⟩:=pl;exact call_list_seq p (.inr rfl) ho hc hd (λh' c' kp e=>Xe ZO r' hz h' c' kp e) (by simp only[w5]<;>lia)
theorem yD:YG X (.type "tuple") (λxs H Q=>∃p ys,xs=[.ref p]/\((Wr X.K H p ys/\∀l,H l=none->Q (.ref l) (Zd H l (.tup ys)))\/(UF X.K H p ys/\Q (.ref p) H))):=by
 intro ZY s σ H xs us Q I r h;obtain⟨p,ys,rfl,h⟩:=h;obtain⟨u,rfl,rx⟩:=vals1 r;cases rx;rcases h with⟨hq,q⟩|⟨hq,q⟩
 ·obtain ⟨ZO,r',pl,hz⟩:=I.list hq
  have XJ:=r'.length;refine call_tuple_list pl.isList (λh' kp=>?_) (by simp only[w5]<;>lia)
  have I1:Inv X ZY σ H { s with heap:=h' }:=I.kept (t':=s.toks) kp
  have I2:Inv X ZY σ (Zd H h'.objs.size (.tup ys)) { s with heap:=h'.push { cls:=.type "tuple",data:=.seq ZO.toArray } } :=
   I1.laid (t':=s.toks) (λb o e=>z0 _ e) (w4 _) (show ObjOk X.prog X.w _ _ _ (.tup ys) from⟨hz,ZO,r',IsTup.new _ _⟩)
  exact⟨.ref h'.objs.size,_,I2,rfl,q _ (I1.hok.fresh (w4 _))⟩
 ·obtain ⟨ZO,r',pl,hz⟩:=I.tuple hq
  exact call_tuple_same pl ⟨.ref p,H,I,rfl,q⟩
def Dc (K:W.Frag) (T:String) (x:V) (H:Hp):Prop:=match x with
 | .str _=>T="str"
 | .int _=>T="int"
 | .ref p=>(T="list"/\∃xs,Wr K H p xs)\/(T="tuple"/\∃o,K.lookup p=some o/\o.cls=.type "tuple"/\o.dict=none) \/
   (T="dict"/\((∃kvs,H p=some (.dK kvs))\/∃kvs,H p=some (.dT kvs)))\/(T="set"/\∃S n,H p=some (.set S n))
 | _=>False
def BN{x:V}{v:Value} (I:Inv X ZY σ H s) (r:RelV x v) (ty:Dc X.K T x H) :
  s.TypeIs v T/\∀a,v=.ref a->∃ob,s.heap.get? a=some ob/\ob.dict=none:=by
 cases x with
 | str z =>
  obtain⟨t,rfl⟩:=r;cases (show T="str" from ty)
  exact⟨typeIs_str s z t,λ_ e=>nomatch e⟩
 | int i =>
  obtain⟨t,rfl⟩:=r;cases (show T="int" from ty)
  exact⟨typeIs_int s i t,λ_ e=>nomatch e⟩
 | ref p =>
  cases r;rcases ty with⟨rfl,xs,hq⟩|⟨rfl,o,hk,hc,hd⟩|⟨rfl,hk⟩|⟨rfl,S,n,hk⟩
  ·obtain ⟨ZO,_,pl,_⟩:=I.list hq
   refine⟨pl.isList.typeIs,λa e=>?_⟩
   cases e;obtain⟨o,n,e,c,hd,_⟩:=pl;exact⟨o,e,hd⟩
  ·refine ⟨⟨o,I.kIn p o hk,hc⟩,fun a e=>?_⟩
   cases e;exact⟨o,I.kIn _ o hk,hd⟩
  ·have z:∃o,s.heap.get? p=some o/\o.ExactDict:=by
    rcases hk with⟨kvs,hk⟩|⟨kvs,hk⟩
    ·obtain ⟨_,_,_,_,o,_,_,e,ex,_⟩:=I.hok p _ hk
     exact⟨o,e,ex⟩
    ·obtain ⟨_,_,_,_,o,_,_,e,ex,_⟩:=I.hok p _ hk
     exact⟨o,e,ex⟩
   obtain⟨o,e,ex⟩:=z;refine⟨⟨o,e,ex.1⟩,λa e2=>?_⟩
   cases e2;exact⟨o,e,ex.2.1⟩
  ·obtain ⟨o,_,_,_,e,ex,_⟩:=I.hok p _ hk
   refine⟨⟨o,e,ex.1⟩,λa e2=>?_⟩
   cases e2;exact⟨o,e,ex.2.1⟩
 | _=>exact False.elim ty
def CY (K:W.Frag) (T:String) (r:V->List V->Hp->VK->Prop) (to:TE):TE:=λσ H Q=>to σ H λx H1=>Dc K T x H1/\r x [] H1 Q
def yx (K:W.Frag) (T:String) (r:V->List V->Hp->VK->Prop) (to:TE) (t:TA):TE:=λσ H Q=>to σ H λx H1=>Dc K T x H1/\t σ H1 λxs H2=>r x xs H2 Q
variable {o:Expr}{es:List Expr}{to:TE}{t:TA}{name:Str}{Yw XS:Pos}{id:String}{r:V->List V->Hp->VK->Prop}
def Bt (pa:PlainAttrs T) (slot:Slot T name id) (hty:typeOf (.builtin id)=pure (.type "method_descriptor")) (hm:C7 X id r) (ho:PE X o to)
  (Xl:autoParam (attributeBase o name X.env (eval o X.env)=eval o X.env) aa._auto_1) (Xn:autoParam ((Yw.endLine==XS.line)=true) aa._auto_1):PE X (.Call (.Attribute o name Yw) [] [] XS) (CY X.K T r to):=by
 intro ZY s σ H Q I h;refine wpAny_Call_method0_late Xl Xn (Z2 (ho ZY s σ H _ I h) λv s1 z960=>?_)
 obtain⟨x,H1,I1,r1,ty,q1⟩:=z960;obtain⟨h1,h2⟩:=BN I1 r1 ty;exact⟨T,id,pa,slot,hty,h1,h2,Calls.callWith_builtin rfl (PySem.evalArgs_none (hm ZY s1 σ H1 x [] v [] Q I1 r1 .nil q1))⟩
def Jp (pa:PlainAttrs T) (slot:Slot T name id) (hty:typeOf (.builtin id)=pure (.type "method_descriptor")) (hm:C7 X id r) (ho:PE X o to) (ha:PA X (e::es) t)
  (Xl:autoParam (attributeBase o name X.env (eval o X.env)=eval o X.env) aa._auto_1)
  (hfew:autoParam (((backTo XS (starEach (e::es) X.env)).all (fun x=>!x.1)&&(backToKw XS (keywordEach [] X.env)).all (fun x=>x.1.isSome)
   && decide ((e::es).length+([]:List Keyword).length+(if ([]:List Keyword).isEmpty then 0 else 1)<30))=true) aa._auto_1)
  (Xn:autoParam ((Yw.endLine==XS.line)=true) aa._auto_1) (hs:autoParam (starEach (e::es) X.env=(false,eval e X.env)::starEach es X.env) aa._auto_1) (hplain:autoParam ((backTo XS (starEach es X.env)).any (·.1)=false) aa._auto_1) :
  PE X (.Call (.Attribute o name Yw) (e::es) [] XS) (yx X.K T r to t):=by
 intro ZY s σ H Q I h;refine wpAny_Call_method_late Xl hfew Xn rfl (Z2 (ho ZY s σ H _ I h) λv s1 z961=>?_)
 obtain⟨x,H1,I1,r1,ty,q1⟩:=z961;obtain⟨h1,h2⟩:=BN I1 r1 ty;refine⟨T,id,pa,slot,hty,h1,h2,?_⟩;have hA:=ha XS ZY s1 σ H1 _ I1 q1;rw[hs] at hA |-
 refine Calls.callWith_builtin (by show(false||(backTo XS (starEach es X.env)).any (·.1))=false;rw[hplain]<;>rfl) (Calls.evalArgs_plain ?_)
 exact Z2 hA λus s2 ⟨vs,H2,I2,r2,q2⟩=>hm ZY s2 σ H2 x vs v us Q I2 r1 r2 q2
end
def FW (X:Cx) (id:String) (r:V->List V->Hp->VK->Prop):Prop :=
 ∀(ZY:LO) (s:Shared) (σ:St) (H:Hp) (x:V) (xs:List V) (v:Value) (us:List Value) (Q:VK),Inv X ZY σ H s->RelV x v->Vals xs us->r x xs H Q ->
  wpAny (model X.prog X.w) X.A (call (.builtin id) (v::us)) (EP X ZY σ Q) X.xe s
theorem Vals.one:∀{x:V}{us:List Value},Vals [x] us->∃u,us=[u]/\RelV x u
 | _,_,.cons r .nil=>⟨_,rfl,r⟩
theorem Vals.zero:∀{us:List Value},Vals [] us->us=[]
 | _,.nil=>rfl
theorem Vals.dropLast(h:Vals xs us):Vals xs.dropLast us.dropLast:=by
 induction h with
 | nil=>exact .nil
 | cons r t ih =>
  cases t with
  | nil=>exact .nil
  | cons q t'=>exact .cons r ih
theorem vI(l:List α):l.eraseIdx (l.length - 1)=l.dropLast:=by
 induction l with
 | nil=>rfl
 | cons a r ih =>
  cases r with
  | nil=>rfl
  | cons b r =>
   have e:(a::b::r).length - 1=((b::r).length - 1)+1:=by
    have h1:(a::b::r).length=r.length+2:=rfl;have h2:(b::r).length=r.length+1:=rfl;lia
   rw[e,List.eraseIdx_cons_succ,ih]
   all_goals rfl
section
variable {l b:Addr}{zs:List V}
def Inv.lset{f:Array Value->Array Value} (I:Inv X ZY σ H s) (hH:H l=some (.lst xs))
  (e:s.heap.get? l=some { cls:=.type "list",data:=.seq ZO.toArray n }) (hf:f ZO.toArray=its'.toArray) (hv:Vals ys its') (hz:ys.length<=sizeLine) :
  Inv X ZY σ (Zd H l (.lst ys)) { s with heap:=s.heap.update l (Obj.mapSeq f),toks:=t' }:=by
 have q:=PySem.IsL.update e f;rw[hf] at q;refine I.write (x:=l) (e:=l) (by rw[hH];exact trivial) (.inl rfl) (λb' u hb hu=>(v9 s.heap (Obj.mapSeq f) (YN hb)).trans hu) ⟨_,q⟩ ?_
 exact⟨hz,its',_,hv,q⟩
def Inv.lnew(I:Inv X ZY σ H s) (hv:Vals ys ZO) (hz:ys.length<=sizeLine) :
  Inv X ZY σ (Zd H s.heap.objs.size (.lst ys)) { s with heap:=s.heap.push { cls:=.type "list",data:=.seq ZO.toArray },toks:=t' } :=
 I.laid (λ_ _ q=>z0 _ q) (w4 _) ⟨hz,ZO,0,hv,z7 _ rfl⟩
theorem Inv.fresh (I:Inv X ZY σ H s):H s.heap.objs.size=none:=I.hok.fresh (w4 _)
def Inv.lstM (I:Inv X ZY σ H s) (hH:H l=some (.lst xs)):xs.length<=sizeLine/\∃(ZO:List Value) (n:Nat),Vals xs ZO/\xs.length=ZO.length/\s.heap.get? l=some { cls:=.type "list",data:=.seq ZO.toArray n }:=by
 obtain⟨z,ZO,n,r,e⟩:=I.hok l _ hH;exact⟨z,ZO,n,r,r.length,e⟩
theorem Uh(h:n<=sizeLine):Builtin.List.listTooLong n=false:=by
 unfold Builtin.List.listTooLong;exact ZE (by lia)
end
def Qz:V->List V->Hp->VK->Prop:=λx vs H Q=>∃l xs y,x=.ref l/\vs=[y]/\H l=some (.lst xs)/\xs.length<sizeLine/\Q .non (Zd H l (.lst (xs++[y])))
theorem zg:FW X "list.append" Qz:=by
 intro ZY s σ H x vs v us Q I rx rv h;obtain⟨l,xs,y,rfl,rfl,hH,hz,q⟩:=h;cases rx;obtain⟨u,rfl,ru⟩:=rv.one;obtain⟨z,ZO,n,r,hl,e⟩:=I.lstM hH;refine call_meets F.slot_list_append ⟨_,e,rfl⟩ F.entry_list_append (F.args_list_append_2 _ _) (PySem.list_append l ZO.toArray n u (by rw[w5];lia)) ⟨e,?_⟩
 refine⟨.non,_,I.lset (its':=ZO++[u]) hH e (by simp) (r.append (.cons ru .nil)) ?_,rfl,q⟩
 rw[t5,List.length_singleton];lia
def CN:V->List V->Hp->VK->Prop:=λx vs H Q=>∃l xs y,x=.ref l/\vs=[]/\H l=some (.lst xs)/\xs[xs.length - 1]?=some y/\Q y (Zd H l (.lst xs.dropLast))
theorem Mx:FW X "list.pop" CN:=by
 intro ZY s σ H x vs v us Q I rx rv h;obtain⟨l,xs,y,rfl,rfl,hH,hy,q⟩:=h;cases rx;have hus:=rv.zero;subst hus;obtain⟨z,ZO,n,r,hl,e⟩:=I.lstM hH;obtain⟨u,hu,ru⟩:=r.get hy;have hy':ZO.toArray[ZO.toArray.size - 1]?=some u:=by
  show ZO.toArray[ZO.length - 1]?=some u;rw[<- NJ,<- hl];exact hu
 refine call_meets F.slot_list_pop ⟨_,e,rfl⟩ F.entry_list_pop (F.args_list_pop_1 _) (MeetsSeq.list_pop_last l ZO.toArray n u hy' (by rw[w5];lia)) ⟨e,?_⟩
 refine⟨y,_,I.lset (its':=ZO.dropLast) hH e ?_ r.dropLast ?_,ru,q⟩
 ·show ZO.toArray.eraseIdxIfInBounds (ZO.toArray.size - 1)=ZO.dropLast.toArray
  rw[w5,List.eraseIdxIfInBounds_toArray,vI]
 ·rw [List.length_dropLast]
  lia
def N9:V->List V->Hp->VK->Prop:=λx vs H Q=>∃l xs,x=.ref l/\vs=[]/\H l=some (.lst xs)/\Q .non (Zd H l (.lst []))
theorem xR:FW X "list.clear" N9:=by
 intro ZY s σ H x vs v us Q I rx rv h;obtain⟨l,xs,rfl,rfl,hH,q⟩:=h;cases rx;have hus:=rv.zero;subst hus;obtain⟨z,ZO,n,r,hl,e⟩:=I.lstM hH;refine call_meets F.slot_list_clear ⟨_,e,rfl⟩ F.entry_list_clear (F.args_list_clear_1 _) (AutoSeq1.list_clear_list_0 l ZO.toArray n (by rw[w5];lia)) ⟨e,?_⟩
 exact⟨.non,_,I.lset (its':=[]) (ys:=[]) hH e rfl .nil (Us _),rfl,q⟩
end L2
namespace Att
open PySem PySem.W PySem.Calls PyProof.Rows
variable {P:Params}{h:Heap}{n:Nat}
def sP:∀(ns:List Int) (vs:List Value),WellAll P h vs (ns.map WData.int)->IntsAre vs ns:=by
 intro ns;induction ns with
 | nil =>
  intro vs w;rw[List.map_nil] at w;cases w;exact .nil
 | cons n ns ih =>
  intro vs w;rw[w9] at w;cases w with
  | cons a b =>
   cases a;exact .cons _ _ (ih _ b)
theorem vm{l:OpenLaw} (hn:l.most=some n) {args:List WData}{vals:List Value}
  (hpre:l.row.toRowW.claim.pre args=true) (hwl:WellAll P h vals args) :
  ∃a vs ns,vals=[Value.ref a]/\args=[WData.list (ns.map WData.int)]/\h.get? a=some { cls:=.type "list",data:=.seq vs.toArray }/\IntsAre vs ns/\ns.length<=n:=by
 have hsh:WShape.hasAll [] args [.list .int]=true:=(pre_splitW hpre).1;have hc:l.pre.holds [] { args:=args }=true:=(pre_splitW hpre).2;obtain⟨d,r,rfl,h1,h2⟩:=hasAllW_cons hsh;obtain rfl:=hasAllW_nil h2;obtain⟨xs,rfl,h3⟩:=hasW_list h1;obtain⟨ns,rfl⟩:=items_int h3;have XJ:ns.length<=n:=by
  unfold OpenLaw.pre at hc;have h4:(WTm.not (.lt (.lit (.int (n:Int))) (.len (.arg 0)))).holds [] { args:=[.list (ns.map .int)] }=true:=by
   have h4:=(holds_andW hc).1;rw[hn] at h4;exact h4
  have h5:=condW_of h4 (w_not (w_lt w_lit (w_len_list (w_arg rfl))));rw[v0] at h5;refine Nat.le_of_not_lt λq=>?_
  have q':(n:Int)<((ns.length:Nat):Int):=by lia
  first
   | (rw[decide_eq_true q'] at h5;exact absurd h5 (by decide))
   | (simp at h5;lia)
 cases hwl with
 | cons w1 w2 =>
  cases w2;cases w1 with
  | list ho hall=>exact⟨_,_,ns,rfl,rfl,ho,sP ns _ hall,XJ⟩
def wb (l:OpenLaw) (args:List WData):l.row.toRowW.claim.post args (.bool true) args=true :=
 postW_of (r:=l.row.toRowW) (X:=(true==true))
  (show WShape.has [] (.bool true) .bool=true by first|rfl|decide|simp[WShape.has,WShape.arms,WShape.armsAll])
  (show(WTm.eq .res (.lit (.bool true))).value [] { args:=args,res:=some (.bool true),after:=args }=some (.bool (true==true)) from w_eq_bool (w_res rfl) w_lit) rfl
def attach_call{l:OpenLaw}{q:Program}{loose:List Str}{XP:(Str->Option Value)->Heap->Prop}{YP:World->Heap->Prop}{d:DefRec}
  (hn:l.most=some n) (hdf:d.params.defaults=[])
  (call:∀ (w:World) (s₀ s₁:Shared) (mg mb:MG) (fa:Addr) (o:Obj) (pm cd doc:Value) (a:Addr) (vs:List Value) (ns:List Int),
   Ground q loose [] XP w s₀ mg mb s₁.heap->YP w s₁.heap ->
   s₁.heap.get? fa=some o->o.data=.func (docDef d.name d.params d.body d.scope pm cd doc)->s₁.heap.CodeRec cd d.name->mg d.name=some (.ref fa) ->
   s₁.heap.get? a=some { cls:=.type "list",data:=.seq vs.toArray }->IntsAre vs ns->ns.length<=n->s₁.gens=#[] ->
   codeAny (model l.prog w) callerA (.call (.ref fa) ⟨[.ref a],[]⟩) (λr s'=>r=.ok (.ret (.bool true))/\OldK s₁.heap s'.heap/\s'.os=s₁.os/\AllBare s'.gens) s₁) :
  WalkO q loose XP YP l.row.toRowW d [] (λf vs=>PySem.call f vs):=by
 intro w s₀ s₁ mg mb G Y fa o pm cd doc dV kV ho hd Xa hD hmg hg args vals as hpre hlay hrd hwl hlo;obtain rfl:dV=.none:=Dflts.none hD hdf;obtain rfl:kV=.none:=Dflts.noKw hD;obtain⟨a,vs,ns,rfl,rfl,hobj,hints,XJ⟩:=vm hn hpre hwl;refine enter_call (Xo (call w s₀ s₁ mg mb fa o pm cd doc a vs ns G Y ho (fd_plain hd) Xa hmg hobj hints XJ hg) λr s' hq=>?_)
 obtain⟨rfl,h2,h3,h4⟩:=hq;exact⟨.inl ⟨.bool true,.bool true,[],rfl,λ_=>rfl,.bool true,wb l _,λ_=>⟨List.Pairwise.nil,λ_ hm=>(nomatch hm)⟩⟩,h2,h3,h4⟩
end Att
namespace L2
open PySem PySem.Spec PyProof.Rows
variable {P prog:Program}{w:World}{K:W.Frag}{mg:MG}{a q f l C it tp C0 I:Addr}{fd:FuncData}{x qual m name z:Str}{sp:Sp}{s₁ s:Shared}{vs xs YO:List V}{n j t' i k' ep slot:Nat}{loose N ps own ss:List Str}{X:Cx}{base h h':Heap}{st:Stmt}{oc u first:Value}{H H' F' F0:Hp}{scope sc:Scope}{env:Env}{ZN ys ix:List Nat}{c elt Yg tg e b value:Expr}{A:Around}{ifs es tgs:List Expr}{pos spos p Yw XS pos':Pos}{ZY:LO}{σ:St}{y v:V}{te tl:TE}{Q:VP}{t T:String}{κ α β:Type}{B:Hp×Hp}{sts body:List Stmt}{bb wd:Bool}{tk:Tok}{pl:Array Value}{ot:Obj}
theorem zv:∀{vs:List Value}{ns:List Int},IntsAre vs ns->Vals (ns.map V.int) vs
 | _,_,.nil=>.nil
 | _,_,.cons n t h=>.cons ⟨t,rfl⟩ (zv h)
def Lz (H:Hp):Prop:=∀b,H b=none\/∃o xs,H b=some (.frz o (.lst xs))
def xf{mb:MG}{CX:RD}{k:Nat}{fa:Addr}{vs:List Value}{ns:List Int}
  (KX:K.In s₁.heap) (hns:s₁.heap.Ns mainGlobals mg) (hb:s₁.heap.Ns builtinsNs mb) (hbb:∀x:Str,x≠"__name__"->mb x=bootBuiltins x) (hlim:s₁.heap.NoLimit) (hg:s₁.gens=#[])
  (ha:s₁.heap.get? a=some { cls:=.type "list",data:=.seq vs.toArray }) (hi:IntsAre vs ns) (hl:ns.length<=sizeLine) (hr:Room k callerA)
  (F:∀base:Heap,K.In base->base.Ns mainGlobals mg->FnOk P w K mg base CX k fa fd [x] sp) (hbind:∀(s:Shared) (u:Value),BindsTo s fd ⟨[u],[]⟩ [(x,u)])
  (hsp:∀H:Hp,Lz H->Wr K H a (ns.map V.int)->sp [.ref a] H (λv _=>v=.bl true) λ_ _ _=>False)
  (hCX:∀H e s',CX [] H s₁ (λ_ _ _=>False) e s'->False) :
  codeAny (model P w) callerA (.call (.ref fa) ⟨[.ref a],[]⟩) (λr s'=>r=.ok (.ret (.bool true))/\OldK s₁.heap s'.heap/\s'.os=s₁.os/\AllBare s'.gens) s₁:=by
 have rv:=zv hi;have lenV:=hi.length;have core:∀H:Hp,Lz H->Wr K H a (ns.map V.int)->HOk P w H s₁.heap->(∀b,H b≠none->b=a)->(H a≠none->K.lookup a=none) ->
   codeAny (model P w) callerA (.call (.ref fa) ⟨[.ref a],[]⟩) (λr s'=>r=.ok (.ret (.bool true))/\OldK s₁.heap s'.heap/\s'.os=s₁.os/\AllBare s'.gens) s₁:=by
  intro H hO hS hok hA hK;have base_of:∀{b:Addr}{o:Obj},s₁.heap.get? b=some o->H b=none->(UN s₁.heap H).get? b=some o:=λe n=>xm e n
  have noA:∀{b:Addr}{o:Obj}{es:Array DictEntry}{ep:Nat},s₁.heap.get? b=some o->o.data=.dict es ep->H b=none:=λ{b o es ep} e d=>by
   cases q:H b with
   | none=>rfl
   | some u =>
    have e':b=a:=hA b (by rw[q];simp)
    subst e';rw[ha] at e;cases e;have d':Data.seq vs.toArray _=Data.dict es ep:=d;cases d'
  have nsK:∀{b:Addr}{m:MG},s₁.heap.Ns b m->(UN s₁.heap H).Ns b m:=λ{b m} ⟨o,es,ep,e,d,r⟩=>⟨o,es,ep,base_of e (noA e d),d,r⟩
  have hKb:K.In (UN s₁.heap H):=λb o e=>base_of (KX b o e) (by
   cases q:H b with
   | none=>rfl
   | some u =>
    have e':b=a:=hA b (by rw[q];simp)
    subst e';rw[hK (by rw[q];simp)] at e;cases e)
  have hM:Mod K mg (UN s₁.heap H):=⟨hKb,nsK hns,⟨mb,nsK hb,hbb⟩,by obtain⟨mc,h1,h2⟩:=hlim;exact⟨mc,nsK h1,h2⟩⟩
  have e0:Env0 P w K mg (UN s₁.heap H) callerA [] s₁ H:=⟨rfl,hM,λb o e=>Q8 e,Nat.le_of_eq (vX _ _),trivial,λb hb=>absurd (show b∈([]:List Addr) from hb) (by simp),hok,.of_eq hg⟩
  refine Xo ((F _ hKb (nsK hns)).run callerA [] s₁ H ⟨[.ref a],[]⟩ [.ref a] [.ref a] _ _ hr e0 (hbind s₁ (.ref a)) (.cons rfl .nil) (hsp H hO hS)) λr s' h=>?_
  cases r with
  | error e=>exact(hCX H e s' h).elim
  | ok fl =>
   cases fl with
   | next=>exact False.elim h
   | brk=>exact False.elim h
   | cont=>exact False.elim h
   | ret u =>
    obtain⟨v,H',os,bare,un,hok',r',q⟩:=h;have q':v=.bl true:=q;subst q';obtain rfl:u=Value.bool true:=r';refine⟨rfl,OldK.of_keep λb o e=>?_,os,bare⟩
    cases q:H b with
    | none=>exact un.keep b o e q (by intro z;exact absurd (show b∈([]:List Addr) from z) (by simp)) (by simp)
    | some u =>
     rcases hO b with z|⟨ob,xs,z⟩
     ·rw[q] at z;cases z
     ·have z2:=un.frzs b ob _ z
      obtain⟨e1,_⟩:=hok b _ z;obtain⟨e2,_⟩:=hok' b _ z2;rw[e] at e1;cases e1;exact e2
 cases hk:K.lookup a with
 | some o =>
  have e:=KX a o hk;rw[ha] at e;cases e;refine core (λ_=>none) (λ_=>.inl rfl) (.inr ⟨_,vs.toArray,_,hk,rfl,rfl,rfl,by rw[w5,lenV];exact hl,by simpa using rv⟩) (λb u z=>by have z':(none:Option HO)=some u:=z;cases z') (λb z=>absurd rfl z) λz=>absurd rfl z
 | none =>
  refine core (λb=>if b=a then some (.frz { cls:=.type "list",data:=.seq vs.toArray } (.lst (ns.map V.int))) else none) (λb=>?_) (.inl (.inr ⟨{ cls:=.type "list",data:=.seq vs.toArray },if_pos rfl⟩)) (λb u z=>?_) (λb z=>?_) λ_=>hk
  ·by_cases hb:b=a
   ·exact .inr ⟨_,_,if_pos hb⟩
   ·exact .inl (if_neg hb)
  ·by_cases hb:b=a
   ·have z':=(if_pos hb).symm.trans z
    cases z';subst hb;exact⟨ha,by rw[v0];exact hl,vs,_,rv,ha⟩
   ·have z':=(if_neg hb).symm.trans z
    cases z'
  ·by_cases hb:b=a
   ·exact hb
   ·exact absurd (if_neg hb) z
def walk_of{l:W.OpenLaw}{k:Nat}{q:Program}{XP:(Str->Option Value)->Heap->Prop}{YP:World->Heap->Prop}{d:DefRec}{K:Params->W.Frag}{CX:World->RD}{sp:World->Sp}
  (hn:l.most=some n) (hn2:n<=sizeLine) (hdf:d.params.defaults=[]) (hr:Room k callerA)
  (hY:∀(w:World) (h:Heap),YP w h->(K w.params).In h)
  (F:∀ (w:World) (mg:MG) (fa:Addr) (h:Heap),(K w.params).In h->h.Ns mainGlobals mg->mg d.name=some (.ref fa) ->
   ∃fd:FuncData,(∀(s:Shared) (u:Value),BindsTo s fd ⟨[u],[]⟩ [(x,u)]) /\
    ∀base:Heap,(K w.params).In base->base.Ns mainGlobals mg->FnOk l.prog w (K w.params) mg base (CX w) k fa fd [x] (sp w))
  (hsp:∀(w:World) (H:Hp) (a:Addr) (ns:List Int),ns.length<=n->Lz H->Wr (K w.params) H a (ns.map V.int)->sp w [.ref a] H (λv _=>v=.bl true) λ_ _ _=>False)
  (hCX:∀(w:World) (H:Hp) (s:Shared) (e:Value) (s':Shared),CX w [] H s (λ_ _ _=>False) e s'->False) :
  W.WalkO q loose XP YP l.row.toRowW d [] (λf vs=>PySem.call f vs):=by
 refine Att.attach_call hn hdf λw s₀ s₁ mg mb fa o pm cd doc a vs ns G Y ho hd Xa hmg hobj hints XJ hg=>?_
 have KX:=hY w _ Y;obtain⟨fd,hb,hF⟩:=F w mg fa _ KX G.T.g hmg;exact xf KX G.T.g G.T.b G.T.builtins G.T.nolimit hg hobj hints (v7 XJ hn2) hr hF hb (λH hO hS=>hsp w H a ns XJ hO hS) λH e s'=>hCX w H s₁ e s'
noncomputable def Ye (s:Stmt):Arguments:=match s with
 | .FunctionDef _ a _ _ _ _ _ _ _ _=>a
 | _=>{ posonlyargs:=[],args:=[],vararg:=none,kwonlyargs:=[],kw_defaults:=[],kwarg:=none,defaults:=[] }
noncomputable def Z3 (s:Stmt):List Stmt:=match s with
 | .FunctionDef _ _ b _ _ _ _ _ _ _=>b
 | _=>[]
noncomputable def ZX (s:Stmt):Scope:=match s with
 | .FunctionDef _ _ _ _ _ _ sc _ _ _=>sc
 | _=>{ kind:=.function,names:=[],isGenerator:=false,isCoroutine:=false }
abbrev Z0:RD:=λ_ _ _ _ _ _=>False
abbrev E0:XK:=λ_ _ _=>False
def V7:VV Z0 X E0:=λ_ _ _ _ _ _ _ h=>h.elim
structure Fun (K:W.Frag) (x qual:Str) (st:Stmt) (f:Addr) (fd:FuncData):Prop where
 ex:∃(oc:Value) (od:Option Addr) (kV doc pm:Value) (an:Option Addr) (Zm ct:Value) (osl:Array (Option Value)),
  fd=W.fnOf x qual (Ye st) (Z3 st) (ZX st) .none kV doc pm an Zm ct/\K.lookup f=some ⟨oc,od,.func fd,osl⟩/\W.codeIn K Zm qual=true
 kp:W.keepIn K (.ref f)=true
def Fun.ok{k:Nat} (F:Fun K x qual st f fd) (S:FnScope N ps (ZX st)) (len:∀vs H Q E,sp vs H Q E->vs.length=ps.length)
  (Xm:∀ (Zm:Value) (A:Around) (outer:List Env) (s:Shared) (H:Hp) (vs:List V) (Q:VK) (E:XK),Room k (A.deeper (envOfC qual (ZX st) s.heap.objs.size f Zm))->sp vs H Q E ->
   ∃t,PSs (VC Z0 P w K mg base N qual (ZX st) f Zm A outer s H E).nox (Z3 st) t/\t { nx:=λ_ H'=>Q .non H',rt:=Q } (start N vs) H):FnOk P w K mg base Z0 (k+1) f fd ps sp:=by
 obtain⟨oc,od,kV,doc,pm,an,Zm,ct,osl,rfl,lk,Xa⟩:=F.ex;refine O6 lk Xa S len λA outer s H vs Q E hr hsp=>?_
 obtain⟨t,h,q⟩:=Xm Zm A outer s H vs Q E hr hsp;exact⟨t,h.nox,q⟩
def Fun.binds(F:Fun K x qual st f fd)
  (h:∀(kV doc pm:Value) (an:Option Addr) (Zm ct:Value) (us:List Value),us.length=ps.length->bindArgs (W.fnOf x qual (Ye st) (Z3 st) (ZX st) .none kV doc pm an Zm ct) ⟨us,[]⟩=pure (ps.zip us)):Binds K fd ps []:=by
 obtain⟨oc,od,kV,doc,pm,an,Zm,ct,osl,rfl,lk,Xa⟩:=F.ex;exact .all (h kV doc pm an Zm ct)
def FK{od an:Option Addr}{osl:Array (Option Value)}{kV doc pm Zm ct:Value} (l:K.lookup f=some ⟨oc,od,.func (W.fnOf x qual (Ye st) (Z3 st) (ZX st) .none kV doc pm an Zm ct),osl⟩)
  (c:W.codeIn K Zm qual=true) (k:W.keepIn K (.ref f)=true):Fun K x qual st f (W.fnOf x qual (Ye st) (Z3 st) (ZX st) .none kV doc pm an Zm ct):=⟨⟨oc,od,kV,doc,pm,an,Zm,ct,osl,rfl,l,c⟩,k⟩
def Same (H H':Hp):Prop:=∀b o,H b=some o->H' b=some o
def Same.refl (H:Hp):Same H H:=λ_ _ h=>h
def Same.trans{H1 H2:Hp} (a:Same H H1) (b:Same H1 H2):Same H H2:=λc o h=>b c o (a c o h)
def Same.free(e:Same H H')  (h:H' l=Option.none):H l=Option.none:=by
 cases q:H l with
 | none=>rfl
 | some o =>
  rw[e l o q] at h;cases h
def Same.seq(e:Same H H') (h:Wr K H a xs):Wr K H' a xs:=by
 rcases h with(h|⟨o,h⟩)|h
 ·exact .inl (.inl (e _ _ h))
 ·exact .inl (.inr ⟨o,e _ _ h⟩)
 ·exact .inr h
section
variable {h1 h2:Heap}{o:HO}{fs ex:List Addr}
def HOk.track (x:HOk P w H h) (hn:H a=none) (new:ObjOk P w (Zd H a o) h a o):HOk P w (Zd H a o) h:=λb u e=>by
 by_cases hb:b=a
 ·subst hb;rw[WN] at e;cases e;exact new
 ·rw [Xd hb] at e
  exact(x b u e).stay (λ_ _ _ q=>q) (λc q=>by rw[Xd (U1 q hn)];exact q) (λc xs q=>by rw[Xd (U1 q hn)];exact q)
def Un.track (u:Un fs ex H H' h h1) (hn:H' a=none) (ha:h.get? a=none):Un fs ex H (Zd H' a o) h h1 where
 keep:=u.keep
 slot:=u.slot
 free:=λb ob q n hx=>by
  rw[Xd (by rintro rfl;rw[ha] at q;cases q)]
  exact u.free b ob q n hx
 there:=u.there
 tups:=λb xs q=>by have:=u.tups b xs q;rw[Xd (U1 this hn)];exact this
 frzs:=λb ob xs q=>by have:=u.frzs b ob xs q;rw[Xd (U1 this hn)];exact this
 tbls:=λb ps q=>by
  obtain⟨m,this⟩:=u.tbls b ps q;exact⟨m,by rw[Xd (U1 this hn)];exact this⟩
end
theorem El (env:Env) (f:Str×NameKind->List (Str×Addr)->Sem (ForInStep (List (Str×Addr))))
  (h1:∀n cs a,env.cells.lookup n=some a->f (n,.free) cs=pure (.yield ((n,a)::cs))) (h2:∀n k cs,k≠.free->f (n,k) cs=pure (.yield cs)) :
  ∀(l:List (Str×NameKind)) (cs:List (Str×Addr)),(∀x∈l,x.2=.free->∃c,env.cells.lookup x.1=some c)->(∀x c,cs.lookup x=some c->env.cells.lookup x=some c) ->
   ∃cl,forIn l cs f=pure cl/\(∀x c,cl.lookup x=some c->env.cells.lookup x=some c)/\(∀x∈l,x.2=.free->∃c,cl.lookup x.1=some c)/\∀x c,cs.lookup x=some c->∃c',cl.lookup x=some c'
 | [],cs,_,hc=>⟨cs,rfl,hc,(λ_ z=>(nomatch z)),λx c q=>⟨c,q⟩⟩
 | (n,k)::l,cs,hl,hc=>by
  by_cases hk:k=.free
  ·subst hk
   obtain⟨a,ha⟩:=hl (n,.free) z6 rfl;have hc':∀x c,((n,a)::cs).lookup x=some c->env.cells.lookup x=some c:=λx c q=>by
    rw[u5] at q;cases e:x==n with
    | true=>rw[e] at q;cases q;rw[eq_of_beq e];exact ha
    | false=>rw[e] at q;exact hc x c q
   obtain⟨cl,e,p1,p2,p3⟩:=El env f h1 h2 l ((n,a)::cs) (λx hx=>hl x (z5 _ hx)) hc'
   refine⟨cl,?_,p1,λx hx hf=>?_,λx c q=>?_⟩
   ·rw[List.forIn_cons,h1 n cs a ha,pure_bind];exact e
   ·rcases y0.mp hx with rfl | hx
    ·exact p3 n a (by rw[u5];simp)
    ·exact p2 x hx hf
   ·by_cases e:(x==n)=true
    ·exact p3 x a (by rw[u5,e])
    ·have e':(x==n)=false:=by simpa using e
     exact p3 x c (by rw[u5,e'];exact q)
  ·obtain ⟨cl,e,p1,p2,p3⟩:=El env f h1 h2 l cs (fun x hx=>hl x (z5 _ hx)) hc
   refine⟨cl,?_,p1,λx hx hf=>?_,p3⟩
   ·rw[List.forIn_cons,h2 n k cs hk,pure_bind];exact e
   ·rcases y0.mp hx with rfl | hx
    ·exact absurd hf hk
    ·exact p2 x hx hf
def yC(h:∀x∈scope.names,x.2=.free->∃c,env.cells.lookup x.1=some c) :
  ∃cl,closureFor scope env=pure cl/\(∀x c,cl.lookup x=some c->env.cells.lookup x=some c)/\∀x∈scope.names,x.2=.free->∃c,cl.lookup x.1=some c:=by
 unfold closureFor;obtain⟨cl,e,p1,p2,_⟩:=El env (λ(x:Str×NameKind) (r:List (Str×Addr))=>match x with
   | (name,kind)=>if (kind==NameKind.free)=true then (do let a <- cellOf env name;pure (ForInStep.yield ((name,a)::r))) else pure (ForInStep.yield r))
  (fun n cs a ha=>by simp [cellOf,ha]) (fun n k cs hk=>by
   have:(k==NameKind.free)=false:=by simpa using hk
   simp[this]) scope.names [] h (λx c q=>by simp at q)
 refine⟨cl,?_,p1,p2⟩
 first
  | (rw[e];rfl)
  | (simp only[pure_bind,bind_pure] at e |-;exact e)
  | (show(forIn scope.names [] _ >>= _)=_;rw[e];rfl)
theorem Dh (env:Env):∀(names:List (Str×NameKind)) (x:Str),
  (names.map fun (n,k)=>if (k==NameKind.free&&env.scope.kind==.function&&env.kindOf n==some .cell) then (n,NameKind.cell) else (n,k)).lookup x =
   (names.lookup x).map λk=>if (k==NameKind.free&&env.scope.kind==.function&&env.kindOf x==some .cell) then NameKind.cell else k
 | [],x=>rfl
 | (n,k)::r,x=>by
  have ih:=Dh env r x;show List.lookup x ((if (k==NameKind.free&&env.scope.kind==.function&&env.kindOf n==some .cell)=true then (n,NameKind.cell) else (n,k))::_)=_
  cases hx:x==n with
  | true =>
   have e:=eq_of_beq hx;subst e;by_cases hc:(k==NameKind.free&&env.scope.kind==.function&&env.kindOf x==some .cell)=true
   ·rw[if_pos hc];simp only[u5,hx,Option.map_some,if_pos hc]
   ·rw[if_neg hc];simp only[u5,hx,Option.map_some,if_neg hc]
  | false =>
   by_cases hc:(k==NameKind.free&&env.scope.kind==.function&&env.kindOf n==some .cell)=true
   ·rw[if_pos hc];simp only[u5,hx];exact ih
   ·rw[if_neg hc];simp only[u5,hx];exact ih
abbrev Wd (X:Cx) (own:List Str) (ZN:List Nat) (scope:Scope) (cl:List (Str×Addr)) (C:Addr) (s:Shared) (H:Hp) (fp:List Addr):Cx where
 prog:=X.prog
 w:=X.w
 K:=X.K
 mg:=X.mg
 base:=X.base
 A:=X.A
 N:=own++ZN.map λj=>X.N.getD j Str.empty
 s₀:=s
 H₀:=H
 env:=compEnvC scope cl C X.env
 outer:=X.stack
 stack:=X.stack
 ex:=fp
 fn:=λ_=>false
 calm:=X.calm
 pn:=[]
 xe:=λ_ _=>False
noncomputable def stC (k:Nat) (ZN:List Nat) (σ:St):St:=List.replicate k none++ZN.map λj=>(σ[j]?).join
structure X6 (sc:Scope) (N:List Str) (own:List Str) (ZN:List Nat) (scope:Scope):Prop where
 kind:scope.kind=.function
 cell:∀y∈scope.names,y.2≠.cell
 loc:∀y∈scope.names,y.2=.local->scope.names.lookup y.1=some .local
 fre:∀y∈scope.names,y.2=.free->sc.names.lookup y.1=some .cell\/sc.names.lookup y.1=some .free
 out:∀j∈ZN,∃y,N[j]?=some y/\scope.names.lookup y=some .free
 ownN:∀y∈own,scope.names.lookup y=some .local
noncomputable def NZ (sc:Scope) (N:List Str) (own:List Str) (ZN:List Nat) (scope:Scope):Bool :=
 decide (scope.kind=.function)&&scope.names.all (λy=>y.2 != .cell)&&scope.names.all (λy=>y.2 != .local||scope.names.lookup y.1==some .local) &&
 scope.names.all (λy=>y.2 != .free||sc.names.lookup y.1==some .cell||sc.names.lookup y.1==some .free) &&
 ZN.all (λj=>match N[j]? with|some y=>scope.names.lookup y==some .free|none=>false)&&own.all (λy=>scope.names.lookup y==some .local)
def Uy(h:NZ sc N own ZN scope=true):X6 sc N own ZN scope:=by
 unfold NZ at h;simp only[t4,Ku,decide_eq_true_eq] at h;obtain⟨⟨⟨⟨⟨h1,h2⟩,h3⟩,h4⟩,h5⟩,h6⟩:=h;refine⟨h1,λy hy=>?_,λy hy hl=>?_,λy hy hl=>?_,λj hj=>?_,λy hy=>?_⟩
 ·simpa using h2 y hy
 ·have:=h3 y hy
  rw[hl] at this;simpa using this
 ·have:=h4 y hy
  rw[hl] at this;simpa using this
 ·have:=h5 j hj
  cases e:N[j]? with
  | none=>rw[e] at this;cases this
  | some y=>rw[e] at this;exact⟨y,rfl,by simpa using this⟩
 ·simpa using h6 y hy
def KB (X:Cx) (ifs:List Expr) (t:TT):Prop :=
 ∀(ZY:LO) (s:Shared) (σ:St) (H:Hp) (Q:Bool->Hp->Prop),Inv X ZY σ H s->t σ H Q ->
  wpAny (model X.prog X.w) X.A (forIn ifs true λc r=>if r=true then do let ok <- isTrue c X.env (eval c X.env);pure (ForInStep.yield ok) else pure (ForInStep.yield r)) (TP X ZY σ Q) X.xe s
def Da:TT:=λ_ H Q=>Q true H
def Qp:KB X [] Da:=λZY s σ H Q I h=>wpAny_pure ⟨H,I,h⟩
def Qq{t:TT} (hc:PT X c t):KB X [c] t:=λZY s σ H Q I h=>by
 rw[List.forIn_cons];simp only[if_true,List.forIn_nil];refine ZZ (ZZ (Z2 (hc ZY s σ H Q I h) λb s1 q=>wpAny_pure (wpAny_pure q)))
def RE (k:Nat) (ZN:List Nat) (σ:St) (g:TG) (ti:TT) (te:TE) (J:It) (H1:Hp) (Q:VK):Prop:=∃W:Nat->Nat->List V->Hp->Prop,(∃m,W 0 m [] H1)/\∀i m ys H,W i m ys H->ys.length<=sizeLine /\
 ((J.stop i H/\∀ p,H p=none->Q (.ref p) (Zd H p (.lst ys))) \/
  (J.go i H/\∃N:List V->Hp->Prop,(∀ys' H',N ys' H'->∃m',m'<m/\W (i+1) m' ys' H')/\∀x H',J.yld i H x H'->g x (stC k ZN σ) H' λσ2 H2=>σ2.drop k=(ZN.map λj=>(σ[j]?).join)/\ti σ2 H2 λb H3=>if b=true then te σ2 H3 λy H4=>N (ys++[y]) H4 else N ys H3))
def Sv (k:Nat) (ZN:List Nat) (wi:TI) (g:TG) (ti:TT) (te:TE):TE:=λσ H Q=>wi σ H λJ H1=>RE k ZN σ g ti te J H1 Q
theorem sO{R:Result->Shared->Prop}{target:Expr}{it Yt:Value} (I:Nat->Shared->Prop)
  (turn:∀ n s,I n s->wpAny (model prog w) A (pyNext it) (fun r s₁=>match r with
   | none=>R (.ok .next) s₁
   | some v=>wpAny (model prog w) A (letOwnedTupleGo target it v) (λ_ s₁'=>wpAny (model prog w) A (assign target env v) (λ_ s₂ =>
     wpAny (model prog w) A (forIn ifs true λc r=>if r=true then do let ok <- isTrue c env (eval c env);pure (ForInStep.yield ok) else pure (ForInStep.yield r)) (λok s₃ =>
      if ok=true then wpAny (model prog w) A (eval elt env) (λx s₄ =>
       wpAny (model prog w) A (call (.builtin "list.append") [Yt,x]) (λ_ s₅=>∃m,m<n/\I m s₅) (λ_ _=>False) s₄) (λ_ _=>False) s₃
      else ∃m,m<n/\I m s₃) (λ_ _=>False) s₂) (λ_ _=>False) s₁') (λ_ _=>False) s₁) (λ_ _=>False) s)
  (n:Nat) (h:I n s) :
  codeAny (model prog w) A (.compLoop (.ListComp elt [⟨target,Yg,ifs,0⟩] scope pos) 0 it Yt env) R s:=by
 refine codeAny_loop rfl I (λn s hI=>?_) n h
 show wpAny _ A ((compTurn (.ListComp elt [⟨target,Yg,ifs,0⟩] scope pos) 0 it Yt env).onRaise (λx=>do noteFrame x env;theTreesLotGoes x)) _ _ s
 refine wpAny_noted ?_;rw[compTurn_list];refine ZZ (wpAny_standAt (ZZ (XZ (turn n s hI) (λr s₁ h₁=>?_) λ_ _ h'=>h'.elim)))
 cases r with
 | none=>exact wpAny_pure h₁
 | some v =>
  refine ZZ (XZ h₁ (λ_ s₁' h₁'=>?_) λ_ _ h'=>h'.elim)
  refine ZZ (XZ h₁' (λ_ s₂ h₂=>ZZ (XZ h₂ (λok s₃ h₃=>?_) λ_ _ h'=>h'.elim)) λ_ _ h'=>h'.elim)
  cases ok with
  | false=>exact wpAny_pure ⟨rfl,h₃⟩
  | true =>
   exact ZZ (ZZ (XZ h₃ (λx s₄ h₄=>ZZ (XZ h₄ (λ_ s₅ h₅=>wpAny_pure (wpAny_pure ⟨rfl,h₅⟩)) λ_ _ h'=>h'.elim)) λ_ _ h'=>h'.elim))
section
variable {cl:List (Str×Addr)}{fp:List Addr}
def tK{sc:Scope} (ok:X6 X.env.scope X.N own ZN scope)  (h:(compEnvC scope cl C X.env).kindOf x=some .cell\/(compEnvC scope cl C X.env).kindOf x=some .free):(x,NameKind.free)∈scope.names:=by
 have e:(compEnvC scope cl C X.env).kindOf x=(scope.names.lookup x).map λk=>if (k==NameKind.free&&X.env.scope.kind==.function&&X.env.kindOf x==some .cell) then NameKind.cell else k:=Dh X.env scope.names x
 rw[e] at h;cases q:scope.names.lookup x with
 | none=>rw[q] at h;simp at h
 | some k =>
  have hm:=Z7 q;by_cases hk:k=.free
  ·subst hk;exact hm
  ·rw [q] at h
   have hkf:(k==NameKind.free)=false:=by simpa using hk
   simp only[Option.map_some,hkf,Bool.false_and,u4,if_false,Option.some.injEq] at h;rcases h with h|h
   ·exact absurd h (ok.cell _ hm)
   ·exact absurd h hk
def LK (I:Inv X ZY σ H s) (ok:X6 X.env.scope X.N own ZN scope) (hcl:∀x c,cl.lookup x=some c->X.env.cells.lookup x=some c) (hcf:∀x∈scope.names,x.2=.free->∃c,cl.lookup x.1=some c)
  (hC:s.heap.objs.size<=C) (hfp:∀b∈fp,VT X ZY H b) (hfs:∀b∈fp,b<s.heap.objs.size):(Wd X own ZN scope cl C s H fp).Ok where
 mod:=I.ok.mod
 kind:=ok.kind
 glob:=I.ok.glob
 blt:=I.ok.blt
 above:=hC
 inj:=λx y c h1 h2=>I.ok.inj x y c (hcl x c h1) (hcl y c h2)
 has:=λx h=>by
  have hm:=tK (sc:=scope) ok h;exact hcf _ hm rfl
 cab:=λx c h _=>by cases h
 hd:=I.ok.hd
 frames:=I.ok.frames
 stk:=.inl rfl
 exf:=λb hb=>⟨v6 (v5 (hfs b hb) hC),λx c e=>(hfp b hb).2.2.2.2.1 x c (hcl x c e)⟩
 bs:=I.bs
 bsz:=v7 I.ok.bsz I.sz
 noex:=λb o e hb=>by
  rcases(hfp b hb).2.2.2.1 with z|z
  ·exact I.ok.noex b o e z
  ·have h1:b<X.base.objs.size:=z8 e
   exact absurd (v5 h1 (v7 I.ok.bsz z)) (t6 _)
 exfs:=λb hb z=>by
  rcases y0.mp (I.stkSub b z) with q|q
  ·exact(hfp b hb).2.1 q
  ·exact(hfp b hb).2.2.1 q
 funs:=I.stack
 frf:=I.stkFree
def Pr{y:Str} (h:N[j]?=some y):N.getD j Str.empty=y:=by
 rw[List.getD_eq_getElem?_getD,h];rfl
theorem xk(I:Inv X ZY σ H s) (ok:X6 X.env.scope X.N own ZN scope) (hcl:∀x c,cl.lookup x=some c->X.env.cells.lookup x=some c) (hcf:∀x∈scope.names,x.2=.free->∃c,cl.lookup x.1=some c)
  (hC:s.heap.objs.size<=C) (hfp:∀b∈fp,VT X ZY H b) (hfs:∀b∈fp,b<s.heap.objs.size) {m:MG} (hk:∀b o,s.heap.get? b=some o->h'.get? b=some o) (hn:h'.Ns C m) :
  Inv (Wd X own ZN scope cl C s H fp) [] (stC own.length ZN σ) H { s with heap:=h',toks:=t' }:=by
 refine⟨LK I ok hcl hcf hC hfp hfs,rfl,I.bare,Un.kept hk,⟨m,hn,λi x v e1 e2 e3=>?_⟩,λx c e=>?_,I.hok.fresh hC,λx c e=>I.freeC x c (hcl x c e),λp hp=>(nomatch hp),I.hok.kept hk,?_⟩
 ·have hi:own.length<=i:=by
   by_cases hi:own.length<=i
   ·exact hi
   ·exfalso
    unfold stC at e2;rw[Lp (by simp;lia),t8] at e2
    split at e2<;>cases e2
  unfold stC at e2;rw[NI (by simp;lia),Lq,w6] at e2
  have e1':(own++ZN.map λj=>X.N.getD j Str.empty)[i]?=some x:=e1
  rw[NI hi,w6] at e1';cases q:ZN[i - own.length]? with
  | none=>rw[q] at e2;cases e2
  | some j =>
   rw[q] at e1' e2;obtain⟨y,hy,hyf⟩:=ok.out j (ZP q);have ex:y=x:=by
    rw[<- Pr hy];exact ZS e1'
   subst ex;have ev:σ[j]?=some (some v):=by
    have e2':(σ[j]?).join=some v:=ZS e2;cases z:σ[j]? with
    | none=>rw[z] at e2';cases e2'
    | some o=>rw[z] at e2';cases o with
     | none=>cases e2'
     | some v'=>cases e2';rfl
   obtain⟨m0,hn0,hl⟩:=I.loc;have hkd:=ok.fre (y,.free) (Z7 hyf) rfl;obtain⟨u,r,l⟩:=hl j y v hy ev (hkd.elim (λz=>.inr (.inl z)) λz=>.inr (.inr z))
   refine⟨u,r,?_⟩;rcases l with⟨k,_⟩|⟨k,c,ec,hcell⟩
   ·exfalso
    have k':X.env.scope.names.lookup y=some .local:=k;rcases hkd with z|z
    ·have z':X.env.scope.names.lookup y=some .cell:=z
     rw[k'] at z';cases z'
    ·have z':X.env.scope.names.lookup y=some .free:=z
     rw[k'] at z';cases z'
   ·refine .inr ⟨?_,?_⟩
    ·have e:(compEnvC scope cl C X.env).kindOf y=(scope.names.lookup y).map fun k=>if (k==NameKind.free&&X.env.scope.kind==.function&&X.env.kindOf y==some .cell) then NameKind.cell else k:=Dh X.env scope.names y
     show(compEnvC scope cl C X.env).kindOf y=_\/(compEnvC scope cl C X.env).kindOf y=_;rw[e,hyf,Option.map_some];split
     ·exact .inl rfl
     ·exact .inr rfl
    ·obtain ⟨c',ec'⟩:=hcf (y,.free) (Z7 hyf) rfl
     refine⟨c',ec',?_⟩
     have:c'=c:=ZS ((hcl y c' ec').symm.trans ec)
     subst this;obtain⟨o,ho,hd⟩:=hcell;exact⟨o,hk _ o ho,hd⟩
 ·obtain ⟨v,o,ho,hd⟩:=I.cell x c (hcl x c e)
  exact⟨v,o,hk c o ho,hd⟩
 ·unfold stC
  show _=(own++ZN.map λj=>X.N.getD j Str.empty).length
  simp
end
section
variable {wi:TI}{g:TG}{ti:TT}
theorem zF{cl:List (Str×Addr)}{fp:List Addr}{tn:Nat->Heap->Prop}{J:It}{E:VP}{Q:VK} (hc:X.calm=true) (ok:X6 X.env.scope X.N own ZN scope)
  (hcl:∀x c,cl.lookup x=some c->X.env.cells.lookup x=some c) (hcf:∀x∈scope.names,x.2=.free->∃c,cl.lookup x.1=some c)
  (hg:∀{C fp},PG (Wd X own ZN scope cl C s H fp) tg g) (hf:∀{C fp},KB (Wd X own ZN scope cl C s H fp) ifs ti) (he:∀{C fp},PE (Wd X own ZN scope cl C s H fp) elt te)
  (I:Inv X ZY σ H s) (T:UH X.prog X.w X.K tg J fp it tn) (st:tn 0 s.heap) (f2:∀b∈fp,VT X ZY H b)
  (hW:RE own.length ZN σ g ti te J H Q)
  {RR:Value->Addr->Result->Shared->Prop}
  (hRR:∀D C Hf s' m,s'.heap.Ns C m->Inv X ZY σ Hf s'->Hf C=none->C≠X.env.locals->X.s₀.heap.objs.size<=C->(∀x c,X.env.cells.lookup x=some c->c≠C)->(∀p∈X.pn++ZY,p.1≠C)->Q (.ref D) Hf->RR (.ref D) C (.ok .next) s') :
  wpAny (model X.prog X.w) X.A (newList []) (λYt s₃=>wpAny (model X.prog X.w) X.A (newFunctionEnv scope X.env.globals cl [] X.env.qual none .none (some X.env)) (λcenv s₄ =>
   codeAny (model X.prog X.w) X.A (.compStart (.ListComp elt [⟨tg,Yg,ifs,0⟩] scope pos) 0 (.ref it) Yt { cenv with scope:=relabel scope X.env }) (RR Yt cenv.locals) s₄) E s₃) E s:=by
 obtain⟨W,⟨m0,w0⟩,turn⟩:=hW;have hfs:∀b∈fp,@LT.lt Nat _ b s.heap.objs.size:=λb hb=>let ⟨o,e,_⟩:=T.obj _ _ st b hb;z8 e
 refine ZR (wpAny_newFunctionEnv ok.cell (by intro y hy;simp at hy) (λh₁ hns₁ hsb₁=>?_) ok.kind)
 dsimp only at hns₁ hsb₁ |-
 generalize hH2:s.heap.push { cls:=.type "list",dict:=none,data:=.seq ([]:List Value).toArray }=H2 at hns₁ hsb₁ |-
 have hC:H2.objs.size=s.heap.objs.size+1:=by rw[<- hH2,ZJ]
 generalize eC:H2.objs.size=C at hns₁ hsb₁ hC |-
 have hDC:s.heap.objs.size≠C:=by lia
 have below:∀b,b<s.heap.objs.size->b≠C/\b≠s.heap.objs.size:=λb hb=>⟨by lia,by lia⟩
 have old:∀b o,s.heap.get? b=some o->h₁.get? b=some o:=λb o e=>hsb₁.extBut b o (below b (z8 e)).1 (z0 _ (hH2 ▸ z0 _ e))
 have X4:h₁.PlainList s.heap.objs.size #[]:=⟨_,hsb₁.extBut _ _ hDC (z0 _ (hH2 ▸ z7 _ rfl))⟩;have hst₁:tn 0 h₁:=T.keep _ _ _ st λb _ o e=>old b o e
 have fresh:∀a,s.heap.objs.size<=a->s.heap.get? a=none:=λa ha=>by
  cases e:s.heap.get? a with
  | none=>rfl
  | some o'=>exact absurd (z8 e) (Nat.not_lt.mpr ha)
 obtain⟨D,hD⟩:∃D:Nat,s.heap.objs.size=D:=⟨_,rfl⟩;rw[hD] at hDC X4 |-
 have hDs:s.heap.get? D=none:=fresh D (Nat.le_of_eq hD);have hCs:s.heap.get? C=none:=fresh C (by lia)
 have hDfp:D∉fp:=λz=>by have:=hfs D z;lia
 have hI0:∀t',Inv (Wd X own ZN scope cl C s H fp) [] (stC own.length ZN σ) H { s with heap:=h₁,toks:=t' }:=λt'=>xk I ok hcl hcf (by lia) f2 hfs old hns₁
 have cellNe:∀x c,cl.lookup x=some c->@LT.lt Nat _ c s.heap.objs.size:=λx c e=>let ⟨v,q⟩:=I.cell x c (hcl x c e);q.lt
 have stkLt:∀b∈T1 X.stack,@LT.lt Nat _ b s.heap.objs.size:=λb hb=>by
  obtain⟨_,o,ho,_⟩:=I.stack.mem hb;exact z8 ho
 have stat:∀{H':Hp}{oD:Obj},(∀b∈fp,H' b=none)->∀b∈fp,VT (Wd X own ZN scope cl C s H fp) [(D,oD)] H' b:=λ{H' oD} hn b hb=>by
  refine⟨hn b hb,(below b (hfs b hb)).1,λz=>?_,.inl hb,λx c e z=>(f2 b hb).2.2.2.2.1 x c (hcl x c e) z,λp hp z=>?_⟩
  ·rcases y0.mp (I.stkSub b z) with q | q
   ·exact(f2 b hb).2.1 q
   ·exact(f2 b hb).2.2.1 q
  ·have:p=(D,oD):=by simpa using hp
   subst this;exact hDfp (show D∈fp from(show D=b from z) ▸ hb)
 have loop:∀s₃:Shared,s₃={ s with heap:=h₁,toks:=s.toks+([]:List (Str×Value)).length } ->
   codeAny (model X.prog X.w) X.A (.compLoop (.ListComp elt [⟨tg,Yg,ifs,0⟩] scope pos) 0 (.ref it) (.ref D) (compEnvC scope cl C X.env)) (RR (.ref D) C) s₃:=by
  rintro s₃ rfl;refine sO (λn s'=>∃i ys us nn H',Inv (Wd X own ZN scope cl C s H fp) [(D,{ cls:=.type "list",data:=.seq us.toArray nn })] (stC own.length ZN σ) H' s'/\tn i s'.heap/\(∀b∈fp,H' b=none)/\Vals ys us/\W i n ys H') ?_ m0 ?_
  ·rintro n s3 ⟨i,ys,us,nn,H3,I3,st3,fr3,hv,w3⟩
   have hD3:=I3.pin (D,_) (u7 _ z6);obtain⟨hz,ht⟩:=turn i n ys H3 w3;rcases ht with⟨stop,qn⟩|⟨go,NN,hNN,step⟩
   ·refine Z2 (T.done (Wd X own ZN scope cl C s H fp) rfl rfl rfl hc i _ s3 _ H3 _ I3 (stat fr3) st3 stop) fun r s4 z964=>?_
    obtain⟨hr,I4⟩:=z964;subst hr;have hD4:=I4.pin (D,_) (u7 _ z6);obtain⟨m4,hn4,_⟩:=I4.loc;have hC4:H3 C=none:=I4.free;have hok:HOk X.prog X.w (Zd H3 D (.lst ys)) s4.heap:=I4.hok.track hD4.2.1 ⟨hz,us,nn,hv,hD4.1⟩;have hun:Un (T1 X.stack) fp H (Zd H3 D (.lst ys)) s.heap s4.heap:=Un.track I4.base hD4.2.1 hDs;have I5:Inv X ZY σ (Zd H3 D (.lst ys)) s4:=I.call' I4.os hun hok I4.bare λb hb=>⟨(f2 b hb).2.2.2.1,(f2 b hb).2.1,(f2 b hb).2.2.2.2.1,(f2 b hb).2.2.2.2.2⟩
    refine hRR D C _ s4 m4 hn4 I5 (by rw[Xd hDC.symm];exact hC4) ?_ ?_ ?_ ?_ (qn D hD4.2.1)
    ·intro z
     have h1:@LT.lt Nat _ X.env.locals s.heap.objs.size:=I.lt;have z':@Eq Nat C X.env.locals:=z;lia
    ·have h1:=I.sz
     exact v7 h1 (by lia)
    ·intro x c e z
     obtain⟨v,q⟩:=I.cell x c e;have h1:@LT.lt Nat _ c s.heap.objs.size:=q.lt;have z':@Eq Nat c C:=z;lia
    ·intro p hp z
     have h1:@LT.lt Nat _ p.1 s.heap.objs.size:=z8 (I.pin p hp).1;have z':@Eq Nat p.1 C:=z;lia
   ·refine Z2 (T.item (Wd X own ZN scope cl C s H fp) rfl rfl rfl hc i _ s3 _ H3 (fun _ _=>False) I3 (stat fr3) st3 go) fun r s4 z965=>?_
    obtain⟨u,hr,h4⟩:=z965;subst hr;refine Z2 h4 λ_ s5 z966=>?_
    obtain⟨x,H5,I5,r5,y5,st5,fr5⟩:=z966;have I5':=I5.pinned (stat fr5) (T.obj _ _ st5);refine Z2 (hg _ s5 _ H5 x u _ I5' r5 (step x H5 y5)) λ_ s6 z967=>?_
    obtain⟨σ6,H6,I6,d6,q6⟩:=z967;have weak:∀{H7:Hp}{s7:Shared}{us':List Value}{nn':Nat},Inv (Wd X own ZN scope cl C s H fp) [(D,{ cls:=.type "list",data:=.seq us'.toArray nn' })] σ6 H7 s7->Inv (Wd X own ZN scope cl C s H fp) [(D,{ cls:=.type "list",data:=.seq us'.toArray nn' })] (stC own.length ZN σ) H7 s7:=λ{H7 s7 us' nn'} I7=>by
     refine I7.weak (by have e:=I7.len;have e2:(Wd X own ZN scope cl C s H fp).N.length=own.length+ZN.length:=by simp
                        rw[e,e2];unfold stC;simp) λj v e=>?_
     have hj:own.length<=j:=by
      by_cases hj:own.length<=j
      ·exact hj
      ·exfalso
       unfold stC at e;rw[Lp (by simp;lia),t8] at e
       split at e<;>cases e
     unfold stC at e;rw[NI (by simp;lia),Lq,<- d6,List.getElem?_drop] at e
     rw[show own.length+(j - own.length)=j by lia] at e
     exact e
    refine Z2 (hf _ s6 σ6 H6 _ I6 q6) λb s7 z968=>?_
    obtain⟨H7,I7,q7⟩:=z968;have keepT:∀{H8:Hp}{s8:Shared},Inv (Wd X own ZN scope cl C s H fp) ([(D,{ cls:=.type "list",data:=.seq us.toArray nn })]++Vw fp s5.heap) σ6 H8 s8->(∀b∈fp,∀o,s5.heap.get? b=some o->s8.heap.get? b=some o)/\∀b∈fp,H8 b=none:=λ{H8 s8} I8=>by
     refine⟨λb hb o e=>(I8.pin (b,o) (u7 _ (u7 _ (GH hb e)))).1,λb hb=>?_⟩
     obtain⟨o,e,d⟩:=T.obj _ _ st5 b hb;exact(I8.pin (b,o) (u7 _ (u7 _ (GH hb e)))).2.1
    cases b with
    | false =>
     rw[if_neg (by simp)] at q7
     rw[if_neg (by simp)]
     obtain⟨m',hm,w7⟩:=hNN _ _ q7;exact⟨m',hm,i+1,ys,us,nn,H7,weak I7.unpinned,T.keep _ _ _ st5 (keepT I7).1,(keepT I7).2,hv,w7⟩
    | true =>
     rw[if_pos rfl] at q7;rw[if_pos rfl];refine Z2 (he _ s7 σ6 H7 _ I7 q7) λu8 s8 z969=>?_
     obtain⟨y8,H8,I8,r8,q8⟩:=z969;obtain⟨m',hm,w8⟩:=hNN _ _ q8;have hD8:=I8.pin (D,_) (u7 _ (HW _ z6));refine wpAny_list_append_plain (hsz:=by rw[w5,<- hv.length];exact hz) (x:=u8) ⟨nn,hD8.1⟩ λh9 hl9 hs9=>?_
     obtain⟨n9,e9⟩:=hl9;have k9:∀b o,b≠D->s8.heap.get? b=some o->h9.get? b=some o:=λb o hb e=>(hs9.2 b hb).trans e
     have I8':Inv (Wd X own ZN scope cl C s H fp) [] σ6 H8 s8:=I8.pins_of λp hp=>(nomatch hp)
     have I9:Inv (Wd X own ZN scope cl C s H fp) [] σ6 H8 { s8 with heap:=h9,toks:=s8.toks }:=I8'.turned k9 hD8.2.1 hDC (.inr (by show s.heap.objs.size<=D;lia)) (λx c e z=>by have h1:=cellNe x c e;have z':@Eq Nat c D:=z;lia) (λp hp=>(nomatch hp))
     have e9':h9.get? D=some { cls:=.type "list",data:=.seq (us++[u8]).toArray n9 }:=by
      rw[e9];simp
     have I9':Inv (Wd X own ZN scope cl C s H fp) [(D,{ cls:=.type "list",data:=.seq (us++[u8]).toArray n9 })] σ6 H8 { s8 with heap:=h9,toks:=s8.toks }:=I9.pins_of λp hp=>by
      have:p=(D,{ cls:=.type "list",data:=.seq (us++[u8]).toArray n9 }):=by simpa using hp
      subst this;refine⟨e9',hD8.2.1,hDC,λz=>?_,λv z=>by cases z⟩
      have:=stkLt D z
      lia
     refine⟨m',hm,i+1,ys++[y8],us++[u8],n9,H8,weak I9',?_,(keepT I8).2,hv.append (.cons r8 .nil),w8⟩;exact T.keep _ _ _ st5 λb hb o e=>k9 b o (λz=>hDfp (show D∈fp from(show b=D from z) ▸ hb)) ((keepT I8).1 b hb o e)
  ·obtain ⟨n0,e0⟩:=X4
   refine⟨0,[],[],n0,H,(hI0 _).pins_of λp hp=>?_,hst₁,λb hb=>(f2 b hb).1,.nil,w0⟩
   have:p=(D,{ cls:=.type "list",data:=.seq ([]:List Value).toArray n0 }):=by simpa using hp
   subst this;refine⟨e0,I.hok.fresh (by lia),hDC,λz=>?_,λv z=>by cases z⟩
   have:=stkLt D z
   lia
 exact codeAny_compStart_list (loop _ rfl) (T.self _ 0 _ _ _ hst₁ (loop _ rfl))
def zm(I:Inv X ZY σ H s) (ok:X6 X.env.scope X.N own ZN scope):∀x∈scope.names,x.2=.free->∃c,X.env.cells.lookup x.1=some c:=λx hx hf=>I.ok.has x.1 (ok.fre x hx hf)
def Qj (own:List Str) (ZN:List Nat) (hc:X.calm=true) (ok:X6 X.env.scope X.N own ZN scope) (hi:PI X tg Yg wi)
  (hg:∀{cl C s H fp},PG (Wd X own ZN scope cl C s H fp) tg g) (hf:∀{cl C s H fp},KB (Wd X own ZN scope cl C s H fp) ifs ti) (he:∀{cl C s H fp},PE (Wd X own ZN scope cl C s H fp) elt te)
  (hs:autoParam (∀x,foldedSetIterable Yg X.env x=pure x) af._auto_1):PE X (.ListComp elt [⟨tg,Yg,ifs,0⟩] scope pos) (Sv own.length ZN wi g ti te):=by
 intro ZY s σ H Q I h;obtain⟨cl,ecl,hcl,hcf⟩:=yC (zm I ok);rw[eval_ListComp];refine wpAny_comprehension_free (use:=none) rfl hs ecl ok.kind ok.loc (Z2 (hi ZY s σ H _ I h) λxv s₁ h₁=>Z2 h₁ λitv s₂ h₂=>?_)
 obtain⟨it,fp,tn,J,H2,e,I2,T,st2,f2,hW⟩:=h₂;subst e;refine zF (Q:=Q) (RR:=λYt C=>compPost (model X.prog X.w) X.A X.xe none (EP X ZY σ Q) Yt C) hc ok hcl hcf hg hf he I2 T st2 f2 hW ?_
 intro D C Hf s' m hn I' hC hL hs0 hce hpi q;refine⟨m,hn,λh' hs'=>?_⟩
 exact⟨.ref D,Hf,I'.turned (t':=s'.toks) (λb o hb e=>(hs'.2 b hb).trans e) hC hL (.inr hs0) hce hpi,rfl,q⟩
set_option tactic.hygienic true in
def uV{y:Str}{py:Pos} (own:List Str) (ZN:List Nat) (hc:X.calm=true) (ok:X6 X.env.scope X.N own ZN scope) (hN:X.N.Nodup) (hy:X.N[i]?=some y) (hx:X.env.scope.names.lookup y=some .local) (hi:PI X tg Yg wi)
  (hg:∀{cl C s H fp},PG (Wd X own ZN scope cl C s H fp) tg g) (hf:∀{cl C s H fp},KB (Wd X own ZN scope cl C s H fp) ifs ti) (he:∀{cl C s H fp},PE (Wd X own ZN scope cl C s H fp) elt te)
  (hsw:autoParam (swapsWith (.ListComp elt [⟨tg,Yg,ifs,0⟩] scope pos) (some (.Name y py)) spos.line X.env=pure true) aa._auto_1)
  (hs:autoParam (∀x,foldedSetIterable Yg X.env x=pure x) af._auto_1):PS X (.Assign [.Name y py] (.ListComp elt [⟨tg,Yg,ifs,0⟩] scope pos) spos) (QV (Sv own.length ZN wi g ti te) (V3 i)):=by
 intro ZY s σ H D I h;obtain⟨cl,ecl,hcl,hcf⟩:=yC (zm I ok);rw[exec_Assign_Name_used _ _ _ _ hsw];refine ZZ (wpAny_standAt (ZZ ?_));show wpAny _ X.A (do let _ <- comprehension (.ListComp elt [⟨tg,Yg,ifs,0⟩] scope pos) scope X.env _ (newList []) false (eval Yg X.env) (some (assign (.Name y py) X.env))) _ _ s
 refine ZZ (XZ (wpAny_comprehension_free (use:=some (assign (.Name y py) X.env)) (Q:=λ_ s'=>SP X ZY D .next s') rfl hs ecl ok.kind ok.loc
  (Z2 (hi ZY s σ H _ I h) λxv s₁ h₁=>Z2 h₁ λitv s₂ h₂=>?_)) (λ_ s' hq=>wpAny_pure (wpAny_pure hq)) λ_ _ e=>e)
 obtain⟨it,fp,tn,J,H2,e,I2,T,st2,f2,hW⟩:=h₂;subst e;refine zF (Q:=λx H1=>V3 i x σ H1 D.nx) (RR:=λYt C=>compPost (model X.prog X.w) X.A X.xe (some (assign (.Name y py) X.env)) (λ_ s'=>SP X ZY D .next s') Yt C) hc ok hcl hcf hg hf he I2 T st2 f2 hW ?_
 intro D' C Hf s' m hn I' hC hL hs0 hce hpi q;show wpAny _ X.A (assign (.Name y py) X.env (.ref D')) _ _ _;refine wpAny_assign_Name (zA I' hN hy (.inl hx) (v:=.ref D') rfl (λs2 I2' z970=>?_) (.inr hx))
 obtain⟨a,hsb,ha⟩:=z970;have haC:C≠a:=by
  rcases ha with rfl|ha
  ·exact hL
  ·exact λz=>hce _ _ ha z.symm
 refine⟨m,hn.sameBut hsb haC,λh' hs'=>?_⟩
 exact⟨_,Hf,I2'.turned (t':=s2.toks) (λb o hb e=>(hs'.2 b hb).trans e) hC hL (.inr hs0) hce hpi,q⟩
end
def CQ:V->Option Int->Option Int->Hp->VK->Prop:=λx lo hi H Q=>∃z,x=.str z/\z.length<=sizeLine/\Q (.str (Txt.slice z lo hi)) H
def Ng:G0 X CQ:=by
 intro ZY s σ H x v vl vu lo hi sl Q I rx hs pl pu h;obtain⟨z,rfl,hz,q⟩:=h;obtain⟨t,rfl⟩:=rx;refine⟨"str",_,PySem.F.slot_str_getitem.lookup,typeIs_str _ _ _,?_⟩;have Xe:∀lo' hi',lo'=lo->hi'=hi->∀t' k,EP X ZY σ Q (.str (Txt.slice z lo' hi') t') { s with toks:=k }:=λlo' hi' e1 e2 t' k=>by
  subst e1 e2;exact⟨.str _,H,I.tok k,⟨t',rfl⟩,q⟩
 obtain⟨o,ho,hc,hd⟩:=hs;cases pl with
 | none =>
  cases pu with
  | none=>exact WZ (l:=none) (u:=none) (st:=none) ⟨o,ho,hc,hd⟩ rfl (post_val_or_str ⟨v7 (Txt.slice_le z _ _) hz,λt' k=>Xe _ _ rfl rfl t' k⟩)
  | int j uj=>exact WZ (l:=none) (u:=some (j,uj)) (st:=none) ⟨o,ho,hc,hd⟩ rfl (post_val_or_str ⟨v7 (Txt.slice_le z _ _) hz,λt' k=>Xe _ _ rfl rfl t' k⟩)
 | int i ui =>
  cases pu with
  | none=>exact WZ (l:=some (i,ui)) (u:=none) (st:=none) ⟨o,ho,hc,hd⟩ rfl (post_val_or_str ⟨v7 (Txt.slice_le z _ _) hz,λt' k=>Xe _ _ rfl rfl t' k⟩)
  | int j uj=>exact WZ (l:=some (i,ui)) (u:=some (j,uj)) (st:=none) ⟨o,ho,hc,hd⟩ rfl (post_val_or_str ⟨v7 (Txt.slice_le z _ _) hz,λt' k=>Xe _ _ rfl rfl t' k⟩)
def Kz (z:Str):It:=⟨λi _=>i<z.cps.size,λi H x H'=>H'=H/\∃c,z.cps[i]?=some c/\x=.str ⟨#[c]⟩,λi _=>z.cps.size<=i⟩
theorem uI(z:Str) (t:Tok) (it:Addr):UH P w K tg (Kz z) [it] it (λi h=>h.IsStrIter it "str_ascii_iterator" z t i) where
 mem:=by simp
 obj:=λi h st b hb=>by
  have e:b=it:=by simpa using hb
  subst e;obtain⟨o,e,c,d⟩:=st;exact⟨o,e,λv z=>by rw[d] at z;cases z⟩
 keep:=λi h h' st k=>let ⟨o,e,r⟩:=st;⟨o,k it (by simp) o e,r⟩
 item:=by
  intro X hP hw hK hc i ZY s σ H E I hf st hg;subst hP hw hK;obtain⟨f0,f1,f2,f3,f4,f5⟩:=hf it (by simp)
  have hg':i<z.cps.size:=hg;refine wpAny_pyNext_ascii_item st (c:=z.cps[i]) (by simp[hg']) λh' st' sb=>?_
  have I1:Inv X ZY σ H { s with heap:=h',toks:=s.toks+1 }:=I.turned (λb o hb e=>(sb.2 b hb).trans e) f0 f1 f3 f4 f5
  obtain⟨o,e,c,d⟩:=id st';exact⟨_,rfl,Kq (s:={ s with heap:=h',toks:=s.toks+1 }) e c d (by decide) ⟨.str ⟨#[z.cps[i]]⟩,H,I1,⟨_,rfl⟩,⟨rfl,z.cps[i],by simp[hg'],rfl⟩,st',λb hb=>(hf b hb).1⟩⟩
 done:=by
  intro X hP hw hK hc i ZY s σ H E I hf st hg;subst hP hw hK;obtain⟨f0,f1,f2,f3,f4,f5⟩:=hf it (by simp)
  have hg':z.cps.size<=i:=hg;exact wpAny_pyNext_ascii_end (I.ok.hd hc) st (by simp;lia) λh' eb=>⟨rfl,I.turned (t':=s.toks) (λb o hb e=>eb b o hb e) f0 f1 f3 f4 f5⟩
 self:=λ_ _ _ _ _ st h=>wpAny_pyIter_striter_ascii st h
theorem vd(z:Str) (t:Tok) (it:Addr):UH P w K tg (Kz z) [it] it (λi h=>h.IsStrIter it "str_iterator" z t i) where
 mem:=by simp
 obj:=λi h st b hb=>by
  have e:b=it:=by simpa using hb
  subst e;obtain⟨o,e,c,d⟩:=st;exact⟨o,e,λv z=>by rw[d] at z;cases z⟩
 keep:=λi h h' st k=>let ⟨o,e,r⟩:=st;⟨o,k it (by simp) o e,r⟩
 item:=by
  intro X hP hw hK hc i ZY s σ H E I hf st hg;subst hP hw hK;obtain⟨f0,f1,f2,f3,f4,f5⟩:=hf it (by simp)
  have hg':i<z.cps.size:=hg;refine wpAny_pyNext_wide_item st (c:=z.cps[i]) (by simp[hg']) λh' st' sb=>?_
  have I1:Inv X ZY σ H { s with heap:=h',toks:=s.toks+1 }:=I.turned (λb o hb e=>(sb.2 b hb).trans e) f0 f1 f3 f4 f5
  obtain⟨o,e,c,d⟩:=id st';exact⟨_,rfl,Kq (s:={ s with heap:=h',toks:=s.toks+1 }) e c d (by decide) ⟨.str ⟨#[z.cps[i]]⟩,H,I1,⟨_,rfl⟩,⟨rfl,z.cps[i],by simp[hg'],rfl⟩,st',λb hb=>(hf b hb).1⟩⟩
 done:=by
  intro X hP hw hK hc i ZY s σ H E I hf st hg;subst hP hw hK;obtain⟨f0,f1,f2,f3,f4,f5⟩:=hf it (by simp)
  have hg':z.cps.size<=i:=hg;exact wpAny_pyNext_wide_end (I.ok.hd hc) st (by simp;lia) λh' eb=>⟨rfl,I.turned (t':=s.toks) (λb o hb e=>eb b o hb e) f0 f1 f3 f4 f5⟩
 self:=λ_ _ _ _ _ st h=>wpAny_pyIter_striter_wide st h
def Cy (tl:TE):TI:=λσ H R=>tl σ H λx H1=>∃z,x=.str z/\R (Kz z) H1
def MT{l:Expr} (hl:PE X l tl):PI X tg l (Cy tl):=by
 intro ZY s σ H R I h;refine Z2 (hl ZY s σ H _ I h) λv s1 z971=>?_
 obtain⟨x,H1,I1,r1,q1⟩:=z971;obtain⟨z,rfl,q⟩:=q1;obtain⟨t,rfl⟩:=r1;cases ha:z.cps.all (·<128) with
 | true =>
  refine wpAny_pyIter_ascii ha ?_;have hn:H1 s1.heap.objs.size=none:=I1.hok.fresh (w4 _);exact⟨s1.heap.objs.size,[s1.heap.objs.size],_,Kz z,H1,rfl,I1.kept (t':=s1.toks) (λb o e=>z0 _ e),uI z t _,⟨_,z7 _ rfl,rfl,rfl⟩,λb hb=>by
   have e:b=s1.heap.objs.size:=by simpa using hb
   subst e;exact I1.fpOk (w4 _) hn,q⟩
 | false =>
  refine wpAny_pyIter_wide ha ?_;have hn:H1 s1.heap.objs.size=none:=I1.hok.fresh (w4 _);exact⟨s1.heap.objs.size,[s1.heap.objs.size],_,Kz z,H1,rfl,I1.kept (t':=s1.toks) (λb o e=>z0 _ e),vd z t _,⟨_,z7 _ rfl,rfl,rfl⟩,λb hb=>by
   have e:b=s1.heap.objs.size:=by simpa using hb
   subst e;exact I1.fpOk (w4 _) hn,q⟩
theorem ya (hc:X.calm=true):YG X (.builtin "all") (λxs H Q=>∃(p:Addr) (bs:List Bool),xs=[.ref p]/\Wr X.K H p (bs.map V.bl)/\Q (.bl (bs.all id)) H):=by
 intro ZY s σ H xs us Q I r h;obtain⟨p,bs,rfl,hq,q⟩:=h;obtain⟨u,rfl,ru⟩:=vals1 r;cases ru;obtain⟨ZO,rv,hl,hz⟩:=I.list hq;have XJ:=rv.length;rw[v0] at XJ;have WA:p<s.heap.objs.size:=let ⟨o,ho,_⟩:=hl.isList;z8 ho
 refine call_all_walk (XE hl.isList ?_);refine⟨s.heap.objs.size,_,_,_,_,_,λi=>bs.getD i false,rfl,Walks.list (show X.A.in1.handled=none from I.ok.hd hc) s.heap.objs.size p (v6 WA) ZO.toArray,⟨⟨_,z7 _ rfl,rfl,rfl⟩,hl.isList.at λo e=>z0 _ e⟩,?_,?_⟩
 ·intro i v s' Q' E' hv hQ
  have hv':ZO[i]?=some v:=by simpa using hv
  have hi:i<bs.length:=by
   have:=(x0.mp hv').1
   lia
  have hx:(bs.map V.bl)[i]?=some (V.bl bs[i]):=by rw[w6,y9 hi];rfl
  obtain⟨u,hu,ru⟩:=rv.get hx;rw[hv'] at hu;cases hu;cases ru;have e:bs.getD i false=bs[i]:=by rw[List.getD_eq_getElem?_getD,y9 hi];rfl
  have hQ':Q' (bs.getD i false) s':=hQ;rw[e] at hQ';exact Ze hQ'
 ·intro h' tk hk
  have hw:∀b o,s.heap.get? b=some o->h'.get? b=some o:=λb o e=>hk b o (by
   intro z
   have:b=s.heap.objs.size:=by simpa using z
   subst this;exact absurd (z8 e) (t6 _)) (z0 _ e)
  have e:(List.range ZO.toArray.size).all (λi=>bs.getD i false)=bs.all id:=by
   rw[w5,<- XJ];clear XJ hq rv q hz;induction bs with
   | nil=>rfl
   | cons b bs ih =>
    rw[u6,List.range_succ_eq_map,t9,List.all_map,t9];simp only[List.getD_cons_zero,id];congr 1
  rw[e];exact⟨.bl _,H,I.kept hw,rfl,q⟩
def VL (i j:Int):Prop:=0<j/\j<2^64
theorem xO:Y0 X (binaryOp .FloorDiv) (rI VL λi j=>.int (i / j)):=Gc λi j _ _ _ _ _ hc q=>by
 have h1:(0:Int)<j:=hc.1;have h2:j<2^64:=hc.2;refine floordiv_int (by lia) (by rw[Int.fdiv_eq_ediv_of_nonneg i (by lia)];exact q) (.inl (PyProof.noPylong_of_log2 ?_))
 have:j.natAbs.log2<64:=(Nat.log2_lt (by lia)).mpr (by lia)
 lia
noncomputable def Zk:Expr->Bool
 | .Starred _ _=>false
 | _=>true
def Vi(h:Zk e=true):starEach (e::es) env=(false,eval e env)::starEach es env:=by
 cases e<;>first|rfl|exact absurd h OS
theorem SO:∀{es:List Expr},es.all Zk=true->(backTo pos (starEach es env)).any (·.1)=false
 | [],_=>rfl
 | e::es,h=>by
  rw[t9,t4] at h;rw[Vi h.1];show(false||(backTo pos (starEach es env)).any (·.1))=false
  rw[SO h.2];rfl
theorem AF:∀{es:List Expr},es.all Zk=true->(backTo pos (starEach es env)).all (λx=>!x.1)=true
 | [],_=>rfl
 | e::es,h=>by
  rw[t9,t4] at h;rw[Vi h.1];show(true&&(backTo pos (starEach es env)).all (λx=>!x.1))=true
  rw[AF h.2];rfl
def Wh(h:(e::es).all Zk=true):Zk e=true/\es.all Zk=true:=by
 rw[t9,t4] at h;exact h
section
variable {o:Expr}{to:TE}{t:TA}{id:String}{r:List V->Hp->VK->Prop}{r3:V->List V->Hp->VK->Prop}
def Ta (ha:PE X e te) (hr:PA X es t) (hs:autoParam (Zk e=true) aa._auto_1):PA X (e::es) (Ox te t):=Qe ha hr (Vi hs)
def CG (hc:YG X (.builtin id) r) (hg:Gl X x) (hm:X.mg x=none) (hv:bootBuiltins x=some (.builtin id)) (ha:PA X (e::es) t) (hn:autoParam (x≠"__name__") ac._auto_1) (WJ:autoParam ((x==("__debug__":Str))=false) ac._auto_1)
  (hs:autoParam ((e::es).all Zk=true) aa._auto_1):PE X (.Call (.Name x p) (e::es) [] pos) (Gg r t):=xN hc hg hm hv ha hn WJ (Vi (Wh hs).1) (SO (Wh hs).2)
def CH (hc:YG X (.type T) r) (hg:Gl X x) (hm:X.mg x=none) (hv:bootBuiltins x=some (.type T)) (ha:PA X (e::es) t) (hn:autoParam (x≠"__name__") ac._auto_1) (WJ:autoParam ((x==("__debug__":Str))=false) ac._auto_1)
  (hs:autoParam ((e::es).all Zk=true) aa._auto_1):PE X (.Call (.Name x p) (e::es) [] pos) (Gg r t):=wf hc hg hm hv ha hn WJ (Vi (Wh hs).1) (SO (Wh hs).2)
def CF (pa:PlainAttrs T) (slot:Slot T name id) (hty:typeOf (.builtin id)=pure (.type "method_descriptor")) (hm:C7 X id r3) (ho:PE X o to) (ha:PA X (e::es) t)
  (hs:autoParam ((e::es).all Zk=true) aa._auto_1) (hl:autoParam (decide ((e::es).length<30)=true) aa._auto_1)
  (Xl:autoParam (attributeBase o name X.env (eval o X.env)=eval o X.env) aa._auto_1) (Xn:autoParam ((Yw.endLine==XS.line)=true) aa._auto_1) :
  PE X (.Call (.Attribute o name Yw) (e::es) [] XS) (yx X.K T r3 to t):=by
 refine Jp pa slot hty hm ho ha Xl ?_ Xn (Vi (Wh hs).1) (SO (Wh hs).2);rw[AF hs];have h2:(e::es).length+([]:List Keyword).length+(if ([]:List Keyword).isEmpty then 0 else 1)<30:=by
  have:=YS hl
  simpa using this
 rw[decide_eq_true h2];rfl
end
def Callee (P:Program) (w:World) (K:W.Frag) (mg:MG) (base:Heap) (k:Nat) (x:Str) (ps:List Str) (sp:Sp):Prop :=
 ∃f fd,FnOk P w K mg base Z0 k f fd ps sp/\Binds K fd ps []/\W.keepIn K (.ref f)=true/\mg x=some (.ref f)
def yg (mg:MG) (x:Str) (v:V):Prop:=∃u,mg x=some u/\RelV v u
section
variable {k:Nat}{t:TA}
def HM (h:Callee P w K mg base k x ps sp) (hr:Room k' X.A) (hk:k<=k') (ha:PA X (e::es) t) (hg:autoParam (Gl X x) aa._auto_1) (eP:autoParam (X.prog=P) aa._auto_1) (ew:autoParam (X.w=w) aa._auto_1) (eK:autoParam (X.K=K) aa._auto_1) (em:autoParam (X.mg=mg) aa._auto_1) (eb:autoParam (X.base=base) aa._auto_1)
  (WJ:autoParam ((x==("__debug__":Str))=false) ac._auto_1) (hs:autoParam ((e::es).all Zk=true) aa._auto_1) :
  PE X (.Call (.Name x p) (e::es) [] pos) (Ow sp [] E0 t):=by
 subst eP ew eK em eb;obtain⟨f,fd,F,hb,hkp,hm⟩:=h;exact Qh F (hr.mono hk) hg hm hkp hb .nil V7 ha WJ (Vi (Wh hs).1) (SO (Wh hs).2)
def MK (h:yg mg x v) (hg:autoParam (Gl X x) aa._auto_1) (em:autoParam (X.mg=mg) aa._auto_1) (hd:autoParam ((x==("__debug__":Str))=false) ac._auto_1):PE X (.Name x pos) (tC v):=by
 subst em;obtain⟨u,hm,r⟩:=h;exact B8 hg hm r hd
end
section
variable {l:Expr}
def Ff(hi:N.findIdx? (λy=>y==x)=some i):N[i]?=some x:=by
 obtain⟨h1,h2,_⟩:=List.findIdx?_eq_some_iff_getElem.mp hi;rw[y9 h1];exact congrArg some (eq_of_beq h2)
def Js(hN:X.N.Nodup) (hi:autoParam (X.N.findIdx? (λy=>y==x)=some i) aa._auto_1) (hx:autoParam (Loc X.env.scope x) ah._auto_1) (hf:autoParam (X.fn x=true\/X.env.scope.names.lookup x=some .local) ai._auto_1) :
  PG X (.Name x pos) (V3 i):=Qm hN (Ff hi) hx hf
def N1(hN:X.N.Nodup) (he:PE X e te) (hi:autoParam (X.N.findIdx? (λy=>y==x)=some i) aa._auto_1) (hx:autoParam (Loc X.env.scope x) ah._auto_1) (hs:autoParam (swapsWith e (some (.Name x pos')) pos.line X.env=pure false) aa._auto_1)
  (hf:autoParam (X.fn x=true\/X.env.scope.names.lookup x=some .local) ai._auto_1):PS X (.Assign [.Name x pos'] e pos) (QV te (V3 i)):=N2 hN (Ff hi) hx he hs hf
end
mutual
inductive RdV (K:W.Frag) (H:Hp):V->PyData->Prop
 | non:RdV K H .non .none
 | bl (b:Bool):RdV K H (.bl b) (.bool b)
 | int (i:Int):RdV K H (.int i) (.int i)
 | str (z:Str):RdV K H (.str z) (.str z)
 | lst {a:Addr}{xs:List V}{ds:List PyData}:Wr K H a xs->RdVs K H xs ds->RdV K H (.ref a) (.list ds)
 | tup {a:Addr}{xs:List V}{ds:List PyData}:UF K H a xs->RdVs K H xs ds->RdV K H (.ref a) (.tuple ds)
inductive RdVs (K:W.Frag) (H:Hp):List V->List PyData->Prop
 | nil:RdVs K H [] []
 | cons {x:V}{d:PyData}{xs:List V}{ds:List PyData}:RdV K H x d->RdVs K H xs ds->RdVs K H (x::xs) (d::ds)
end
mutual
theorem RdV.reads (I:Inv X ZY σ H s):∀{x:V}{d:PyData}{u:Value},RdV X.K H x d->RelV x u->∃as,Reads s.heap u d as
 | _,_,_,.non,r=>by cases r;exact⟨_,.none⟩
 | _,_,_,.bl b,r=>by cases r;exact⟨_,.bool b⟩
 | _,_,_,.int i,r=>by obtain⟨t,rfl⟩:=r;exact⟨_,.int i t⟩
 | _,_,_,.str z,r=>by obtain⟨t,rfl⟩:=r;exact⟨_,.str z t⟩
 | _,_,_,.lst hq hs,r=>by
  cases r;obtain⟨ZO,rv,p,hz⟩:=I.list hq;obtain⟨as,h⟩:=RdVs.reads I hs rv;obtain⟨o,ho,hc,n,hd⟩:=p.isList;exact⟨_,.list ho hc hd (by simpa using h)⟩
 | _,_,_,.tup hq hs,r=>by
  cases r;obtain⟨ZO,rv,p,hz⟩:=I.tuple hq;obtain⟨as,h⟩:=RdVs.reads I hs rv;obtain⟨o,ho,hc,n,hd⟩:=p;exact⟨_,.tuple ho hc hd (by simpa using h)⟩
theorem RdVs.reads (I:Inv X ZY σ H s):∀{xs:List V}{ds:List PyData}{us:List Value},RdVs X.K H xs ds->Vals xs us->∃as,ReadsAll s.heap us ds as
 | _,_,_,.nil,r=>by cases r;exact⟨_,.nil⟩
 | _,_,_,.cons h hs,r=>by
  cases r with
  | cons r1 r2 =>
   obtain⟨as,h1⟩:=RdV.reads I h r1;obtain⟨bs,h2⟩:=RdVs.reads I hs r2;exact⟨_,.cons h1 h2⟩
end
def Same.seqT(e:Same H H') (h:UF K H a xs):UF K H' a xs:=by
 rcases h with(h|⟨o,h⟩)|h
 ·exact .inl (.inl (e _ _ h))
 ·exact .inl (.inr ⟨o,e _ _ h⟩)
 ·exact .inr h
mutual
theorem RdV.same {K:W.Frag}{H H':Hp} (e:Same H H'):∀{x:V}{d:PyData},RdV K H x d->RdV K H' x d
 | _,_,.non=>.non
 | _,_,.bl b=>.bl b
 | _,_,.int i=>.int i
 | _,_,.str z=>.str z
 | _,_,.lst hq hs=>.lst (e.seq hq) (RdVs.same e hs)
 | _,_,.tup hq hs=>.tup (e.seqT hq) (RdVs.same e hs)
theorem RdVs.same {K:W.Frag}{H H':Hp} (e:Same H H'):∀{xs:List V}{ds:List PyData},RdVs K H xs ds->RdVs K H' xs ds
 | _,_,.nil=>.nil
 | _,_,.cons h hs=>.cons (RdV.same e h) (RdVs.same e hs)
end
def Jw (K:W.Frag) (WL:Bool):R2:=λx y H Q=>∃d e,RdV K H x d/\RdV K H y e/\SeqAt.shaped d=true/\SeqAt.shaped e=true/\Q (.bl (if WL=true then !PyData.eqv d e else PyData.eqv d e)) H
def MB (hu:X.A.units+64<cLine):Y0 X (compareOp .Eq) (Jw X.K false):=by
 intro ZY s σ H x y v u Q I rx ry h;obtain⟨d,e,h1,h2,s1,s2,q⟩:=h;obtain⟨as,r1⟩:=h1.reads I rx;obtain⟨bs,r2⟩:=h2.reads I ry;exact eq_dataH r1 r2 s1 s2 hu ⟨.bl _,H,I,rfl,q⟩
def MF (hu:X.A.units+64<cLine):Y0 X (compareOp .NotEq) (Jw X.K true):=by
 intro ZY s σ H x y v u Q I rx ry h;obtain⟨d,e,h1,h2,s1,s2,q⟩:=h;obtain⟨as,r1⟩:=h1.reads I rx;obtain⟨bs,r2⟩:=h2.reads I ry;exact ne_dataH r1 r2 s1 s2 hu ⟨.bl _,H,I,rfl,q⟩
section
variable  [DecidableEq κ]
noncomputable def Wp (kvs:List (κ×V)) (k:κ):Option V:=(kvs.find? λkv=>decide (kv.1=k)).map (·.2)
noncomputable def W0 (kvs:List (κ×V)) (k:κ) (v:V):List (κ×V) :=
 if (kvs.any λkv=>decide (kv.1=k))=true then kvs.map (λkv=>if kv.1=k then (kv.1,v) else kv) else kvs++[(k,v)]
def Em {p:κ×V}{r:List (κ×V)}{k:κ} (e:p.1=k):Wp (p::r) k=some p.2:=by simp[Wp,Ri,e]
def En {p:κ×V}{r:List (κ×V)}{k:κ} (e:¬ p.1=k):Wp (p::r) k=Wp r k:=by simp[Wp,Ri,e]
theorem Af (k:κ):∀kvs:List (κ×V),(kvs.any λkv=>decide (kv.1=k))=(Wp kvs k).isSome
 | []=>rfl
 | p::r=>by
  rw[List.any_cons];by_cases e:p.1=k
  ·simp only[Em e,decide_eq_true e,Bool.true_or,Option.isSome_some]
  ·rw[En e,ZE e,Bool.false_or];exact Af k r
theorem zc (kvs:List (κ×V)) (k:κ) (v:V):(W0 kvs k v).length<=kvs.length+1:=by
 unfold W0;split
 ·rw[v0];lia
 ·rw[t5,u6,List.length_nil];lia
def RelO.isSome_eq {o:Option V}{u:Option Value} (r:RelO o u):o.isSome=u.isSome:=by
 cases o with
 | none=>cases u with
  | none=>rfl
  | some _=>exact(show False from r).elim
 | some _=>cases u with
  | none=>exact(show False from r).elim
  | some _=>rfl
def KV.val {kvs:List (κ×V)}{vs:List (κ×Value)} (r:KV kvs vs) (k:κ):RelO (Wp kvs k) (valueAt vs k):=by
 unfold KV at r;induction r with
 | nil=>exact True.intro
 | @cons p q ps qs h t ih =>
  obtain⟨h1,h2⟩:=h;by_cases e:p.1=k
  ·have e':q.1=k:=h1.symm.trans e
   have b:valueAt (q::qs) k=some q.2:=by simp[valueAt,Ri,e']
   rw[Em e,b];exact h2
  ·have e':¬ q.1=k:=fun z=>e (h1.trans z)
   have b:valueAt (q::qs) k=valueAt qs k:=by simp[valueAt,Ri,e']
   rw[En e,b];exact ih
theorem KV.any {kvs:List (κ×V)}{vs:List (κ×Value)} (r:KV kvs vs) (k:κ):(kvs.any λkv=>decide (kv.1=k))=vs.any λkv=>decide (kv.1=k):=by
 unfold KV at r;induction r with
 | nil=>rfl
 | cons h t ih=>rw[List.any_cons,List.any_cons,ih,h.1]
def KV.repl{kvs:List (κ×V)}{vs:List (κ×Value)} (r:KV kvs vs) (k:κ)  (ry:RelV y u) :
  KV (kvs.map λkv=>if kv.1=k then (kv.1,y) else kv) (vs.map λkv=>if kv.1=k then (kv.1,u) else kv):=by
 unfold KV at r |-
 induction r with
 | nil=>exact .nil
 | @cons p q ps qs h t ih =>
  rw[w9,w9];refine .cons ?_ ih;obtain⟨h1,h2⟩:=h;by_cases e:p.1=k
  ·rw[if_pos e,if_pos (h1.symm.trans e)];exact⟨h1,ry⟩
  ·rw[if_neg e,if_neg (λz=>e (h1.trans z))];exact⟨h1,h2⟩
def KV.put{kvs:List (κ×V)}{vs:List (κ×Value)} (r:KV kvs vs) (k:κ)  (ry:RelV y u):KV (W0 kvs k y) (stored vs k u):=by
 unfold W0 stored;rw[r.any k];by_cases e:(vs.any λkv=>decide (kv.1=k))=true
 ·rw[if_pos e,if_pos e];exact r.repl k ry
 ·rw[if_neg e,if_neg e];exact Paired.snoc r ⟨rfl,ry⟩
def KV.keys {kvs:List (κ×V)}{vs:List (κ×Value)} (r:KV kvs vs):kvs.map (·.1)=vs.map (·.1):=by
 unfold KV at r;induction r with
 | nil=>rfl
 | cons h t ih=>rw[w9,w9,ih,h.1]
theorem KV.length {kvs:List (κ×V)}{vs:List (κ×Value)} (r:KV kvs vs):kvs.length=vs.length:=Paired.length r
end
def S9{k:Ys} (r:RelV (kV k) u):(Z4 P w).is k u=true:=by
 cases k with
 | inl i=>obtain⟨t,e⟩:=(show ∃t,u=Value.int i t from r);subst e;exact E7 P w i t
 | inr x=>obtain⟨t,e⟩:=(show ∃t,u=Value.str x t from r);subst e;exact E6 P w x t
theorem zk:∀{ks:List Ys}{us:List Value},Vals (ks.map kV) us->ItemsAre (Z4 P w) ks us
 | [],_,r=>by rw[List.map_nil] at r;cases r;exact .nil
 | k::ks,_,r=>by
  rw[w9] at r;cases r with
  | cons h t=>exact .cons (S9 h) (zk t)
abbrev KT (H:Hp):List (List Ys×V)->List (List Ys×Addr×Value)->Prop:=Paired λp q=>p.1=q.1/\H q.2.1=some (.tup (p.1.map kV))/\RelV p.2 q.2.2
def KT.val{kvs:List (List Ys×V)}{xs:List (List Ys×Addr×Value)} (r:KT H kvs xs) (k:List Ys):RelO (Wp kvs k) ((atKey xs k).map (·.2)):=by
 induction r with
 | nil=>exact True.intro
 | @cons p q ps qs h t ih =>
  obtain⟨h1,_,h2⟩:=h;by_cases e:p.1=k
  ·have e':q.1=k:=h1.symm.trans e
   have b:atKey (q::qs) k=some q.2:=by simp[atKey,Ri,e']
   rw[Em e,b];exact h2
  ·have e':¬ q.1=k:=fun z=>e (h1.trans z)
   have b:atKey (q::qs) k=atKey qs k:=by simp[atKey,Ri,e']
   rw[En e,b];exact ih
def KT.repl{kvs:List (List Ys×V)}{xs:List (List Ys×Addr×Value)} (r:KT H kvs xs) (k:List Ys)  (ry:RelV y u) :
  KT H (kvs.map λkv=>if kv.1=k then (kv.1,y) else kv) (xs.map (putAt k u)):=by
 induction r with
 | nil=>exact .nil
 | @cons p q ps qs h t ih =>
  rw[w9,w9];refine .cons ?_ ih;obtain⟨h1,h2,h3⟩:=h;unfold putAt;by_cases e:p.1=k
  ·rw[if_pos e,if_pos (h1.symm.trans e)];exact⟨h1,h2,ry⟩
  ·rw[if_neg e,if_neg (λz=>e (h1.trans z))];exact⟨h1,h2,h3⟩
def KT.put{kvs:List (List Ys×V)}{xs:List (List Ys×Addr×Value)} (r:KT H kvs xs) (k:List Ys) {b:Addr} (hb:H b=some (.tup (k.map kV))) (ry:RelV y u) :
  KT H (W0 kvs k y) (storedH xs k b u):=by
 have e:(kvs.any λkv=>decide (kv.1=k))=(atKey xs k).isSome:=by
  rw[Af,(r.val k).isSome_eq,Option.isSome_map]
 unfold W0 storedH;rw[e];by_cases q:(atKey xs k).isSome=true
 ·rw[if_pos q,if_pos q];exact r.repl k ry
 ·rw[if_neg q,if_neg q];exact Paired.snoc r ⟨rfl,hb,ry⟩
def KT.keeps{kvs:List (List Ys×V)}{xs:List (List Ys×Addr×Value)} (r:KT H kvs xs) (ht:∀b ys,H b=some (.tup ys)->H' b=some (.tup ys)):KT H' kvs xs :=
 Paired.mapP r λ_ _ z=>⟨z.1,ht _ _ z.2.1,z.2.2⟩
def Os {u:HO} (ok:HOk P w H h) (e:Rd H a u):ObjOk P w H h a u:=e.ok ok
def O2 {kvs:List (Ys×V)} (ok:HOk P w H h) (e:Rd H a (.dK kvs)):kvs.length<=sizeLine/\(a==sysModules)=false/\∃vs,KV kvs vs/\h.DictOf (Z4 P w) a vs :=
 show ObjOk P w H h a (.dK kvs) from Os ok e
def IQ {kvs:List (Ys×V)} (ok:HOk P w H h) (e:H a=some (.dK kvs)):kvs.length<=sizeLine/\(a==sysModules)=false/\∃vs,KV kvs vs/\h.DictOf (Z4 P w) a vs:=O2 ok (.inl e)
def Fy {ks:List Ys} (ok:HOk P w H h) (e:H a=some (.tup (ks.map kV))):(tupleKind (Z4 P w)).is h ks a:=by
 obtain⟨_,ZO,r,o,h1,h2,n,h3⟩:=(show ObjOk P w H h a (.tup (ks.map kV)) from ok a _ e)
 exact⟨o,ZO.toArray,n,h1,h2,h3,by simpa using zk r⟩
def O3 {kvs:List (List Ys×V)} (ok:HOk P w H h) (e:Rd H a (.dT kvs)):kvs.length<=sizeLine/\(a==sysModules)=false /\
  ∃xs,KT H kvs xs/\h.DictOfH (tupleKind (Z4 P w)) a xs:=by
 obtain⟨z,y,xs,r,o,es,ep,h1,h2,h3,h4,h5⟩:=(show ObjOk P w H h a (.dT kvs) from Os ok e)
 refine⟨z,y,xs,r,o,es,ep,h1,h2,h3,h4,λx hx=>?_,h5⟩
 have all:∀{l:List (List Ys×V)}{m:List (List Ys×Addr×Value)},KT H l m->∀x∈m,(tupleKind (Z4 P w)).is h x.1 x.2.1:=by
  intro l m q;induction q with
  | nil=>intro x hx;exact nomatch hx
  | @cons p q ps qs hq t ih =>
   intro x hx;rcases y0.mp hx with e|hx
   ·subst e
    exact Fy ok (by rw[<- hq.1];exact hq.2.1)
   ·exact ih x hx
 exact all r x hx
def IS {kvs:List (List Ys×V)} (ok:HOk P w H h) (e:H a=some (.dT kvs)):kvs.length<=sizeLine/\(a==sysModules)=false /\
  ∃xs,KT H kvs xs/\h.DictOfH (tupleKind (Z4 P w)) a xs:=O3 ok (.inl e)
def DGet (H:Hp) (a:Addr) (y:V) (r:Option V):Prop :=
 (∃kvs k,Rd H a (.dK kvs)/\y=kV k/\r=Wp kvs k)\/∃kvs k b,Rd H a (.dT kvs)/\y=.ref b/\H b=some (.tup (k.map kV))/\r=Wp kvs k
def DPut (H:Hp) (a:Addr) (y v:V) (H':Hp):Prop :=
 (∃kvs k,H a=some (.dK kvs)/\y=kV k/\kvs.length<sizeLine/\H'=Zd H a (.dK (W0 kvs k v))) \/
 ∃kvs k b,H a=some (.dT kvs)/\y=.ref b/\H b=some (.tup (k.map kV))/\kvs.length<sizeLine/\H'=Zd H a (.dT (W0 kvs k v))
theorem DGet.k{kvs:List (Ys×V)}{k:Ys} (e:H a=some (.dK kvs)):DGet H a (kV k) (Wp kvs k):=.inl ⟨kvs,k,.inl e,rfl,rfl⟩
theorem DPut.k{kvs:List (Ys×V)}{k:Ys} (e:H a=some (.dK kvs)) (hl:kvs.length<sizeLine):DPut H a (kV k) v (Zd H a (.dK (W0 kvs k v))):=.inl ⟨kvs,k,e,rfl,hl,rfl⟩
section
variable {r:Value}{o:Option V}{E:VP}
def Inv.big (I:Inv X ZY σ H s):sysModules<s.heap.objs.size:=by
 have h:mainGlobals<s.heap.objs.size:=(I.mod.glob.keeps I.bk).lt;exact Nat.lt_trans (by decide) h
def Cg(hu:A.units+1<cLine) (I:Inv X ZY σ H s) (g:DGet H a y o) (ry:RelV y u) (h:∀s',Inv X ZY σ H s'->Q (.bool o.isSome) s') :
  wpAny (model X.prog X.w) A (compareOp .In u (.ref a)) Q E s:=by
 rcases g with⟨kvs,k,e,ey,l⟩|⟨kvs,k,b,e,ey,eb,l⟩
 ·subst ey
  obtain⟨z,hd,vs,rel,dd⟩:=O2 I.hok e;refine wpAny_in_of (S9 ry) hd dd.mapOf ?_;rw[<- (rel.val k).isSome_eq,<- l];exact h _ (I.tok _)
 ·subst ey
  cases (show u=Value.ref b from ry)
  obtain⟨z,hd,xs,rel,dd⟩:=O3 I.hok e;refine wpAny_in_heap (tupleKind_room_in1 hu) (Fy I.hok eb) hd dd ?_;have q:=(rel.val k).isSome_eq;rw[Option.isSome_map] at q;rw[<- q,<- l];exact h _ (I.tok _)
def Fm{ob:HO} (I:Inv X ZY σ H s) (mu:Ij (H a)) (hs:Heap.SameBut a s.heap h') (he:∃q,h'.get? a=some q) (new:ObjOk X.prog X.w (Zd H a ob) h' a ob) :
  Inv X ZY σ (Zd H a ob) { s with heap:=h',toks:=t' } :=
 I.write (x:=a) (e:=a) mu (.inl rfl) (λb q hb z=>(hs.2 b hb).trans z) he new
def LW{kvs:List (Ys×V)}{vs:List (Ys×Value)} (z:kvs.length<=sizeLine) (hd:(a==sysModules)=false) (rel:KV kvs vs) (dd:h'.DictOf (Z4 P w) a vs) :
  ObjOk P w H' h' a (.dK kvs):=⟨z,hd,vs,rel,dd⟩
theorem wR{Q:Unit->Shared->Prop} (hu:A.units+1<cLine) (I:Inv X ZY σ H s) (g:DPut H a y v H') (ry:RelV y u) (rv:RelV v r) (h:∀s',Inv X ZY σ H' s'->Q () s') :
  wpAny (model X.prog X.w) A (setItem (.ref a) u r) Q E s:=by
 rcases g with⟨kvs,k,e,ey,l,eH⟩|⟨kvs,k,b,e,ey,eb,l,eH⟩
 ·subst ey eH
  obtain⟨z,hd,vs,rel,dd⟩:=IQ I.hok e;have hz:vs.length<=sizeLine:=by rw[<- rel.length];exact z
  have hl:(W0 kvs k v).length<=sizeLine:=by have:=zc kvs k v;lia
  refine wpAny_setItem_pairs (hsz:=hz) (S9 ry) dd λh' dd' hs=>h _ ?_
  have he:∃q,h'.get? a=some q:=let ⟨q,_,_,hq,_⟩:=dd';⟨q,hq⟩
  exact Fm I (by rw[e];exact True.intro) hs he (LW hl hd (rel.put k rv) dd')
 ·subst ey eH
  cases (show u=Value.ref b from ry)
  obtain⟨z,hd,xs,rel,dd⟩:=IS I.hok e;have hz:xs.length<=sizeLine:=by rw[<- Paired.length rel];exact z
  have hl:(W0 kvs k v).length<=sizeLine:=by have:=zc kvs k v;lia
  refine wpAny_setItem_heap (hsz:=hz) (tupleKind_room_in1 hu) (Fy I.hok eb) dd λh' dd' hs=>h _ ?_
  obtain⟨q,es,ep,hq,h2,h3,h4,_,h5⟩:=dd';refine Fm I (by rw[e];exact True.intro) hs ⟨q,hq⟩ ⟨hl,hd,_,(rel.put k eb rv).keeps λc ys ec=>?_,q,es,ep,hq,h2,h3,h4,h5⟩
  rw[Xd (Jd ec e (λz=>nomatch z))]
  exact ec
end
def JB (td ty tv:TE):TS:=λD σ H=>tv σ H λv H1=>td σ H1 λx H2=>ty σ H2 λy H3=>∃a H4,x=.ref a/\DPut H3 a y v H4/\D.nx σ H4
section
variable {o i:Expr}{tpos:Pos}{td ty tv:TE}
def Qv (hu:X.A.units+1<cLine) (ho:PE X o td) (hi:PE X i ty) (hv:PE X value tv) (hs:swapsWith value (some (.Subscript o i pos')) pos.line X.env=pure false) :
  PS X (.Assign [.Subscript o i pos'] value pos) (JB td ty tv):=by
 intro ZY s σ H D I h;refine wpAny_Assign_Subscript (Z2 (hv ZY s σ H _ I h) λr s1 ⟨v,H1,I1,rv,q1⟩=>Z2 (ho ZY s1 σ H1 _ I1 q1) λu s2 ⟨x,H2,I2,rx,q2⟩=>Z2 (hi ZY s2 σ H2 _ I2 q2) λiv s3 z974=>?_) hs
 obtain⟨y,H3,I3,ry,a,H4,ex,g,q3⟩:=z974;subst ex;obtain rfl:u=Value.ref a:=rx;exact wR hu I3 g ry rv λs4 I4=>⟨σ,H4,I4,q3⟩
end
def Az(h:Heap) (hb:sysModules<h.objs.size):ObjOk P w H (h.push { cls:=.type "dict",data:=.dict #[] }) h.objs.size (.dK []) :=
 ⟨Us _,beq_eq_false_iff_ne.mpr (YN (v6 hb)),[],.nil,Heap.DictOf.new h⟩
def Nl:TE:=λ_ H Q=>∀p,H p=none->Q (.ref p) (Zd H p (.dK []))
def xL:PE X (.Dict [] [] pos) Nl:=λZY s σ H Q I h =>
 wpAny_Dict_empty ⟨.ref s.heap.objs.size,_,I.laid (a:=s.heap.objs.size) (o:=.dK []) (t':=s.toks) (λ_ _ q=>z0 _ q) (w4 _) (Az s.heap I.big),rfl,h _ (I.hok.fresh (w4 _))⟩
noncomputable def YC(xs:List α) (lo hi:Option Int):List α:=(xs.drop (HT.sIx xs.length 0 lo)).take (HT.sIx xs.length xs.length hi - HT.sIx xs.length 0 lo)
theorem xE (a b:Nat):sliceRange (a:Int) (b:Int) 1=(List.range (b - a)).map (λk=>a+k):=by
 unfold sliceRange;have h:(if (1:Int) > 0 then (if (a:Int)<b then ((b:Int) - a+1 - 1) / 1 else 0) else (if (a:Int) > b then ((a:Int) - b - 1 - 1) / (-1) else 0)).toNat=b - a:=by
  rw[if_pos (by decide)]
  by_cases h:(a:Int)<b
  ·rw[if_pos h];lia
  ·rw[if_neg h];lia
 simp only[h];refine List.map_congr_left λk _=>?_
 lia
theorem AC (v:Int) (n d:Nat):max 0 (min (if v<0 then v+(n:Int) else v) (n:Int))=((HT.sIx n d (some v):Nat):Int):=by
 show max 0 (min (if v<0 then v+(n:Int) else v) (n:Int))=(((if v<0 then (v+(n:Int)).toNat else min v.toNat n):Nat):Int)
 by_cases hv:v<0
 ·simp only[if_pos hv];lia
 ·simp only[if_neg hv];lia
def uA (l u:Option Int) (n:Nat):Builtin.Str.strSliceIndices l u 1 n=(List.range (HT.sIx n n u - HT.sIx n 0 l)).map (λk=>HT.sIx n 0 l+k):=by
 rw[<- xE];unfold Builtin.Str.strSliceIndices;simp only[show((1:Int) > 0)=True from by simp,if_true]
 congr 1
 ·cases l with
  | none=>rfl
  | some v=>exact AC v n 0
 ·cases u with
  | none=>rfl
  | some v=>exact AC v n n
set_option tactic.hygienic true in
theorem vk (z:Str) (l u:Option Int):(Txt.slice z l u).cps.toList=YC z.cps.toList l u:=by
 have hn:z.cps.toList.length=z.length:=by rw[q9];rfl
 have hl:HT.sIx z.length 0 l<=z.length:=HT.sIx_le _ 0 (Us _) l;have hu:HT.sIx z.length z.length u<=z.length:=HT.sIx_le _ _ (w4 _) u;unfold Txt.slice YC;rw[uA,hn];split
 ·rename_i h
  simp only[beq_self_eq_true,Bool.true_and,v0,HX,beq_iff_eq] at h;have e1:HT.sIx z.length 0 l=0:=by lia
  have e2:HT.sIx z.length z.length u=z.length:=by lia
  rw[e1,e2,List.drop_zero,Nat.sub_zero,YM (by lia)]
 ·by_cases h:HT.sIx z.length 0 l<=HT.sIx z.length z.length u
  ·have h2:=StrLaws.picks z.cps.toList (HT.sIx z.length z.length u - HT.sIx z.length 0 l) (HT.sIx z.length 0 l) (by lia)
   rw[<- h2];show List.filterMap (λx=>z.cps[x]?) _=_
   have e:(λx=>z.cps[x]?)=(λx:Nat=>z.cps.toList[x]?):=by funext i;simp
   rw[e]
  ·have e:HT.sIx z.length z.length u - HT.sIx z.length 0 l=0:=by lia
   rw[e,List.take_zero];rfl
def QH (n d:Nat):HT.sIx n d (some 1)=min 1 n:=HT.sIx_nat n d 1
theorem uK (z:Str):(Txt.slice z (some 1) none).cps.toList=z.cps.toList.drop 1:=by
 rw[vk];unfold YC;rw[QH,HT.sIx_none];by_cases h:1<=z.cps.toList.length
 ·rw[Nat.min_eq_left h,YM (by rw[RC];lia)]
 ·have e:z.cps.toList=[]:=Yf (by lia)
  rw[e];rfl
abbrev yq:List Value:=[.type "ValueError",.type "Exception",.type "BaseException",.type "object"]
noncomputable def Om:List Value->Bool
 | .ref _::r=>Om r
 | l=>l==yq
structure C9 (K:W.Frag) (C f:Addr):Prop where
 obj:∃bm N nm q bs sn sub ab col dd k0 k1 k2 k3 k5,K.lookup C=some (excClassObj nm q C N bs bm true sn sub ab col dd k0 k1 k2 k3 k5 "ValueError.__new__")/\W.tailIn K yq bm=true
 init:W.findIn K (.ref C) "__init__"=some (some (.ref f))
 fn:W.typeIn K (.ref f)=some (.type "function")
 ga:W.findIn K (.ref C) "__getattribute__"=some (some (.builtin "BaseException.__getattribute__"))
 sa:W.findIn K (.ref C) "__setattr__"=some (some (.builtin "object.__setattr__"))
 gt:W.findIn K (.ref C) "__getattr__"=some none
 kp:W.keepIn K (.ref C)=true
 ov:∃cd,W.clsIn K C=some cd/\Om cd.mro=true/\cd.hasDict=true
 cl:W.findIn K (.ref C) "__class__"=some (some (.builtin "object.__class__"))
 cg:W.specialIn K (.builtin "object.__class__") "__get__"=some (some (.builtin "getset_descriptor.__get__"))
 ct:W.takesIn K (.builtin "object.__class__")=some true
 co:W.mroIn K C (.type "object")=some true
def BZ (h:Heap) (e C:Addr) (dx:Option Addr):Prop:=∃t f1 f2 f3 f4 f5 sl,h.get? e=some { cls:=.ref C,dict:=dx,data:=.fields #[.ref t,f1,f2,f3,f4,f5],slots:=sl }
noncomputable def XO (C:Addr) (dx:Option Addr) (e:Addr):HO:=.ext λh=>BZ h e C dx
noncomputable def qY (dx:Addr) (fs:List (Str×V)):HO:=.ext λh=>∃mA,h.Ns1 dx mA/\(∀f,RelO (fs.lookup f) (mA f))/\PySem.Within mA (fs.map (·.1))
def Inv.turned2{e p:Addr}{ys:List V} (I:Inv X ZY σ H s) (k:∀b o,b≠e->b≠it->s.heap.get? b=some o->h'.get? b=some o) (f1:VT X ZY H e) (f2:VT X ZY H it) (hp:s.heap.objs.size<=p)
  (new:ObjOk X.prog X.w (Zd H p (.tup ys)) h' p (.tup ys)):Inv X ZY σ (Zd H p (.tup ys)) { s with heap:=h',toks:=t' }:=by
 have hfr:H p=none:=I.hok.fresh hp;have nin:∀b u,H b=some u->b≠e/\b≠it:=λb u q=>⟨(λz=>by rw[z,f1.1] at q;cases q),(λz=>by rw[z,f2.1] at q;cases q)⟩
 have nch:∀b,b∉[e,it]->b≠e/\b≠it:=λb hb=>⟨λz=>hb (by simp[z]),λz=>hb (by simp[z])⟩
 refine I.call' (ch:=[e,it]) rfl ⟨λb o q n _ hx=>k b o (nch b hx).1 (nch b hx).2 q,λb o q n _ hx=>⟨o.slots,k b o (nch b hx).1 (nch b hx).2 q⟩,λb o q n _=>?_,λb o q hx=>⟨o,k b o (nch b hx).1 (nch b hx).2 q⟩,λb xs q=>?_,λb o u q=>?_,λb ps q=>⟨#[],?_⟩⟩ ?_ I.bare λb hb=>?_
 ·rw[Xd (by rintro rfl;exact absurd (z8 q) (Nat.not_lt.mpr hp))];exact n
 ·rw[Xd (U1 q hfr)];exact q
 ·rw[Xd (U1 q hfr)];exact q
 ·rw[Xd (U1 q hfr),q];simp
 ·intro b u q
  by_cases hb:b=p
  ·subst hb;rw[WN] at q;cases q;exact new
  ·rw [Xd hb] at q
   refine(I.hok b u q).stay (λc v hc z=>?_) (λc z=>by rw[Xd (U1 z hfr)];exact z) λc xs z=>by rw[Xd (U1 z hfr)];exact z
   rcases hc with rfl|hc
   ·exact k c v (nin c u q).1 (nin c u q).2 z
   ·exact k c v (nin c _ hc).1 (nin c _ hc).2 z
 ·rcases y0.mp hb with rfl | hb
  ·exact⟨f1.2.2.2.1,f1.2.1,f1.2.2.2.2.1,f1.2.2.2.2.2⟩
  ·obtain rfl:b=it:=by simpa using hb
   exact⟨f2.2.2.2.1,f2.2.1,f2.2.2.2.2.1,f2.2.2.2.2.2⟩
def FV (K:W.Frag) (a:Addr):It :=
 ⟨λi H=>∃xs x,Wr K H a xs/\xs[i]?=some x,λi H y H'=>∃p x,H p=none/\y=.ref p/\H'=Zd H p (.tup [.int i,x])/\∀xs,Wr K H a xs->xs[i]?=some x,λi H=>∃xs,Wr K H a xs/\xs.length<=i⟩
theorem vf{k:Nat} (a e it:Addr) (hne:e≠it) :
  UH P w K (.Tuple es k pos) (FV K a) [e,it] e (λi h=>(∃old,IsEnum h e it (i:Int) old)/\h.IsListIter it a i) where
 mem:=by simp
 obj:=λi h st b hb=>by
  obtain⟨⟨old,q⟩,o,e2,c,d⟩:=st;rcases y0.mp hb with rfl|hb
  ·exact⟨_,q,λv z=>by cases z⟩
  ·obtain rfl:b=it:=by simpa using hb
   exact⟨o,e2,λv z=>by rw[d] at z;cases z⟩
 keep:=λi h h' st k=>⟨by obtain⟨old,q⟩:=st.1;exact⟨old,k e (by simp) _ q⟩,st.2.at λo q=>k it (by simp) o q⟩
 item:=by
  intro X hP hw hK hc i ZY s σ H E I hf st hg;subst hP hw hK;obtain⟨xs,x,hq,hx⟩:=hg;obtain⟨ZO,rv,p,hz⟩:=I.list hq;obtain⟨u,hu,ru⟩:=rv.get hx;obtain⟨⟨old,he⟩,hl⟩:=st;have f1:=hf e (by simp)
  have f2:=hf it (by simp)
  have hel:e<s.heap.objs.size:=z8 he;refine wpAny_pyNext_enum_item he hl p.isList (x:=u) (by simpa using hu) hne λh1 eo li ht hsz kk=>⟨_,rfl,?_⟩
  refine wpAny_letOwnedTupleGo_enum (s:={ s with heap:=h1,toks:=s.toks+1 }) eo λh2 en sb=>?_
  have hpe:s.heap.objs.size≠e:=Yz hel;have hfr:H s.heap.objs.size=none:=I.hok.fresh (w4 _);have k2:∀b o,b≠e->b≠it->s.heap.get? b=some o->h2.get? b=some o:=λb o hb hi q=>(sb.2 b hb).trans (kk b o hb hi q)
  have ht2:h2.get? s.heap.objs.size=some { cls:=.type "tuple",data:=.seq #[.int i s.toks,u] }:=(sb.2 _ hpe).trans ht;have I2:=I.turned2 (t':=s.toks+1) (p:=s.heap.objs.size) (ys:=[.int i,x]) k2 f1 f2 (w4 _) ⟨by show 2<=sizeLine;decide,[.int i s.toks,u],.cons ⟨_,rfl⟩ (.cons ru .nil),⟨_,ht2,rfl,_,rfl⟩⟩
  have en':IsEnum h2 e it (((i+1:Nat):Int)) u:=by
   have:((i+1:Nat):Int)=(i:Int)+1:=by lia
   rw[this];exact en
  refine⟨.ref s.heap.objs.size,_,I2,rfl,⟨s.heap.objs.size,x,hfr,rfl,rfl,λys hy=>by rw[I.list_inj hy hq];exact hx⟩,⟨⟨u,en'⟩,?_⟩,λb hb=>?_⟩
  ·obtain ⟨o,q,r⟩:=li
   exact⟨o,(sb.2 it (YN hne)).trans q,r⟩
  ·have hb':b<s.heap.objs.size:=by
    rcases y0.mp hb with rfl|hb
    ·exact hel
    ·obtain rfl:b=it:=by simpa using hb
     obtain⟨o,q,_⟩:=hl;exact z8 q
   rw[Xd (v6 hb')];exact(hf b hb).1
 done:=by
  intro X hP hw hK hc i ZY s σ H E I hf st hg;subst hP hw hK;obtain⟨xs,hq,hx⟩:=hg;obtain⟨ZO,rv,p,hz⟩:=I.list hq;obtain⟨⟨old,he⟩,hl⟩:=st;obtain⟨f0,f1,f2,f3,f4,f5⟩:=hf it (by simp)
  have XJ:=rv.length;exact wpAny_pyNext_enum_end (I.ok.hd hc) he hl p.isList (by simp;lia) λh' eb=>⟨rfl,I.turned (t':=s.toks) (λb o hb q=>eb b o hb q) f0 f1 f3 f4 f5⟩
 self:=λ_ _ _ _ _ st h=>by
  obtain⟨⟨old,he⟩,_⟩:=st;exact wpAny_pyIter_enum he h
def IV (K:W.Frag) (ta:TA):TI:=λσ H R=>ta σ H λvs H1=>∃a xs,vs=[.ref a]/\Wr K H1 a xs/\R (FV K a) H1
section
variable {a:Expr}{ta:TA}{tp:Pos}{k:Nat}
def Qo (hg:Gl X "enumerate") (hm:X.mg "enumerate"=none) (ha:PA X [a] ta) (hs:autoParam (starEach [a] X.env=[(false,eval a X.env)]) aa._auto_1):PI X (.Tuple es k tp) (.Call (.Name "enumerate" p) [a] [] pos) (IV X.K ta):=by
 intro ZY s σ H R I h;refine Call_ (SU I hg hm (show bootBuiltins "enumerate"=some (.type "enumerate") by decide +kernel) (ZL (Z2 (ha pos ZY s σ H _ I h) λus s1 ⟨vs,H1,I1,r1,q1⟩=>?_) hs rfl))
 obtain⟨a',xs,e,hq,q⟩:=q1;subst e;obtain⟨u,rfl,ru⟩:=vals1 r1;cases ru;obtain⟨ZO,rv,pl,hz⟩:=I1.list hq;refine call_enumerate_list pl.isList λh' en li hsz kk=>?_
 refine wpAny_pyIter_enum en ?_;have hne:s1.heap.objs.size+1≠s1.heap.objs.size:=Nat.succ_ne_self _;refine⟨s1.heap.objs.size+1,[s1.heap.objs.size+1,s1.heap.objs.size],_,FV X.K a',H1,rfl,I1.kept (t':=s1.toks) kk,vf a' _ _ hne,⟨⟨_,en⟩,li⟩,λb hb=>?_,q⟩
 have hb':s1.heap.objs.size<=b:=by
  rcases y0.mp hb with rfl|hb
  ·exact Yx _
  ·have e:b=s1.heap.objs.size:=by simpa using hb
   rw[e];exact w4 _
 exact I1.fpOk hb' (I1.hok.fresh hb')
end
def Xt{γ:Type}{p q:α->β->γ->Prop}{r:Prop} (h:∃a b c,p a b c/\q a b c) (k:∀a b c,p a b c->q a b c->r):r:=by obtain⟨a,b,c,x,y⟩:=h;exact k a b c x y
inductive DK where
 | i (n:Int)|s (z:Str)|t (ks:List DK)
noncomputable instance:DecidableEq DK:=λa b=>_root_.Classical.propDecidable (a=b)
inductive D where
 | non|bl (b:Bool)|int (i:Int)|str (z:Str)|ty (T:String)
 | lst (ds:List D)|tup (ds:List D)|dct (kvs:List (D×D))|ins (C:Addr) (fs:List (Str×D))|exc (C:Addr) (fs:List (Str×D))|dn (hs:List DK->Int) (kvs:List (List DK×D))|hdl (a:Addr)
variable {E R:D->Prop}{d:D}{ds:List D}
inductive Res (α:Type) where
 | ok (a:α)|err (x:D)|bad
variable {r:Res D}
namespace Res
noncomputable def bind:Res α->(α->Res β)->Res β
 | .ok a,f=>f a
 | .err x,_=>.err x
 | .bad,_=>.bad
def all(r:Res α) (P:α->Prop) (E:D->Prop):Prop:=match r with
 | .ok a=>P a
 | .err x=>E x
 | .bad=>False
@[simp] theorem bind_ok(a:α) (f:α->Res β):(Res.ok a).bind f=f a:=rfl
@[simp] theorem Iz(x:D) (f:α->Res β):(Res.err x).bind f=.err x:=rfl
@[simp] theorem Iy(f:α->Res β):Res.bad.bind f=.bad:=rfl
def all_bind{r:Res α}{f:α->Res β}{P:β->Prop}:(r.bind f).all P E↔r.all (λa=>(f a).all P E) E:=by
 cases r<;>exact Iff.rfl
def all_mono{r:Res α}{P Q:α->Prop}{F:D->Prop} (h:r.all P E) (p:∀a,P a->Q a) (e:∀x,E x->F x):r.all Q F:=by
 cases r with
 | ok a=>exact p a h
 | err x=>exact e x h
 | bad=>exact h
end Res
noncomputable def kD:Ys->D
 | .inl i=>.int i
 | .inr z=>.str z
mutual
noncomputable def DK.toD:DK->D
 | .i n=>.int n
 | .s z=>.str z
 | .t ks=>.tup (DK.toDs ks)
noncomputable def DK.toDs:List DK->List D
 | []=>[]
 | k::ks=>k.toD::DK.toDs ks
end
mutual
noncomputable def DK.py:DK->PyData
 | .i n=>.int n
 | .s z=>.str z
 | .t ks=>.tuple (DK.pys ks)
noncomputable def DK.pys:List DK->List PyData
 | []=>[]
 | k::ks=>k.py::DK.pys ks
end
mutual
noncomputable def DK.dep:DK->Nat
 | .i _=>0
 | .s _=>0
 | .t ks=>DK.deps ks+1
noncomputable def DK.deps:List DK->Nat
 | []=>0
 | k::ks=>max k.dep (DK.deps ks)
end
noncomputable def Sj (k:List DK):Bool:=decide ((DK.t k).dep<=8)&&SeqAt.shaped (DK.t k).py
noncomputable def KA (a:Addr) (hs:List DK->Int) (xs:List (List DK×Addr×Value)):HO:=.ext λh=>∃o es ep,h.get? a=some o/\o.ExactDict/\o.data=.dict es ep/\es.toList=xs.map (λx=>⟨hs x.1,.ref x.2.1,x.2.2⟩)/\(xs.map (·.1)).Nodup/\xs.length<=sizeLine/\(a==sysModules)=false
mutual
inductive Rp (K:W.Frag) (H:Hp):V->D->Prop
 | non:Rp K H .non .non
 | bl (b:Bool):Rp K H (.bl b) (.bl b)
 | int (i:Int):Rp K H (.int i) (.int i)
 | str {z:Str} (h:z.length<=sizeLine):Rp K H (.str z) (.str z)
 | ty (T:String):Rp K H (.ty T) (.ty T)
 | lst {a:Addr}{xs:List V}{ds:List D}:Rd H a (.lst xs)->Rps K H xs ds->Rp K H (.ref a) (.lst ds)
 | tup {a:Addr}{xs:List V}{ds:List D}:UF K H a xs->Rps K H xs ds->Rp K H (.ref a) (.tup ds)
 | dK {a:Addr}{kvs:List (Ys×V)}{ps:List (D×D)}:H a=some (.dK kvs)->Rpk K H kvs ps->Rp K H (.ref a) (.dct ps)
 | ins {a C dx:Addr}{fs:List (Str×V)}{gs:List (Str×D)}:H a=some (.ins C dx fs)->Rpf K H fs gs->Rp K H (.ref a) (.ins C gs)
 | exc {a C dx:Addr}{fs:List (Str×V)}{gs:List (Str×D)}:H a=some (XO C (some dx) a)->H dx=some (qY dx fs)->Rpf K H fs gs->Rp K H (.ref a) (.exc C gs)
 | dn {a:Addr}{hs:List DK->Int}{xs:List (List DK×Addr×Value)}{kvs:List (List DK×D)}:H a=some (KA a hs xs)->Rpn K H xs kvs->Rp K H (.ref a) (.dn hs kvs)
 | hdl (a:Addr):Rp K H (.ref a) (.hdl a)
inductive Rps (K:W.Frag) (H:Hp):List V->List D->Prop
 | nil:Rps K H [] []
 | cons {x:V}{d:D}{xs:List V}{ds:List D}:Rp K H x d->Rps K H xs ds->Rps K H (x::xs) (d::ds)
inductive Rpk (K:W.Frag) (H:Hp):List (Ys×V)->List (D×D)->Prop
 | nil:Rpk K H [] []
 | cons {k:Ys}{x:V}{d:D}{xs:List (Ys×V)}{ds:List (D×D)}:Rp K H x d->Rpk K H xs ds->Rpk K H ((k,x)::xs) ((kD k,d)::ds)
inductive Rpf (K:W.Frag) (H:Hp):List (Str×V)->List (Str×D)->Prop
 | nil:Rpf K H [] []
 | cons {k:Str}{x:V}{d:D}{xs:List (Str×V)}{ds:List (Str×D)}:Rp K H x d->Rpf K H xs ds->Rpf K H ((k,x)::xs) ((k,d)::ds)
inductive Rpn (K:W.Frag) (H:Hp):List (List DK×Addr×Value)->List (List DK×D)->Prop
 | nil:Rpn K H [] []
 | cons {k:List DK}{q:Addr}{u:Value}{x:V}{d:D}{xs:List (List DK×Addr×Value)}{ds:List (List DK×D)}:Sj k=true->Rp K H (.ref q) (DK.t k).toD->RelV x u->Rp K H x d->Rpn K H xs ds->Rpn K H ((k,q,u)::xs) ((k,d)::ds)
end
def Rd.same(e:Same H H') {u:HO} (h:Rd H a u):Rd H' a u:=by
 rcases h with h|⟨o,h⟩
 ·exact .inl (e _ _ h)
 ·exact .inr ⟨o,e _ _ h⟩
mutual
theorem Rp.same (e:Same H H'):∀{x:V}{d:D},Rp K H x d->Rp K H' x d
 | _,_,.non=>.non
 | _,_,.bl b=>.bl b
 | _,_,.int i=>.int i
 | _,_,.str h=>.str h
 | _,_,.ty T=>.ty T
 | _,_,.lst hq hs=>.lst (hq.same e) (Rps.same e hs)
 | _,_,.tup hq hs=>.tup (e.seqT hq) (Rps.same e hs)
 | _,_,.dK hq hs=>.dK (e _ _ hq) (Rpk.same e hs)
 | _,_,.ins hq hs=>.ins (e _ _ hq) (Rpf.same e hs)
 | _,_,.exc hq hr hs=>.exc (e _ _ hq) (e _ _ hr) (Rpf.same e hs)
 | _,_,.dn hq hs=>.dn (e _ _ hq) (Rpn.same e hs)
 | _,_,.hdl a=>.hdl a
theorem Rps.same (e:Same H H'):∀{x:List V}{d:List D},Rps K H x d->Rps K H' x d
 | _,_,.nil=>.nil
 | _,_,.cons h hs=>.cons (Rp.same e h) (Rps.same e hs)
theorem Rpk.same (e:Same H H'):∀{x:List (Ys×V)}{d:List (D×D)},Rpk K H x d->Rpk K H' x d
 | _,_,.nil=>.nil
 | _,_,.cons h hs=>.cons (Rp.same e h) (Rpk.same e hs)
theorem Rpf.same (e:Same H H'):∀{x:List (Str×V)}{d:List (Str×D)},Rpf K H x d->Rpf K H' x d
 | _,_,.nil=>.nil
 | _,_,.cons h hs=>.cons (Rp.same e h) (Rpf.same e hs)
theorem Rpn.same (e:Same H H'):∀{x:List (List DK×Addr×Value)}{d:List (List DK×D)},Rpn K H x d->Rpn K H' x d
 | _,_,.nil=>.nil
 | _,_,.cons o h r h2 hs=>.cons o (Rp.same e h) r (Rp.same e h2) (Rpn.same e hs)
end
theorem Rps.length:∀{xs:List V}{ds:List D},Rps K H xs ds->xs.length=ds.length
 | _,_,.nil=>rfl
 | _,_,.cons _ hs=>congrArg (·+1) hs.length
theorem Rps.get:∀{xs:List V}{ds:List D}{i:Nat}{d:D},Rps K H xs ds->ds[i]?=some d->∃x,xs[i]?=some x/\Rp K H x d
 | _,_,0,_,.cons h _,e=>by cases e;exact⟨_,rfl,h⟩
 | _,_,i+1,_,.cons _ hs,e=>hs.get (i:=i) (by simpa using e)
theorem Rps.append:∀{xs ys:List V}{ds es:List D},Rps K H xs ds->Rps K H ys es->Rps K H (xs++ys) (ds++es)
 | _,_,_,_,.nil,h=>h
 | _,_,_,_,.cons h hs,h'=>.cons h (hs.append h')
theorem Rps.take:∀{xs:List V}{ds:List D} (n:Nat),Rps K H xs ds->Rps K H (xs.take n) (ds.take n)
 | _,_,0,_=>by simpa using Rps.nil
 | _,_,_+1,.nil=>by simpa using Rps.nil
 | _,_,n+1,.cons h hs=>by simpa using Rps.cons h (hs.take n)
theorem Rps.drop:∀{xs:List V}{ds:List D} (n:Nat),Rps K H xs ds->Rps K H (xs.drop n) (ds.drop n)
 | _,_,0,h=>h
 | _,_,_+1,.nil=>by simpa using Rps.nil
 | _,_,n+1,.cons _ hs=>by simpa using hs.drop n
theorem Rpf.lookup:∀{fs:List (Str×V)}{gs:List (Str×D)}{f:Str}{d:D},Rpf K H fs gs->gs.lookup f=some d->∃v,fs.lookup f=some v/\Rp K H v d
 | _,_,f,d,.cons (k:=k) h hs,e=>by
  rw[u5] at e |-
  cases q:f==k with
  | true=>rw[q] at e;cases e;exact⟨_,rfl,h⟩
  | false=>rw[q] at e;exact hs.lookup e
structure Stp (F H F' H':Hp):Prop where
 ff:Same F F'
 fh:Same F' H'
 hh:Same H H'
 no:∀a,F a=none->H a≠none->F' a=none
 nz:∀a o u,F' a=some (.frz o u)->F a=some (.frz o u)
section
variable {F F'' H'':Hp}{o:HO}
theorem Stp.refl (h:Same F H):Stp F H F H:=⟨Same.refl F,h,Same.refl H,λ_ q _=>q,λ_ _ _ q=>q⟩
def JW(e:Same H H')  (h:H a≠none):H' a≠none:=by
 intro q;cases z:H a with
 | none=>exact h z
 | some o=>rw[e a o z] at q;cases q
theorem Stp.trans (x:Stp F H F' H') (y:Stp F' H' F'' H''):Stp F H F'' H'' :=
 ⟨x.ff.trans y.ff,y.fh,x.hh.trans y.hh,λa q r=>y.no a (x.no a q r) (JW x.hh r),λa o u q=>x.nz a o u (y.nz a o u q)⟩
def wK (h:Same F H):Same (Zd F a o) (Zd H a o):=λb u e=>by
 unfold Zd at e |-
 by_cases q:b=a
 ·rw[if_pos q] at e |-;exact e
 ·rw[if_neg q] at e |-;exact h b u e
def W5 (h:F a=none):Same F (Zd F a o):=λb u e=>by
 unfold Zd;by_cases q:b=a
 ·subst q;rw[h] at e;cases e
 ·rw[if_neg q];exact e
def FX (o:HO):Prop:=∀x u,o≠.frz x u
def Stp.new (h:Same F H) (n:H a=none) (z:FX o:=by intro _ _ q;cases q):Stp F H (Zd F a o) (Zd H a o) :=
 ⟨W5 (h.free n),wK h,W5 n,λb q r=>by
  unfold Zd;by_cases z:b=a
  ·subst z;exact absurd n r
  ·rw[if_neg z];exact q,λb x u q=>by
  unfold Zd at q;by_cases c:b=a
  ·rw[if_pos c] at q;exact absurd (ZS q) (z x u)
  ·rw[if_neg c] at q;exact q⟩
def Lf{h:HO} (z:FX h) (k:∀b x u,F' b=some (.frz x u)->F0 b=some (.frz x u)):∀b x u,Zd F' a h b=some (.frz x u)->F0 b=some (.frz x u):=λb x u q=>by
 unfold Zd at q;by_cases c:b=a
 ·rw[if_pos c] at q;exact absurd (ZS q) (z x u)
 ·rw[if_neg c] at q;exact k b x u q
def Stp.only (h:Same F H) (e:Same H H'):Stp F H F H':=⟨Same.refl F,h.trans e,e,λ_ q _=>q,λ_ _ _ q=>q⟩
end
inductive OD where
 | l (ds:List D)|d (kvs:List (D×D))|i (a C:Addr) (gs:List (Str×D))|n (hs:List DK->Int) (kvs:List (List DK×D))|p (a:Addr) (o:OD)
variable {o:OD}
noncomputable def OD.toD:OD->D
 | .l ds=>.lst ds
 | .d kvs=>.dct kvs
 | .i _ C gs=>.ins C gs
 | .n hs kvs=>.dn hs kvs
 | .p _ o=>o.toD
inductive Ro (K:W.Frag) (F:Hp) (a:Addr):HO->OD->Prop
 | l {xs:List V}{ds:List D}:Rps K F xs ds->Ro K F a (.lst xs) (.l ds)
 | d {kvs:List (Ys×V)}{ps:List (D×D)}:Rpk K F kvs ps->Ro K F a (.dK kvs) (.d ps)
 | i {C dx:Addr}{fs:List (Str×V)}{gs:List (Str×D)}:Rpf K F fs gs->Ro K F a (.ins C dx fs) (.i a C gs)
 | n {hs:List DK->Int}{xs:List (List DK×Addr×Value)}{kvs:List (List DK×D)}:Rpn K F xs kvs->Ro K F a (KA a hs xs) (.n hs kvs)
 | p {h:HO}{o:OD}:Ro K F a h o->Ro K F a h (.p a o)
theorem Ro.same{F:Hp} (e:Same F F') {h:HO} (r:Ro K F a h o):Ro K F' a h o:=by
 induction r with
 | l r=>exact .l (Rps.same e r)
 | d r=>exact .d (Rpk.same e r)
 | i r=>exact .i (Rpf.same e r)
 | n r=>exact .n (Rpn.same e r)
 | p _ ih=>exact .p ih
def Ro.nz{F:Hp}{h:HO} (r:Ro K F a h o):FX h:=by
 induction r with
 | p _ ih=>exact ih
 | _=>intro _ _ q;cases q
def Ro.rp{F:Hp}{h:HO} (r:Ro K F a h o) (e:F a=some h):Rp K F (.ref a) o.toD:=by
 induction r with
 | l r=>exact .lst (.inl e) r
 | d r=>exact .dK e r
 | i r=>exact .ins e r
 | n r=>exact .dn e r
 | p _ ih=>exact ih e
inductive Sl where
 | val (d:D)|own (o:OD)
abbrev Rho:=List (Option Sl)
variable {fa fs fi:Rho->Res (List D)}{ρ:Rho}{fb fc fe fl fv fo:Rho->Res D}{fA fB fT:Rho->Res Bool}
structure Rel (K:W.Frag) (B:Hp×Hp) (ρ:Rho) (σ:St) (F H:Hp):Prop where
 st:Stp B.1 B.2 F H
 len:σ.length=ρ.length
 val:∀(i:Nat) d,ρ[i]?=some (some (.val d))->∃v,σ[i]?=some (some v)/\Rp K F v d
 own:∀(i:Nat) o,ρ[i]?=some (some (.own o))->∃a h,σ[i]?=some (some (.ref a))/\F a=none/\B.2 a=none/\H a=some h/\Ro K F a h o
 dis:∀(i j:Nat) o u a,ρ[i]?=some (some (.own o))->ρ[j]?=some (some (.own u))->σ[i]?=some (some (.ref a))->σ[j]?=some (some (.ref a))->i=j
noncomputable def YK:Sl->Sl
 | .val d=>.val d
 | .own o=>.val o.toD
noncomputable def frz (ρ:Rho):Rho:=ρ.map (Option.map YK)
section
variable {F:Hp}
theorem Rel.fh (r:Rel K B ρ σ F H):Same F H:=r.st.fh
def Rel.step (r:Rel K B ρ σ F H) (s:Stp F H F' H'):Rel K B ρ σ F' H' where
 st:=r.st.trans s
 len:=r.len
 val i d e:=let ⟨v,h1,h2⟩:=r.val i d e;⟨v,h1,h2.same s.ff⟩
 own i o e:=let ⟨a,h,h1,h2,h3,h4,h5⟩:=r.own i o e;⟨a,h,h1,s.no a h2 (by rw[h4];simp),h3,s.hh a h h4,Ro.same s.ff h5⟩
 dis:=r.dis
def La{x:Sl} (h:(frz ρ)[i]?=some (some x)):∃y,ρ[i]?=some (some y)/\x=YK y:=by
 unfold frz at h;rw[w6] at h;cases q:ρ[i]? with
 | none=>rw[q] at h;cases h
 | some z =>
  rw[q] at h;cases z with
  | none=>simp at h
  | some y=>simp at h;exact⟨y,rfl,h.symm⟩
open Classical in
theorem Rel.frz (r:Rel K B ρ σ F H):∃F',Same F F'/\Rel K B (frz ρ) σ F' H:=by
 let T:Addr->Prop:=λa=>∃(i:Nat) (o:OD),ρ[i]?=some (some (.own o))/\σ[i]?=some (some (.ref a))
 let F':Hp:=λa=>if T a then H a else F a
 have hT:∀a,T a->F a=none/\B.2 a=none:=λa ⟨i,o,e,q⟩=>by
  obtain⟨b,h,h1,h2,h3,_⟩:=r.own i o e;rw[q] at h1;cases h1;exact⟨h2,h3⟩
 have hZ:∀a,T a->∀x u,H a≠some (.frz x u):=λa ⟨i,o,e,q⟩ x u z=>by
  obtain⟨b,h,h1,h2,h3,h4,h5⟩:=r.own i o e;rw[q] at h1;cases h1;rw[h4] at z;exact h5.nz x u (ZS z)
 have e1:Same F F':=λa o e=>by
  show(if T a then H a else F a)=some o
  by_cases q:T a
  ·rw[(hT a q).1] at e;cases e
  ·rw[if_neg q];exact e
 have e2:Same F' H:=λa o e=>by
  have e':(if T a then H a else F a)=some o:=e
  by_cases q:T a
  ·rw[if_pos q] at e';exact e'
  ·rw[if_neg q] at e';exact r.fh a o e'
 refine⟨F',e1,⟨⟨r.st.ff.trans e1,e2,r.st.hh,λa q z=>?_,λa x u q=>?_⟩,?_,?_,?_,?_⟩⟩
 ·show (if T a then H a else F a)=none
  by_cases t:T a
  ·exact absurd (hT a t).2 z
  ·rw[if_neg t];exact r.st.no a q z
 ·have q:(if T a then H a else F a)=some (.frz x u):=q
  by_cases t:T a
  ·rw[if_pos t] at q;exact absurd q (hZ a t x u)
  ·rw[if_neg t] at q;exact r.st.nz a x u q
 ·rw[r.len];unfold L2.frz;simp
 ·intro i d e
  obtain⟨y,h1,h2⟩:=La e;cases y with
  | val d'=>cases h2;obtain⟨v,q1,q2⟩:=r.val i d h1;exact⟨v,q1,q2.same e1⟩
  | own o =>
   cases h2;obtain⟨a,h,q1,q2,q3,q4,q5⟩:=r.own i o h1;have t:T a:=⟨i,o,h1,q1⟩;exact⟨.ref a,q1,Ro.rp (Ro.same e1 q5) (show(if T a then H a else F a)=some h by rw[if_pos t];exact q4)⟩
 ·intro i o e
  obtain⟨y,h1,h2⟩:=La e;cases y<;>cases h2
 ·intro i j o u a e
  obtain⟨y,h1,h2⟩:=La e;cases y<;>cases h2
def Vb{l:List α}{x y:α} (h:(l.set i x)[j]?=some y):(j=i/\i<l.length/\y=x)\/(j≠i/\l[j]?=some y):=by
 rw[List.getElem?_set] at h;by_cases q:i=j
 ·rw [if_pos q] at h
  by_cases z:i<l.length
  ·rw[if_pos z] at h;exact .inl ⟨q.symm,z,(ZS h).symm⟩
  ·rw[if_neg z] at h;cases h
 ·rw[if_neg q] at h;exact .inr ⟨λe=>q e.symm,h⟩
def Li{l:List α}{x:α} (h:i<l.length):(l.set i x)[i]?=some x:=by simp[h]
def Va{l:List α}{x:α} (h:j≠i):(l.set i x)[j]?=l[j]?:=by rw[List.getElem?_set,if_neg (λe=>h e.symm)]
theorem Rel.set(r:Rel K B ρ σ F H) (h:Rp K F v d):Rel K B (ρ.set i (some (.val d))) (σ.set i (some v)) F H where
 st:=r.st
 len:=by simp[r.len]
 val j d' e:=by
  rcases Vb e with⟨rfl,q,z⟩|⟨q,z⟩
  ·cases z;exact⟨v,Li (r.len ▸ q),h⟩
  ·rw[Va q];exact r.val j d' z
 own j o e:=by
  rcases Vb e with⟨rfl,q,z⟩|⟨q,z⟩
  ·cases z
  ·rw[Va q];exact r.own j o z
 dis j k o u a e e':=by
  rcases Vb e with⟨rfl,q,z⟩|⟨q,z⟩
  ·cases z
  ·rcases Vb e' with ⟨rfl,q',z'⟩ | ⟨q',z'⟩
   ·cases z'
   ·rw[Va q,Va q'];exact r.dis j k o u a z z'
def Rel.setOwn{h:HO} (r:Rel K B ρ σ F H) (h1:F a=none) (h2:B.2 a=none) (h3:H a=some h) (h4:Ro K F a h o)
  (hd:∀(j:Nat) u,ρ[j]?=some (some (.own u))->σ[j]?≠some (some (.ref a))):Rel K B (ρ.set i (some (.own o))) (σ.set i (some (.ref a))) F H where
 st:=r.st
 len:=by simp[r.len]
 val j d' e:=by
  rcases Vb e with⟨rfl,q,z⟩|⟨q,z⟩
  ·cases z
  ·rw[Va q];exact r.val j d' z
 own j u e:=by
  rcases Vb e with⟨rfl,q,z⟩|⟨q,z⟩
  ·cases z;exact⟨a,h,Li (r.len ▸ q),h1,h2,h3,h4⟩
  ·rw[Va q];exact r.own j u z
 dis j k u u' b e e':=by
  rcases Vb e with⟨rfl,q,z⟩|⟨q,z⟩
  ·rcases Vb e' with ⟨rfl,q',z'⟩ | ⟨q',z'⟩
   ·intro _ _;rfl
   ·rw [Va q',Li (r.len ▸ q)]
    intro x y;cases x;exact absurd y (hd k u' z')
  ·rcases Vb e' with ⟨rfl,q',z'⟩ | ⟨q',z'⟩
   ·rw [Va q,Li (r.len ▸ q')]
    intro x y;cases y;exact absurd x (hd j u z)
   ·rw[Va q,Va q'];exact r.dis j k u u' b z z'
def Rel.write{h':HO}{o':OD} (r:Rel K B ρ σ F H) (e:ρ[i]?=some (some (.own o))) (hs:σ[i]?=some (some (.ref a))) (h4:Ro K F a h' o') :
  Rel K B (ρ.set i (some (.own o'))) σ F (Zd H a h'):=by
 obtain⟨b,h,q1,q2,q3,q4,q5⟩:=r.own i o e;rw[hs] at q1;cases q1;have e1:∀G:Hp,G a=none->Same G H->Same G (Zd H a h'):=λG n s b u x=>by
  unfold Zd;by_cases z:b=a
  ·subst z;rw[n] at x;cases x
  ·rw[if_neg z];exact s b u x
 refine⟨⟨r.st.ff,e1 F q2 r.fh,e1 B.2 q3 r.st.hh,r.st.no,r.st.nz⟩,by simp[r.len],?_,?_,?_⟩
 ·intro j d x
  rcases Vb x with⟨rfl,q,z⟩|⟨q,z⟩
  ·cases z
  ·exact r.val j d z
 ·intro j u x
  rcases Vb x with⟨rfl,q,z⟩|⟨q,z⟩
  ·cases z;exact⟨a,h',hs,q2,q3,WN,h4⟩
  ·obtain ⟨c,g,p1,p2,p3,p4,p5⟩:=r.own j u z
   have ne:c≠a:=λw=>q (by subst w;exact r.dis j i u o c z e p1 hs)
   exact⟨c,g,p1,p2,p3,by rw[Xd ne];exact p4,p5⟩
 ·intro j k u u' c x y
  have f:∀(m:Nat) w,(ρ.set i (some (Sl.own o')))[m]?=some (some (.own w))->∃w',ρ[m]?=some (some (.own w')):=λm w p=>by
   rcases Vb p with⟨rfl,_,_⟩|⟨_,z⟩
   ·exact⟨o,e⟩
   ·exact⟨w,z⟩
  obtain⟨w1,z1⟩:=f j u x;obtain⟨w2,z2⟩:=f k u' y;exact r.dis j k w1 w2 c z1 z2
end
abbrev XQ:=V->St->Hp->Prop
variable {xq:XQ}
def Po (ρ:Rho):frz (frz ρ)=frz ρ:=by
 unfold frz;rw[OV];congr 1;funext x;cases x with
 | none=>rfl
 | some y=>cases y<;>rfl
def ErrK (K:W.Frag) (xq:XQ) (B:Hp×Hp) (ρ:Rho) (σ:St) (x:D):Prop:=∀v F' H',Rel K B (frz ρ) σ F' H'->Rp K F' v x->xq v σ H'
def WE (K:W.Frag) (xq:XQ) (f:Rho->Res D):TE:=λσ H Q=>∃B F ρ,Rel K B ρ σ F H /\
 (f ρ).all (λd=>∀v F' H',Stp F H F' H'->Rp K F' v d->Q v H') (ErrK K xq B ρ σ)
def Sb (K:W.Frag) (xq:XQ) (f:Rho->Res (List D)):TA:=λσ H Q=>∃B F ρ,Rel K B ρ σ F H /\
 (f ρ).all (λds=>∀vs F' H',Stp F H F' H'->Rps K F' vs ds->Q vs H') (ErrK K xq B ρ σ)
def Vt (K:W.Frag) (xq:XQ) (f:Rho->Res Bool):TT:=λσ H Q=>∃B F ρ,Rel K B ρ σ F H /\
 (f (frz ρ)).all (λb=>∀H',Stp F H F H'->Q b H') (ErrK K xq B ρ σ)
def Og (K:W.Frag) (xq:XQ) (f:Rho->Res OD):TE:=λσ H Q=>∃B F ρ,Rel K B ρ σ F H /\
 (f ρ).all (λo=>∀a h F' H',Stp F H F' H'->F' a=none->H a=none->H' a=some h->Ro K F' a h o->Q (.ref a) H') (ErrK K xq B ρ σ)
abbrev FD:=List D->Res D
variable {g:FD}
structure DE (X:Cx) (xq:XQ) (e:Expr) (f:Rho->Res D):Prop where
 out:PE X e (WE X.K xq f)
structure DN (X:Cx) (xq:XQ) (e:Expr) (f:Rho->Res OD):Prop where
 out:PE X e (Og X.K xq f)
structure DT (X:Cx) (xq:XQ) (e:Expr) (f:Rho->Res Bool):Prop where
 out:PT X e (Vt X.K xq f)
structure DW (X:Cx) (xq:XQ) (e:Expr) (f:Rho->Res Bool):Prop where
 out:PW X e (Vt X.K xq f)
structure DA (X:Cx) (xq:XQ) (es:List Expr) (f:Rho->Res (List D)):Prop where
 out:PA X es (Sb X.K xq f)
 ns:es.all Zk=true
def rD (K:W.Frag) (g:D->D->Res D):R2:=λx y H Q=>∃F dx dy,Same F H/\Rp K F x dx/\Rp K F y dy/\(g dx dy).all (λd=>∀v F' H',Stp F H F' H'->Rp K F' v d->Q v H') (λ_=>False)
def yv (K:W.Frag) (g:D->Res D):V->Hp->VK->Prop:=λx H Q=>∃F dx,Same F H/\Rp K F x dx/\(g dx).all (λd=>∀v F' H',Stp F H F' H'->Rp K F' v d->Q v H') (λ_=>False)
def So (K:W.Frag) (g:FD):List V->Hp->VK->Prop:=λxs H Q=>∃F ds,Same F H/\Rps K F xs ds/\(g ds).all (λd=>∀v F' H',Stp F H F' H'->Rp K F' v d->Q v H') (λ_=>False)
section
variable {F:Hp}{x:D}
def Yd{fa:Rho->Res D}{g:D->Res α}{P:α->Prop}{T:VK} (R:Rel K B ρ σ F H) (h:((fa ρ).bind g).all P (ErrK K xq B ρ σ))
  (k:∀d v F' H',Stp F H F' H'->Rel K B ρ σ F' H'->Rp K F' v d->(g d).all P (ErrK K xq B ρ σ)->T v H'):WE K xq fa σ H T :=
 ⟨B,F,ρ,R,Res.all_mono (Res.all_bind.mp h) (λd h' v F' H' s p=>k d v F' H' s (R.step s) p h') (λ_ e=>e)⟩
def X2{g:List D->Res α}{P:α->Prop}{T:List V->Hp->Prop} (R:Rel K B ρ σ F H) (h:((fa ρ).bind g).all P (ErrK K xq B ρ σ))
  (k:∀d v F' H',Stp F H F' H'->Rel K B ρ σ F' H'->Rps K F' v d->(g d).all P (ErrK K xq B ρ σ)->T v H'):Sb K xq fa σ H T :=
 ⟨B,F,ρ,R,Res.all_mono (Res.all_bind.mp h) (λd h' v F' H' s p=>k d v F' H' s (R.step s) p h') (λ_ e=>e)⟩
end
noncomputable def YD:Res α->Res α
 | .err _=>.bad
 | r=>r
section
variable {F:Hp}{x:D}
def VM{Q:VK}{H0:Hp} (s:Stp F0 H0 F H) (h:(YD r).all (λd=>∀v F' H',Stp F0 H0 F' H'->Rp K F' v d->Q v H') E) :
  r.all (λd=>∀v F' H',Stp F H F' H'->Rp K F' v d->Q v H') (λ_=>False):=by
 cases r with
 | ok d=>exact λv F' H' s' p=>h v F' H' (s.trans s') p
 | err x=>exact h
 | bad=>exact h
end
noncomputable def Wl (ρ:Rho) (i:Nat):Res D:=match ρ[i]? with
 | some (some (.val d))=>.ok d
 | _=>.bad
set_option tactic.hygienic true in
def Pv{P:D->Prop} (h:(Wl ρ i).all P E):∃d,ρ[i]?=some (some (.val d))/\P d:=by
 unfold Wl at h;split at h
 ·rename_i d e;exact⟨d,e,h⟩
 ·exact h.elim
section
variable {a o:Expr}{YO:List Expr}{fa:Rho->Res D}
def DE.of {t:TE} (h:PE X e t) (k:∀B F ρ σ H Q,Rel X.K B ρ σ F H->(fe ρ).all (λd=>∀v F' H',Stp F H F' H'->Rp X.K F' v d->Q v H') (ErrK X.K xq B ρ σ)->t σ H Q):DE X xq e fe :=
 ⟨λZY s σ H Q I z9=>Xt z9 λB F ρ R q=>h ZY s σ H Q I (k B F ρ σ H Q R q)⟩
def DT.of {t:TT} (h:PT X e t) (k:∀B F ρ σ H Q,Rel X.K B ρ σ F H->(fA (frz ρ)).all (λb=>∀H',Stp F H F H'->Q b H') (ErrK X.K xq B ρ σ)->t σ H Q):DT X xq e fA :=
 ⟨λZY s σ H Q I z9=>Xt z9 λB F ρ R q=>h ZY s σ H Q I (k B F ρ σ H Q R q)⟩
def KH(h:PE X e (tC v)) (p:∀F,Rp X.K F v d):DE X xq e (λ_=>.ok d):=DE.of h λB F ρ σ H Q R q=>q v F H (Stp.refl R.fh) (p F)
def ZT {i j pos}:DE X xq (.Constant (.int i) j pos) (λ_=>.ok (.int i)):=KH ML λ_=>.int i
def XB {i j pos}:DE X xq (.Constant (.bool i) j pos) (λ_=>.ok (.bl i)):=KH Jo λ_=>.bl i
def Tw {j pos}:DE X xq (.Constant .none j pos) (λ_=>.ok .non):=KH MM λ_=>.non
def Yq{j pos} (h:autoParam (z.length<=sizeLine) ac._auto_1):DE X xq (.Constant (.str z) j pos) (λ_=>.ok (.str z)):=KH MP λ_=>.str h
def dv(i:Nat)  (hN:autoParam (X.N[i]?=some x) aa._auto_1) (hv:autoParam (Ut X.env.scope x) ae._auto_1) (hd:autoParam ((x==("__debug__":Str))=false) ac._auto_1)
  (Xa:autoParam ((x==("__classdict__":Str))=false) ac._auto_1):DE X xq (.Name x pos) (λρ=>Wl ρ i) :=
 DE.of (U2 hN hv hd Xa) λB F ρ σ H Q R q=>by
  obtain⟨d,e,h⟩:=Pv q;obtain⟨v,h1,h2⟩:=R.val i d e;exact⟨v,h1,h v F H (Stp.refl R.fh) h2⟩
def Ve (K:W.Frag) (mg:MG) (x:Str) (d:D):Prop:=∃v,yg mg x v/\∀F,Rp K F v d
def Re(h:Ve K mg x d) (hg:autoParam (Gl X x) aa._auto_1) (em:autoParam (X.mg=mg) aa._auto_1) (eK:autoParam (X.K=K) aa._auto_1) (hd:autoParam ((x==("__debug__":Str))=false) ac._auto_1):DE X xq (.Name x pos) (λ_=>.ok d):=by
 obtain⟨v,h1,h2⟩:=h;subst eK;exact KH (MK h1 hg em hd) h2
def X0(hm:X.mg x=none) (hv:bootBuiltins x=some (.type T)) (hg:autoParam (Gl X x) aa._auto_1) (hn:autoParam (x≠"__name__") ac._auto_1) (hd:autoParam ((x==("__debug__":Str))=false) ac._auto_1):DE X xq (.Name x pos) (λ_=>.ok (.ty T)) :=
 KH (v:=.ty T) (Qg hg hm hv rfl hn hd) λ_=>.ty T
def ZC {op:Operator}{g:D->D->Res D} (ho:Y0 X (binaryOp op) (rD X.K g)) (ha:DE X xq a fa) (hb:DE X xq b fb):DE X xq (.BinOp a op b pos) (λρ=>(fa ρ).bind λx=>(fb ρ).bind λy=>YD (g x y)) :=
 DE.of (Op ho ha.out hb.out) λB F ρ σ H Q R q=>Yd R q λd v F1 H1 s1 R1 p1 q1=>Yd R1 q1 λd2 v2 F2 H2 s2 R2 p2 q2 =>
  ⟨F2,d,d2,R2.fh,p1.same s2.ff,p2,VM (s1.trans s2) q2⟩
def Ci {op:UnaryOp}{g:D->Res D} (ho:Ir X (unaryOp op) (yv X.K g)) (ha:DE X xq a fa):DE X xq (.UnaryOp op a pos) (λρ=>(fa ρ).bind λx=>YD (g x)) :=
 DE.of (Jr ho ha.out) λB F ρ σ H Q R q=>Yd R q λd v F1 H1 s1 R1 p1 q1=>⟨F1,d,R1.fh,p1,VM s1 q1⟩
def Ub {op:CmpOp}{g:D->D->Res D} (ho:Y0 X (compareOp op) (rD X.K g)) (ha:DE X xq a fa) (hb:DE X xq b fb) (hm:autoParam (behindInMarks op b=false) aq._auto_1) :
  DE X xq (.Compare a [op] [b] pos) (λρ=>(fa ρ).bind λx=>(fb ρ).bind λy=>YD (g x y)) :=
 DE.of (Qi ho ha.out hb.out hm) λB F ρ σ H Q R q=>Yd R q λd v F1 H1 s1 R1 p1 q1=>Yd R1 q1 λd2 v2 F2 H2 s2 R2 p2 q2 =>
  ⟨F2,d,d2,R2.fh,p1.same s2.ff,p2,VM (s1.trans s2) q2⟩
def ZA {g:D->D->Res D} (ho:Ly X (rD X.K g)) (ha:DE X xq a fa) (hb:DE X xq b fb) (hs:autoParam (UD b) ar._auto_1):DE X xq (.Subscript a b pos) (λρ=>(fa ρ).bind λx=>(fb ρ).bind λy=>YD (g x y)) :=
 DE.of (Oo ho ha.out hb.out hs) λB F ρ σ H Q R q=>Yd R q λd v F1 H1 s1 R1 p1 q1=>Yd R1 q1 λd2 v2 F2 H2 s2 R2 p2 q2 =>
  ⟨F2,d,d2,R2.fh,p1.same s2.ff,p2,VM (s1.trans s2) q2⟩
noncomputable def UI:D->Res Bool
 | .bl b=>.ok b
 | _=>.bad
def Nw{P:Bool->Prop} (h:(UI d).all P E):∃b,d=.bl b/\P b:=by
 cases d<;>first|exact h.elim|exact⟨_,rfl,h⟩
def Rp.blI{F:Hp}{b:Bool} (h:Rp K F v (.bl b)):v=.bl b:=by cases h;rfl
noncomputable def VX (g g':D->D->Res D) (x y:D) (z:Res D):Res D:=(YD (g x y)).bind λw=>(UI w).bind λc=>if c=true then z.bind λz=>YD (g' y z) else .ok (.bl false)
def Fn {op op':CmpOp}{g g':D->D->Res D} (ho:Y0 X (compareOp op) (rD X.K g)) (ho':Y0 X (compareOp op') (rD X.K g')) (ha:DE X xq a fa) (hb:DE X xq b fb) (hc:DE X xq c fc)
  (hm:autoParam (lastMarks [op,op'] [b,c]=false) ak._auto_1):DE X xq (.Compare a [op,op'] [b,c] pos) (λρ=>(fa ρ).bind λx=>(fb ρ).bind λy=>VX g g' x y (fc ρ)) :=
 DE.of (xM ho ho' ha.out hb.out hc.out hm) λB F ρ σ H Q R q=>Yd R q λd v F1 H1 s1 R1 p1 q1=>Yd R1 q1 λd2 v2 F2 H2 s2 R2 p2 q2=>by
  refine⟨F2,d,d2,R2.fh,p1.same s2.ff,p2,?_⟩;unfold VX at q2;have q3:=Res.all_bind.mp q2;generalize g d d2=r at q3;cases r with
  | err x=>exact q3
  | bad=>exact q3
  | ok w =>
   obtain⟨k,rfl,q4⟩:=Nw (Res.all_bind.mp (show((UI w).bind _).all _ _ from q3))
   intro v3 F3 H3 s3 p3;refine⟨k,p3.blI,?_⟩;have s03:=(s1.trans s2).trans s3;cases k with
   | false=>exact q4 (.bl false) F3 H3 s03 (.bl false)
   | true=>exact Yd (R2.step s3) q4 λd4 v4 F4 H4 s4 R4 p4 q5=>⟨F4,d2,d4,R4.fh,(p2.same s3.ff).same s4.ff,p4,VM (s03.trans s4) q5⟩
def UB {op} (h:DE X xq a fa):DE X xq (.BoolOp op [a] pos) fa:=⟨MO h.out⟩
def VG (ha:DE X xq a fa) (hb:DE X xq (.BoolOp .And (b::YO) pos) fb):DE X xq (.BoolOp .And (a::b::YO) pos) (λρ=>(fa ρ).bind λx=>(UI x).bind λk=>if k=true then fb ρ else .ok (.bl false)) :=
 DE.of (MJ ha.out hb.out) λB F ρ σ H Q R q=>Yd R q λd v F1 H1 s1 R1 p1 q1=>by
  obtain⟨k,rfl,q2⟩:=Nw (Res.all_bind.mp q1);refine⟨k,p1.blI,?_⟩;cases k with
  | false=>exact q2 _ F1 H1 s1 (.bl false)
  | true=>exact⟨B,F1,ρ,R1,Res.all_mono q2 (λd k v F' H' s p=>k v F' H' (s1.trans s) p) λ_ e=>e⟩
def Ch (ha:DE X xq a fa) (hb:DE X xq (.BoolOp .Or (b::YO) pos) fb):DE X xq (.BoolOp .Or (a::b::YO) pos) (λρ=>(fa ρ).bind λx=>(UI x).bind λk=>if k=true then .ok (.bl true) else fb ρ) :=
 DE.of (Jq ha.out hb.out) λB F ρ σ H Q R q=>Yd R q λd v F1 H1 s1 R1 p1 q1=>by
  obtain⟨k,rfl,q2⟩:=Nw (Res.all_bind.mp q1);refine⟨k,p1.blI,?_⟩;cases k with
  | true=>exact q2 _ F1 H1 s1 (.bl true)
  | false=>exact⟨B,F1,ρ,R1,Res.all_mono q2 (λd k v F' H' s p=>k v F' H' (s1.trans s) p) λ_ e=>e⟩
def RT (ha:DE X xq a fa):DE X xq (.UnaryOp .Not a pos) (λρ=>(fa ρ).bind λx=>(UI x).bind λk=>.ok (.bl (!k))) :=
 DE.of (MN ha.out) λB F ρ σ H Q R q=>Yd R q λd v F1 H1 s1 R1 p1 q1=>by
  obtain⟨k,rfl,q2⟩:=Nw (Res.all_bind.mp q1);exact⟨k,p1.blI,q2 _ F1 H1 s1 (.bl _)⟩
theorem ErrK.frz{x:D} (h:ErrK K xq B ρ σ x):ErrK K xq B (frz ρ) σ x:=λv F' H' R p=>h v F' H' (Po ρ ▸ R) p
def HR (hc:DT X xq c fA) (ha:DE X xq a fa) (hb:DE X xq b fb):DE X xq (.IfExp c a b pos) (λρ=>(fA (frz ρ)).bind λk=>if k=true then fa ρ else fb ρ) :=
 DE.of (xK hc.out ha.out hb.out) λB F ρ σ H Q R q=>⟨B,F,ρ,R,Res.all_mono (Res.all_bind.mp q) (λk q1 H1 s1=>by
  cases k with
  | true=>exact⟨B,F,ρ,R.step s1,Res.all_mono q1 (λd k v F' H' s p=>k v F' H' (s1.trans s) p) λ_ e=>e⟩
  | false=>exact⟨B,F,ρ,R.step s1,Res.all_mono q1 (λd k v F' H' s p=>k v F' H' (s1.trans s) p) λ_ e=>e⟩) λ_ e=>e⟩
def JN{P:Bool->Prop}{F:Hp}{Q:Bool->Hp->Prop} (R:Rel K B ρ σ F H) (h:((fe (frz ρ)).bind UI).all (λb=>∀H',Stp F H F H'->Q b H') (ErrK K xq B ρ σ)) :
  WE K xq fe σ H (λx H'=>∃k,x=.bl k/\Q k H'):=by
 obtain⟨F1,e1,R1⟩:=R.frz;refine⟨B,F1,L2.frz ρ,R1,Res.all_mono (Res.all_bind.mp h) (λd q v F' H' s p=>?_) λ_ e=>e.frz⟩
 obtain⟨k,rfl,q⟩:=Nw q;exact⟨k,p.blI,q H' (Stp.only R.fh s.hh)⟩
def X9 (h:DE X xq e fe) (he:autoParam (∀whole,isTrue e X.env whole=(do let v <- whole;standAt e.pos;holding [v] (truthy v))) af._auto_1):DT X xq e (λρ=>(fe ρ).bind UI) :=
 DT.of (N4 h.out he) λB F ρ σ H Q R q=>JN (P:=λ_=>True) R q
def Xk {op:CmpOp}{g:D->D->Res D} (ho:Y0 X (compareOp op) (rD X.K g)) (ha:DE X xq a fa) (hb:DE X xq b fb) (hm:autoParam (behindInMarks op b=false) aq._auto_1) :
  DT X xq (.Compare a [op] [b] pos) (λρ=>(fa ρ).bind λx=>(fb ρ).bind λy=>(YD (g x y)).bind UI) :=
 DT.of (Qw ho ha.out hb.out hm) λB F ρ σ H Q R q=>by
  obtain⟨F0,e0,R0⟩:=R.frz;have q':=Res.all_mono q (λ_ k=>k) (λx (e:ErrK X.K xq B ρ σ x)=>e.frz)
  refine Yd R0 q' λd v F1 H1 s1 R1 p1 q1=>Yd R1 q1 λd2 v2 F2 H2 s2 R2 p2 q2=>⟨F2,d,d2,R2.fh,p1.same s2.ff,p2,?_⟩
  have q3:=Res.all_bind.mp q2;generalize g d d2=r at q3;cases r with
  | err x=>exact q3
  | bad=>exact q3
  | ok w =>
   obtain⟨k,rfl,q4⟩:=Nw (show(UI w).all _ _ from q3)
   exact λv3 F3 H3 s3 p3=>⟨k,p3.blI,q4 H3 (Stp.only R.fh ((s1.hh.trans s2.hh).trans s3.hh))⟩
def seqT{F:Hp}{g:Bool->Res α}{P:α->Prop}{T:Bool->Hp->Prop} (R:Rel K B ρ σ F H) (h:((fA (frz ρ)).bind g).all P (ErrK K xq B ρ σ))
  (k:∀b H',Stp F H F H'->Rel K B ρ σ F H'->(g b).all P (ErrK K xq B ρ σ)->T b H'):Vt K xq fA σ H T :=
 ⟨B,F,ρ,R,Res.all_mono (Res.all_bind.mp h) (λd h' H' s=>k d H' s (R.step s) h') (λ_ e=>e)⟩
def VQ (ha:DT X xq a fA):DT X xq (.UnaryOp .Not a pos) (λρ=>(fA ρ).bind λk=>.ok (!k)) :=
 DT.of (N3 ha.out) λB F ρ σ H Q R q=>seqT R q λk H1 s1 R1 q1=>q1 H1 s1
def WB (h:DW X xq e fA):DT X xq e fA:=⟨h.out.pt⟩
def Kb (ha:DT X xq a fA):DW X xq (.BoolOp .And [a] pos) fA:=⟨Qy ha.out⟩
def SV (ha:DT X xq a fA):DW X xq (.BoolOp .Or [a] pos) fA:=⟨N8 ha.out⟩
def Kg (ha:DT X xq a fA) (hb:DW X xq (.BoolOp .And (b::YO) pos) fB):DW X xq (.BoolOp .And (a::b::YO) pos) (λρ=>(fA ρ).bind λk=>if k=true then fB ρ else .ok false) :=
 ⟨λwh ZY s σ H Q I z9=>Xt z9 λB F ρ R q=>N7 ha.out hb.out wh ZY s σ H Q I (seqT R q λk H1 s1 R1 q1=>by
  cases k with
  | false=>exact q1 H1 s1
  | true=>exact⟨B,F,ρ,R1,Res.all_mono q1 (λk q H2 s2=>q H2 (s1.trans s2)) λ_ e=>e⟩)⟩
def Tu (ha:DT X xq a fA) (hb:DW X xq (.BoolOp .Or (b::YO) pos) fB):DW X xq (.BoolOp .Or (a::b::YO) pos) (λρ=>(fA ρ).bind λk=>if k=true then .ok true else fB ρ) :=
 ⟨λwh ZY s σ H Q I z9=>Xt z9 λB F ρ R q=>Jt ha.out hb.out wh ZY s σ H Q I (seqT R q λk H1 s1 R1 q1=>by
  cases k with
  | true=>exact q1 H1 s1
  | false=>exact⟨B,F,ρ,R1,Res.all_mono q1 (λk q H2 s2=>q H2 (s1.trans s2)) λ_ e=>e⟩)⟩
def ZU:DA X xq [] (λ_=>.ok []):=⟨λpos ZY s σ H Q I z9=>Xt z9 λB F ρ R q=>R8 pos ZY s σ H Q I (q [] F H (Stp.refl R.fh) .nil),rfl⟩
def ZW (ha:DE X xq e fe) (hr:DA X xq es fs) (hs:autoParam (Zk e=true) aa._auto_1):DA X xq (e::es) (λρ=>(fe ρ).bind λd=>(fs ρ).bind λds=>.ok (d::ds)) :=
 ⟨λpos ZY s σ H Q I z9=>Xt z9 λB F ρ R q=>Ta ha.out hr.out hs pos ZY s σ H Q I (Yd R q λd v F1 H1 s1 R1 p1 q1=>X2 R1 q1 λds vs F2 H2 s2 R2 p2 q2 =>
  q2 (v::vs) F2 H2 (s1.trans s2) (.cons (p1.same s2.ff) p2)),by rw[t9,hs,hr.ns];rfl⟩
noncomputable def QS(ds:List D) (k:Res α):Res α:=if ds.length<=sizeLine then k else .bad
def Hz{k:Res α}{P:α->Prop} (h:(QS ds k).all P E):ds.length<=sizeLine/\k.all P E:=by
 unfold QS at h;by_cases q:ds.length<=sizeLine
 ·rw[if_pos q] at h;exact⟨q,h⟩
 ·rw[if_neg q] at h;exact h.elim
def Z6 {x1} (h:DA X xq es fs):DE X xq (.Tuple es x1 pos) (λρ=>(fs ρ).bind λds=>QS ds (.ok (.tup ds))) :=
 DE.of (MQ h.out) λB F ρ σ H Q R q=>X2 R q λds vs F1 H1 s1 R1 p1 q1=>by
  obtain⟨hz,q2⟩:=Hz q1;exact⟨p1.length ▸ hz,λp n=>q2 _ _ _ (s1.trans (Stp.new R1.fh n)) (.tup (.inl (.inl WN)) (p1.same (Stp.new R1.fh n).ff))⟩
def W6 (h:DA X xq es fs):DE X xq (.List es pos) (λρ=>(fs ρ).bind λds=>QS ds (.ok (.lst ds))) :=
 DE.of (FE h.out) λB F ρ σ H Q R q=>X2 R q λds vs F1 H1 s1 R1 p1 q1=>by
  obtain⟨hz,q2⟩:=Hz q1;exact⟨p1.length ▸ hz,λp n=>q2 _ _ _ (s1.trans (Stp.new R1.fh n)) (.lst (.inl WN) (p1.same (Stp.new R1.fh n).ff))⟩
def Tp (h:DA X xq es fs):DN X xq (.List es pos) (λρ=>(fs ρ).bind λds=>QS ds (.ok (.l ds))) :=
 ⟨λZY s σ H Q I z9=>Xt z9 λB F ρ R q=>FE h.out ZY s σ H Q I (X2 R q λds vs F1 H1 s1 R1 p1 q1=>by
  obtain⟨hz,q2⟩:=Hz q1;refine⟨p1.length ▸ hz,λp n=>q2 p _ F1 _ (s1.trans (Stp.only R1.fh (W5 n))) (R1.fh.free n) (s1.hh.free n) WN (.l p1)⟩)⟩
def DN.de {f:Rho->Res OD} (h:DN X xq e f):DE X xq e (λρ=>(f ρ).bind λo=>.ok o.toD) :=
 ⟨λZY s σ H Q I z9=>Xt z9 λB F ρ R q=>h.out ZY s σ H Q I ⟨B,F,ρ,R,Res.all_mono (Res.all_bind.mp q) (λo q1 a hh F' H' s1 n1 n2 e1 r1=>by
  have s2:Stp F H (Zd F' a hh) H':=⟨s1.ff.trans (W5 n1),λb u x=>by
   unfold Zd at x;by_cases z:b=a
   ·rw[if_pos z] at x;cases x;subst z;exact e1
   ·rw[if_neg z] at x;exact s1.fh b u x,s1.hh,λb x y=>by
   unfold Zd;by_cases z:b=a
   ·subst z;exact absurd n2 y
   ·rw[if_neg z];exact s1.no b x y,Lf r1.nz s1.nz⟩
  exact q1 _ _ _ s2 ((Ro.same (W5 n1) r1).rp WN)) λ_ e=>e⟩⟩
end
inductive Out where
 | nx (ρ:Rho)|rt (d:D)|bk (ρ:Rho)|ct (ρ:Rho)|er (x:D) (ρ:Rho)|bad
namespace Out
def all (o:Out) (N:Rho->Prop) (R:D->Prop) (B C:Rho->Prop) (E:Rho->D->Prop):Prop:=match o with
 | .nx ρ=>N ρ
 | .rt d=>R d
 | .bk ρ=>B ρ
 | .ct ρ=>C ρ
 | .er x ρ=>E ρ x
 | .bad=>False
noncomputable def andThen (o:Out) (f:Rho->Out):Out:=match o with
 | .nx ρ=>f ρ
 | o=>o
@[simp] theorem then_nx (ρ:Rho) (f:Rho->Out):(Out.nx ρ).andThen f=f ρ:=rfl
@[simp] theorem Gm (d:D) (f:Rho->Out):(Out.rt d).andThen f=.rt d:=rfl
@[simp] theorem Gi (ρ:Rho) (f:Rho->Out):(Out.bk ρ).andThen f=.bk ρ:=rfl
@[simp] theorem Gj (ρ:Rho) (f:Rho->Out):(Out.ct ρ).andThen f=.ct ρ:=rfl
@[simp] theorem Gk (x:D) (ρ:Rho) (f:Rho->Out):(Out.er x ρ).andThen f=.er x ρ:=rfl
@[simp] theorem JO (f:Rho->Out):Out.bad.andThen f=.bad:=rfl
end Out
noncomputable def Res.go(r:Res α) (ρ:Rho) (k:α->Out):Out:=match r with
 | .ok a=>k a
 | .err x=>.er x (frz ρ)
 | .bad=>.bad
@[simp] theorem go_ok(a:α) (ρ:Rho) (k:α->Out):(Res.ok a).go ρ k=k a:=rfl
@[simp] theorem Cv(x:D) (ρ:Rho) (k:α->Out):(Res.err x).go ρ k=.er x (frz ρ):=rfl
@[simp] theorem Cu(ρ:Rho) (k:α->Out):Res.bad.go ρ k=.bad:=rfl
def Wy{r:Res α}{k:α->Out}{N:Rho->Prop}{B C:Rho->Prop}{E:Rho->D->Prop} (h:(r.go ρ k).all N R B C E):r.all (λa=>(k a).all N R B C E) (E (frz ρ)):=by
 cases r<;>exact h
def wx{o:Out}{f:Rho->Out}{N:Rho->Prop}{B C:Rho->Prop}{E:Rho->D->Prop} (h:(o.andThen f).all N R B C E):o.all (λρ=>(f ρ).all N R B C E) R B C E:=by
 cases o<;>exact h
structure OkS (K:W.Frag) (xq:XQ) (B:Hp×Hp) (T:Vd) (o:Out):Prop where
 out:o.all (λρ=>∀σ F H,Rel K B ρ σ F H->T.nx σ H) (λd=>∀v F H,Stp B.1 B.2 F H->Rp K F v d->T.rt v H)
  (λρ=>∀σ F H,Rel K B ρ σ F H->T.bk σ H) (λρ=>∀σ F H,Rel K B ρ σ F H->T.ct σ H) (λρ x=>∀v σ F H,Rel K B ρ σ F H->Rp K F v x->xq v σ H)
def Oh (K:W.Frag) (xq:XQ) (f:Rho->Out):TS:=λT σ H=>∃B F ρ,Rel K B ρ σ F H/\OkS K xq B T (f ρ)
structure DS (X:Cx) (xq:XQ) (st:Stmt) (f:Rho->Out):Prop where
 out:PS X st (Oh X.K xq f)
structure DB (X:Cx) (xq:XQ) (sts:List Stmt) (f:Rho->Out):Prop where
 out:PSs X sts (Oh X.K xq f)
def Tk (K:W.Frag) (ix:List Nat) (g:D->Rho->Res Rho):TG:=λv σ H Q=>∃B F ρ d,Rel K B ρ σ F H/\Rp K F v d /\
 (g d ρ).all (λρ'=>∀σ',Rel K B ρ' σ' F H->σ'.length=σ.length->(∀j,j∉ix->σ'[j]?=σ[j]?)->Q σ' H) (λ_=>False)
def Ms (K:W.Frag) (ix:List Nat) (g:List D->Rho->Res Rho):NW:=λvs σ H Q=>∃B F ρ ds,Rel K B ρ σ F H/\Rps K F vs ds /\
 (g ds ρ).all (λρ'=>∀σ',Rel K B ρ' σ' F H->σ'.length=σ.length->(∀j,j∉ix->σ'[j]?=σ[j]?)->Q σ' H) (λ_=>False)
structure DG (X:Cx) (tg:Expr) (ix:List Nat) (g:D->Rho->Res Rho):Prop where
 out:PG X tg (Tk X.K ix g)
structure FT (X:Cx) (tgs:List Expr) (ix:List Nat) (g:List D->Rho->Res Rho):Prop where
 out:Ik X tgs (Ms X.K ix g)
structure Feed (K:W.Frag) (F:Hp) (J:It) (ds:List D):Prop where
 go:∀i H,Same F H->i<ds.length->J.go i H
 yld:∀i F1 H x H' d,Same F F1->Same F1 H->ds[i]?=some d->J.yld i H x H'->∃F',Stp F1 H F' H'/\Rp K F' x d
 stop:∀i H,Same F H->ds.length<=i->J.stop i H
def Of (K:W.Frag) (xq:XQ) (f:Rho->Res (List D)):TI:=λσ H R=>∃B F ρ,Rel K B ρ σ F H /\
 (f ρ).all (λds=>∀J F' H',Stp F H F' H'->Feed K F' J ds->R J H') (ErrK K xq B ρ σ)
structure DI (X:Cx) (xq:XQ) (tg Yg:Expr) (f:Rho->Res (List D)):Prop where
 out:PI X tg Yg (Of X.K xq f)
def Feed.list{F:Hp} (h:Wr K F a xs) (r:Rps K F xs ds):Feed K F (C3 K a) ds where
 go i H e hi:=⟨xs,xs[i]'(r.length ▸ hi),e.seq h,by simp[r.length ▸ hi]⟩
 yld i F1 H x H' d e1 e2 hd y:=by
  obtain⟨rfl,y⟩:=y;obtain⟨v,hv,p⟩:=r.get hd
  have:xs[i]?=some x:=y xs ((e1.trans e2).seq h)
  rw[hv] at this;cases this;exact⟨F1,Stp.refl e2,p.same e1⟩
 stop i H e hi:=⟨xs,e.seq h,r.length ▸ hi⟩
def Feed.tup{F:Hp} (h:UF K F a xs) (r:Rps K F xs ds):Feed K F (C4 K a) ds where
 go i H e hi:=⟨xs,xs[i]'(r.length ▸ hi),e.seqT h,by simp[r.length ▸ hi]⟩
 yld i F1 H x H' d e1 e2 hd y:=by
  obtain⟨rfl,y⟩:=y;obtain⟨v,hv,p⟩:=r.get hd
  have:xs[i]?=some x:=y xs ((e1.trans e2).seqT h)
  rw[hv] at this;cases this;exact⟨F1,Stp.refl e2,p.same e1⟩
 stop i H e hi:=⟨xs,e.seqT h,r.length ▸ hi⟩
def yH:(1:Nat)<=sizeLine:=by decide
noncomputable def WP (z:Str):List D:=z.cps.toList.map λc=>.str ⟨#[c]⟩
theorem Feed.str{F:Hp} (z:Str):Feed K F (Kz z) (WP z) where
 go i H e hi:=by
  show i<z.cps.size;simpa[WP] using hi
 yld i F1 H x H' d e1 e2 hd y:=by
  obtain⟨rfl,c,hc,rfl⟩:=y;have e3:z.cps.toList[i]?=some c:=by simpa using hc
  unfold WP at hd;rw[w6,e3] at hd;cases hd;exact⟨F1,Stp.refl e2,.str (by show(#[c]:Array Nat).size<=sizeLine;exact yH)⟩
 stop i H e hi:=by
  show z.cps.size<=i;simpa[WP] using hi
noncomputable def Y6 (lo:Int) (n:Nat):List D:=(List.range n).map λ(i:Nat)=>.int (lo+(i:Int))
def Feed.rng{F:Hp} (lo:Int) (n:Nat):Feed K F (Ii lo n) (Y6 lo n) where
 go i H e hi:=by
  show i<n;simpa[Y6] using hi
 yld i F1 H x H' d e1 e2 hd y:=by
  obtain⟨rfl,rfl⟩:=y;have hi:i<n:=by
   have:=(x0.mp hd).1
   simpa[Y6] using this
  unfold Y6 at hd;rw[w6,List.getElem?_range hi] at hd;cases hd;exact⟨F1,Stp.refl e2,.int _⟩
 stop i H e hi:=by
  show n<=i;simpa[Y6] using hi
section
variable {f g:Rho->Out}
def DS.of {t:TS} (h:PS X st t) (k:∀B F ρ σ H T,Rel X.K B ρ σ F H->OkS X.K xq B T (f ρ)->t T σ H):DS X xq st f :=
 ⟨λZY s σ H T I z9=>Xt z9 λB F ρ R q=>h ZY s σ H T I (k B F ρ σ H T R q)⟩
def XA:DB X xq [] (λρ=>.nx ρ):=⟨λZY s σ H T I z9=>Xt z9 λB F ρ R q=>EU ZY s σ H T I (q.out σ F H R)⟩
def Zn (h:DS X xq st f):DB X xq [st] f:=⟨Hv h.out⟩
def Zu (h1:DS X xq st f) (h2:DB X xq sts g):DB X xq (st::sts) (λρ=>(f ρ).andThen g) :=
 ⟨λZY s σ H T I z9=>Xt z9 λB F ρ R q=>Hb h1.out h2.out ZY s σ H T I ⟨B,F,ρ,R,⟨by
  have q1:=wx q.out;generalize f ρ=o at q1;cases o with
  | nx ρ1=>exact λσ1 F1 H1 R1=>⟨B,F1,ρ1,R1,⟨q1⟩⟩
  | rt d=>exact q1
  | bk r=>exact q1
  | ct r=>exact q1
  | er x r=>exact q1
  | bad=>exact q1⟩⟩⟩
def XG{x:D} (h:∀v σ F H,Rel K B (frz ρ) σ F H->Rp K F v x->xq v σ H):ErrK K xq B ρ σ x:=λv F H R p=>h v σ F H R p
def YL (he:DE X xq e fe):DS X xq (.Return (some e) pos) (λρ=>(fe (frz ρ)).go ρ λd=>.rt d) :=
 DS.of (FC he.out) λB F ρ σ H T R q=>by
  obtain⟨F1,e1,R1⟩:=R.frz;exact⟨B,F1,frz ρ,R1,Res.all_mono (Wy q.out) (λd q v F' H' s p=>q v F' H' (R1.st.trans s) p) λx q=>(XG q).frz⟩
def Lb (he:DE X xq e fe) (hs:autoParam (swapsWith e none pos.line X.env=pure false) aa._auto_1):DS X xq (.Expr e pos) (λρ=>(fe (frz ρ)).go ρ λ_=>.nx ρ) :=
 DS.of (L7 he.out hs) λB F ρ σ H T R q=>by
  obtain⟨F1,e1,R1⟩:=R.frz;exact⟨B,F1,frz ρ,R1,Res.all_mono (Wy q.out) (λd q v F' H' s p=>q σ F H' (R.step (Stp.only R.fh s.hh))) λx q=>(XG q).frz⟩
def XH {a b:List Stmt} (hc:DT X xq c fT) (ha:DB X xq a f) (hb:DB X xq b g):DS X xq (.If c a b pos) (λρ=>(fT (frz ρ)).go ρ λk=>if k=true then f ρ else g ρ) :=
 DS.of (Sn hc.out ha.out hb.out) λB F ρ σ H T R q=>⟨B,F,ρ,R,Res.all_mono (Wy q.out) (λk q H' s=>by
  cases k with
  | true=>exact⟨B,F,ρ,R.step s,⟨q⟩⟩
  | false=>exact⟨B,F,ρ,R.step s,⟨q⟩⟩) λx q=>XG q⟩
def YU(hN:X.N.Nodup) (he:DE X xq e fe) (hi:autoParam (X.N.findIdx? (λy=>y==x)=some i) aa._auto_1) (hx:autoParam (Loc X.env.scope x) ah._auto_1) (hs:autoParam (swapsWith e (some (.Name x pos')) pos.line X.env=pure false) aa._auto_1)
  (hf:autoParam (X.fn x=true\/X.env.scope.names.lookup x=some .local) ai._auto_1):DS X xq (.Assign [.Name x pos'] e pos) (λρ=>(fe ρ).go ρ λd=>.nx (ρ.set i (some (.val d)))) :=
 DS.of (N1 hN he.out hi hx hs hf) λB F ρ σ H T R q=>⟨B,F,ρ,R,Res.all_mono (Wy q.out) (λd q v F' H' s p=>q _ F' H' ((R.step s).set p)) λx q=>XG q⟩
def Uz{fn:Rho->Res OD} (hN:X.N.Nodup) (he:DN X xq e fn) (hi:autoParam (X.N.findIdx? (λy=>y==x)=some i) aa._auto_1) (hx:autoParam (Loc X.env.scope x) ah._auto_1) (hs:autoParam (swapsWith e (some (.Name x pos')) pos.line X.env=pure false) aa._auto_1)
  (hf:autoParam (X.fn x=true\/X.env.scope.names.lookup x=some .local) ai._auto_1):DS X xq (.Assign [.Name x pos'] e pos) (λρ=>(fn ρ).go ρ λo=>.nx (ρ.set i (some (.own o)))) :=
 DS.of (N1 hN he.out hi hx hs hf) λB F ρ σ H T R q=>⟨B,F,ρ,R,Res.all_mono (Wy q.out) (λo q a h F' H' s n1 n2 e1 r1=>q _ F' H' ((R.step s).setOwn n1 (R.st.hh.free n2) e1 r1 λj u w z=>by
   obtain⟨b,hh,p1,p2,p3,p4,p5⟩:=R.own j u w;rw[p1] at z;cases z;rw[p4] at n2;cases n2)) λx q=>XG q⟩
noncomputable def WQ:D->Bool
 | .non | .bl _ | .int _ | .str _ | .ty _=>true
 | _=>false
noncomputable def V2 (d:D):Res D:=if WQ d=true then .ok d else .bad
def Rp.flat{F:Hp} (h:Rp K F v d) (f:WQ d=true):Rp K F' v d:=by
 cases h<;>first|(cases f;done)|exact .non|exact .bl _|exact .int _|exact .ty _|(exact .str (by assumption))|exact absurd f (by simp[WQ])
theorem DE.flat (h:DE X xq e fe):DE X xq e (λρ=>(fe (frz ρ)).bind V2) :=
 DE.of h.out λB F ρ σ H Q R q=>by
  obtain⟨F1,e1,R1⟩:=R.frz;refine⟨B,F1,frz ρ,R1,Res.all_mono (Res.all_bind.mp q) (λd q v F' H' s p=>?_) λ_ e=>e.frz⟩
  unfold V2 at q;by_cases z:WQ d=true
  ·rw [if_pos z] at q
   exact q v F H' (Stp.only R.fh s.hh) (p.flat z)
  ·rw[if_neg z] at q;exact q.elim
def YT(hN:X.N.Nodup) (hi:autoParam (X.N.findIdx? (λy=>y==x)=some i) aa._auto_1) (hx:autoParam (Loc X.env.scope x) ah._auto_1) (hf:autoParam (X.fn x=true\/X.env.scope.names.lookup x=some .local) ai._auto_1) :
  DG X (.Name x pos) [i] (λd ρ=>.ok (ρ.set i (some (.val d)))) :=
 ⟨λZY s σ H v u Q I rv ⟨B,F,ρ,d,R,p,q⟩=>Js hN hi hx hf ZY s σ H v u Q I rv (q (σ.set i (some v)) (R.set p) (by simp) λj hj=>by
  rw[Va (λz=>hj (by simp[z]))])⟩
def OJ:FT X [] [] (λds ρ=>match ds with | []=>.ok ρ|_=>.bad) :=
 ⟨λZY s σ H vs us Q I rv ⟨B,F,ρ,ds,R,p,q⟩=>Qn ZY s σ H vs us Q I rv (by
  cases p with
  | nil=>exact⟨rfl,q σ R rfl λ_ _=>rfl⟩
  | cons _ _=>exact q.elim)⟩
def U8{jx:List Nat}{g:D->Rho->Res Rho}{gs:List D->Rho->Res Rho} (h1:DG X e ix g) (h2:FT X tgs jx gs) (hs:autoParam ((assignEach (e::tgs) X.env).map (·.2)=assign e X.env::(assignEach tgs X.env).map (·.2)) aa._auto_1) :
  FT X (e::tgs) (ix++jx) (λds ρ=>match ds with|d::r=>(g d ρ).bind (gs r)|_=>.bad) :=
 ⟨λZY s σ H vs us Q I rv ⟨B,F,ρ,ds,R,p,q⟩=>xJ h1.out h2.out hs ZY s σ H vs us Q I rv (by
  cases p with
  | nil=>exact q.elim
  | cons p1 p2 =>
   refine⟨_,_,rfl,B,F,ρ,_,R,p1,Res.all_mono (Res.all_bind.mp q) (λρ1 q1 σ1 R1 l1 k1=>⟨B,F,ρ1,_,R1,p2,Res.all_mono q1 (λρ2 q2 σ2 R2 l2 k2=>q2 σ2 R2 (l2.trans l1) λj hj=>?_) λ_ e=>e⟩) λ_ e=>e⟩
   rw[k2 j λz=>hj (u7 _ z),k1 j λz=>hj (HW _ z)])⟩
noncomputable def yo (n:Nat):D->Res (List D)
 | .tup ds=>if ds.length=n then .ok ds else .bad
 | _=>.bad
def OM{k:Nat}{gs:List D->Rho->Res Rho} (hc:X.calm=true) (h:FT X tgs ix gs) (hn:autoParam ((assignEach tgs X.env).length=n) aa._auto_1) (WY:autoParam ((assignEach tgs X.env).findIdx? (·.1)=none) aa._auto_1) :
  DG X (.Tuple tgs k pos) ix (λd ρ=>(yo n d).bind λds=>gs ds ρ) :=
 ⟨λZY s σ H v u Q I rv ⟨B,F,ρ,d,R,p,q⟩=>MS hc h.out hn WY ZY s σ H v u Q I rv (by
  have q1:=Res.all_bind.mp q;cases p with
  | @tup a xs ds hq hs =>
   unfold yo at q1;dsimp only at q1;by_cases z:ds.length=n
   ·rw [if_pos z] at q1
    exact⟨a,xs,rfl,R.fh.seqT hq,hs.length.trans z,B,F,ρ,ds,R,hs,q1⟩
   ·rw[if_neg z] at q1;exact q1.elim
  | _=>exact q1.elim)⟩
def Stp.rebase{F:Hp} (st:Stp B.1 B.2 F H) (s:Stp F B.2 F' H'):Stp B.1 B.2 F' H' :=
 ⟨st.ff.trans s.ff,s.fh,s.hh,λa n z=>s.no a (st.no a n z) z,λa o u q=>st.nz a o u (s.nz a o u q)⟩
def Rel.rebase{F:Hp} (R:Rel K B ρ σ F H):Rel K (F,B.2) ρ σ F H :=
 ⟨⟨Same.refl F,R.st.fh,R.st.hh,λ_ n _=>n,λ_ _ _ q=>q⟩,R.len,R.val,R.own,R.dis⟩
def Rel.unbase{F:Hp} (st:Stp B.1 B.2 F H) (R:Rel K (F,B.2) ρ σ F' H'):Rel K B ρ σ F' H' :=
 ⟨st.rebase R.st,R.len,R.val,R.own,R.dis⟩
theorem OkS.rebase{F:Hp}{T:Vd}{o:Out} (st:Stp B.1 B.2 F H) (q:OkS K xq B T o):OkS K xq (F,B.2) T o:=⟨by
 have q:=q.out;cases o with
 | nx ρ=>exact λσ F' H' R=>q σ F' H' (R.unbase st)
 | rt d=>exact λv F' H' s p=>q v F' H' (st.rebase s) p
 | bk ρ=>exact λσ F' H' R=>q σ F' H' (R.unbase st)
 | ct ρ=>exact λσ F' H' R=>q σ F' H' (R.unbase st)
 | er x ρ=>exact λv σ F' H' R p=>q v σ F' H' (R.unbase st) p
 | bad=>exact q⟩
noncomputable def Yn (g:D->Rho->Res Rho) (tb:Rho->Out):List D->Rho->Out
 | [],ρ=>.nx ρ
 | d::ds,ρ=>(YD (g d ρ)).go ρ λρ1=>match tb ρ1 with
  | .nx ρ2=>Yn g tb ds ρ2
  | .ct ρ2=>Yn g tb ds ρ2
  | .bk ρ2=>.nx ρ2
  | o=>o
theorem UA{g:D->Rho->Res Rho}{tb:Rho->Out} (hc:X.calm=true) (hi:DI X xq tg Yg fi) (hg:DG X tg ix g) (hb:DB X xq body tb)
  (hp:autoParam (PassesOwn (model X.prog X.w) X.A X.env X.xe) ao._auto_1) (hs:autoParam (∀x,foldedSetIterable Yg X.env x=pure x) af._auto_1) :
  DS X xq (.For tg Yg body [] pos) (λρ=>(fi ρ).go ρ λds=>Yn g tb ds ρ) :=
 DS.of (BW hp hc hi.out hg.out hb.out hs) λB F ρ σ H T R q=>⟨B,F,ρ,R,Res.all_mono (Wy q.out) (λds q J F0 H0 s0 fd=>by
  have R0:=R.step s0;obtain⟨C,hC⟩:∃C:Hp×Hp,C=(F0,B.2):=⟨_,rfl⟩;refine⟨λi m σ' H'=>m=ds.length - i/\i<=ds.length/\∃ρ' F',Rel X.K C ρ' σ' F' H'/\OkS X.K xq C T (Yn g tb (ds.drop i) ρ'),
   ⟨ds.length,rfl,Us _,ρ,F0,hC ▸ R0.rebase,hC ▸ OkS.rebase R0.st ⟨q⟩⟩,?_⟩
  rintro i m σ' H' ⟨rfl,hi,ρ',F',R',q'⟩;have e0:Same F0 F':=by have:=R'.st.ff;rw[hC] at this;exact this
  by_cases WA:i<ds.length
  ·right
   refine⟨fd.go i H' (e0.trans R'.fh) WA,λσ2 H2=>i+1<=ds.length/\∃ρ2 F2,Rel X.K C ρ2 σ2 F2 H2/\OkS X.K xq C T (Yn g tb (ds.drop (i+1)) ρ2),
    λσ2 H2 p=>⟨ds.length - (i+1),by lia,rfl,p.1,p.2⟩,λx H2 y=>?_⟩
   have hd:ds[i]?=some ds[i]:=by simp[WA]
   obtain⟨F2,s2,p2⟩:=fd.yld i F' H' x H2 _ e0 R'.fh hd y;have eqn:ds.drop i=ds[i]::ds.drop (i+1):=by rw[FQ WA]
   rw[eqn] at q';have q2:=Wy q'.out;refine⟨C,F2,ρ',_,R'.step s2,p2,?_⟩;generalize g ds[i] ρ'=r at q2;cases r with
   | err x=>exact q2
   | bad=>exact q2
   | ok ρ1 =>
    intro σ3 R3 l3 k3;refine⟨C,F2,ρ1,R3,⟨?_⟩⟩;have q3:(match tb ρ1 with | .nx ρ2=>Yn g tb (ds.drop (i+1)) ρ2 | .ct ρ2=>Yn g tb (ds.drop (i+1)) ρ2 | .bk ρ2=>.nx ρ2|o=>o).all _ _ _ _ _:=q2
    generalize tb ρ1=o at q3;cases o with
    | nx ρ2=>exact λσ4 F4 H4 R4=>⟨WA,ρ2,F4,R4,⟨q3⟩⟩
    | ct ρ2=>exact λσ4 F4 H4 R4=>⟨WA,ρ2,F4,R4,⟨q3⟩⟩
    | bk ρ2=>exact q3
    | rt d=>exact q3
    | er x r=>exact q3
    | bad=>exact q3
  ·left
   have e:i=ds.length:=by lia
   subst e;rw[List.drop_length] at q';exact⟨fd.stop _ H' (e0.trans R'.fh) (w4 _),q'.out σ' F' H' R'⟩) λx q=>XG q⟩
end
def Inv.lstR(I:Inv X ZY σ H s) (h:Rd H l (.lst xs)) :
  xs.length<=sizeLine/\∃(ZO:List Value) (n:Nat),Vals xs ZO/\xs.length=ZO.length/\s.heap.get? l=some { cls:=.type "list",data:=.seq ZO.toArray n }:=by
 obtain⟨z,ZO,n,r,e⟩:=h.ok I.hok;exact⟨z,ZO,n,r,r.length,e⟩
def Jv:R2:=λx y H Q=>∃l b xs zs,x=.ref l/\y=.ref b/\Rd H l (.lst xs)/\Rd H b (.lst zs)/\xs.length+zs.length<=sizeLine/\∀p,H p=none->Q (.ref p) (Zd H p (.lst (xs++zs)))
def B9:Y0 X (binaryOp .Add) Jv:=by
 intro ZY s σ H x y v u Q I rx ry h;obtain⟨l,b,xs,zs,rfl,rfl,hH,hB,hz,q⟩:=h;cases rx;cases ry;obtain⟨z,ZO,n,r,hl,e⟩:=I.lstR hH;obtain⟨z2,its2,n2,r2,hl2,e2⟩:=I.lstR hB;refine PySem.P.add_list e e2 ?_ (by rw[w5,w5,<- hl,<- hl2];exact hz)
 rw[show ZO.toArray++its2.toArray=(ZO++its2).toArray by simp]
 exact⟨.ref _,_,I.lnew (t':=s.toks) (r.append r2) (by rw[t5];exact hz),rfl,q _ I.fresh⟩
noncomputable def gd(c:Prop) [Decidable c] (r:Res α):Res α:=if c then r else .bad
def SC{c:Prop} [Decidable c] {r:Res α}{P:α->Prop} (h:(gd c r).all P E):c/\r.all P E:=by
 unfold gd at h;by_cases q:c
 ·rw[if_pos q] at h;exact⟨q,h⟩
 ·rw[if_neg q] at h;exact h.elim
@[simp] theorem Wx{c:Prop} [Decidable c] {r:Res α} (h:c):gd c r=r:=if_pos h
noncomputable def VD:D->D->Res D
 | .int i,.int j=>.ok (.int (i+j))
 | .str x,.str y=>gd (x.length+y.length<=sizeLine) (.ok (.str (x++y)))
 | .lst xs,.lst ys=>gd (xs.length+ys.length<=sizeLine) (.ok (.lst (xs++ys)))
 | _,_=>.bad
def sQ (x y:Str):(x++y).length=x.length+y.length:=by
 show(x.cps++y.cps).size=_;rw[Array.size_append];rfl
def Ww:Y0 X (binaryOp .Add) (rD X.K VD):=by
 intro ZY s σ H x y v u Q I rx ry z982;obtain⟨F,dx,dy,fh,px,py,q⟩:=z982;cases px with
 | int i =>
  cases py with
  | int j=>exact MA ZY s σ H _ _ v u Q I rx ry ⟨i,j,rfl,rfl,q _ F H (Stp.refl fh) (.int _)⟩
  | _=>exact q.elim
 | str hx =>
  cases py with
  | str hy =>
   obtain⟨hz,q⟩:=SC q;exact vy ZY s σ H _ _ v u Q I rx ry ⟨_,_,rfl,rfl,hz,q _ F H (Stp.refl fh) (.str (by rw[sQ];exact hz))⟩
  | _=>exact q.elim
 | lst hx rx' =>
  cases py with
  | lst hy ry' =>
   obtain⟨hz,q⟩:=SC q;exact B9 ZY s σ H _ _ v u Q I rx ry ⟨_,_,_,_,rfl,rfl,hx.same fh,hy.same fh,by rw[rx'.length,ry'.length];exact hz,λp n =>
    q _ _ _ (Stp.new fh n) (.lst (.inl WN) ((rx'.append ry').same (Stp.new fh n).ff))⟩
  | _=>exact q.elim
 | _=>exact q.elim
noncomputable def dI (C:Int->Int->Prop) [∀i j,Decidable (C i j)] (g:Int->Int->D):D->D->Res D
 | .int i,.int j=>gd (C i j) (.ok (g i j))
 | _,_=>.bad
def HP {f:Value->Value->Sem Value}{C:Int->Int->Prop} [∀i j,Decidable (C i j)] {g:Int->Int->V}{g':Int->Int->D} (h:Y0 X f (rI C g)) (hg:∀F i j,Rp X.K F (g i j) (g' i j)):Y0 X f (rD X.K (dI C g')):=by
 intro ZY s σ H x y v u Q I rx ry z983;obtain⟨F,dx,dy,fh,px,py,q⟩:=z983;cases px with
 | int i =>
  cases py with
  | int j =>
   obtain⟨hz,q⟩:=SC q;exact h ZY s σ H _ _ v u Q I rx ry ⟨i,j,rfl,rfl,hz,q _ F H (Stp.refl fh) (hg F i j)⟩
  | _=>exact q.elim
 | _=>exact q.elim
noncomputable def LL (g:Int->Int->D):D->D->Res D
 | .int i,.int j=>.ok (g i j)
 | _,_=>.bad
def Ke {f:Value->Value->Sem Value}{g:Int->Int->V}{g':Int->Int->D} (h:Y0 X f (QA g)) (hg:∀F i j,Rp X.K F (g i j) (g' i j)):Y0 X f (rD X.K (LL g')):=by
 intro ZY s σ H x y v u Q I rx ry z984;obtain⟨F,dx,dy,fh,px,py,q⟩:=z984;cases px with
 | int i =>
  cases py with
  | int j=>exact h ZY s σ H _ _ v u Q I rx ry ⟨i,j,rfl,rfl,q _ F H (Stp.refl fh) (hg F i j)⟩
  | _=>exact q.elim
 | _=>exact q.elim
noncomputable instance (i j:Int):Decidable (CMul i j):=by unfold CMul;infer_instance
noncomputable instance (i j:Int):Decidable (VL i j):=by unfold VL;infer_instance
noncomputable instance (i j:Int):Decidable (Tx i j):=by unfold Tx;infer_instance
noncomputable abbrev RS:=LL λi j=>.int (i - j)
noncomputable abbrev Vl:=dI CMul λi j=>.int (i*j)
noncomputable abbrev Vg:=dI VL λi j=>.int (i / j)
noncomputable abbrev Xg:=dI (λ_ j=>0<j) λi j=>.int (i%j)
noncomputable abbrev Pb:=dI Tx λi j=>.int (i^j.toNat)
noncomputable abbrev rJ:=LL λi j=>.bl (decide (i<j))
noncomputable abbrev rH:=LL λi j=>.bl (decide (i<=j))
noncomputable abbrev rG:=LL λi j=>.bl (decide (j<i))
noncomputable abbrev rF:=LL λi j=>.bl (decide (j<=i))
def Nz:Y0 X (binaryOp .Sub) (rD X.K RS):=Ke MI λ_ _ _=>.int _
def Ra:Y0 X (binaryOp .Mult) (rD X.K Vl):=HP ME λ_ _ _=>.int _
def ON:Y0 X (binaryOp .FloorDiv) (rD X.K Vg):=HP xO λ_ _ _=>.int _
def UW:Y0 X (binaryOp .Mod) (rD X.K Xg):=HP MD λ_ _ _=>.int _
def HN:Y0 X (binaryOp .Pow) (rD X.K Pb):=HP MH λ_ _ _=>.int _
def Uk:Y0 X (compareOp .Lt) (rD X.K rJ):=Ke Jn λ_ _ _=>.bl _
def Uj:Y0 X (compareOp .LtE) (rD X.K rH):=Ke Jm λ_ _ _=>.bl _
def Ui:Y0 X (compareOp .Gt) (rD X.K rG):=Ke Jl λ_ _ _=>.bl _
def Q5:Y0 X (compareOp .GtE) (rD X.K rF):=Ke Jk λ_ _ _=>.bl _
noncomputable def isN:D->Bool
 | .non=>true
 | _=>false
noncomputable def IM:D->D->Res D
 | d,.non=>.ok (.bl (isN d))
 | _,_=>.bad
noncomputable def RQ:D->D->Res D
 | d,.non=>.ok (.bl (!isN d))
 | _,_=>.bad
theorem Rp.isN{F:Hp} (h:Rp K F v d):decide (v=.non)=L2.isN d:=by
 cases h<;>first|rfl|exact ZE λe=>nomatch e
def Q6:Y0 X (compareOp .Is) (rD X.K IM):=by
 intro ZY s σ H x y v u Q I rx ry z985;obtain⟨F,dx,dy,fh,px,py,q⟩:=z985;cases py with
 | non =>
  have q':∀v F' H',Stp F H F' H'->Rp X.K F' v (.bl (isN dx))->Q v H':=q;exact MC ZY s σ H _ _ v u Q I rx ry ⟨rfl,q' _ F H (Stp.refl fh) (by rw[px.isN];exact .bl _)⟩
 | _=>exact q.elim
def Q7:Y0 X (compareOp .IsNot) (rD X.K RQ):=by
 intro ZY s σ H x y v u Q I rx ry z986;obtain⟨F,dx,dy,fh,px,py,q⟩:=z986;cases py with
 | non =>
  have q':∀v F' H',Stp F H F' H'->Rp X.K F' v (.bl (!isN dx))->Q v H':=q;exact Qb ZY s σ H _ _ v u Q I rx ry ⟨rfl,q' _ F H (Stp.refl fh) (by rw[px.isN];exact .bl _)⟩
 | _=>exact q.elim
mutual
noncomputable def D.py:D->Option PyData
 | .non=>some .none
 | .bl b=>some (.bool b)
 | .int i=>some (.int i)
 | .str z=>some (.str z)
 | .lst ds=>(D.pys ds).map .list
 | .tup ds=>(D.pys ds).map .tuple
 | _=>none
noncomputable def D.pys:List D->Option (List PyData)
 | []=>some []
 | d::ds=>match D.py d,D.pys ds with
  | some a,some as=>some (a::as)
  | _,_=>none
end
mutual
theorem Rp.rd {K:W.Frag}{H:Hp}:∀{v:V}{d:D}{a:PyData},Rp K H v d->d.py=some a->RdV K H v a
 | _,_,_,.non,e=>by simp only[D.py] at e;cases e;exact .non
 | _,_,_,.bl b,e=>by simp only[D.py] at e;cases e;exact .bl b
 | _,_,_,.int i,e=>by simp only[D.py] at e;cases e;exact .int i
 | _,_,_,.str _,e=>by simp only[D.py] at e;cases e;exact .str _
 | _,_,_,.ty _,e=>by simp only[D.py] at e;cases e
 | _,_,_,.lst (ds:=ds) hq hs,e=>by
  simp only[D.py] at e;cases q:D.pys ds with
  | none=>rw[q] at e;cases e
  | some as=>rw[q] at e;cases e;exact .lst (.inl hq) (Rps.rd hs q)
 | _,_,_,.tup (ds:=ds) hq hs,e=>by
  simp only[D.py] at e;cases q:D.pys ds with
  | none=>rw[q] at e;cases e
  | some as=>rw[q] at e;cases e;exact .tup hq (Rps.rd hs q)
 | _,_,_,.dK _ _,e=>by simp only[D.py] at e;cases e
 | _,_,_,.ins _ _,e=>by simp only[D.py] at e;cases e
 | _,_,_,.exc _ _ _,e=>by simp only[D.py] at e;cases e
 | _,_,_,.dn _ _,e=>by simp only[D.py] at e;cases e
 | _,_,_,.hdl _,e=>by simp only[D.py] at e;cases e
theorem Rps.rd {K:W.Frag}{H:Hp}:∀{vs:List V}{ds:List D}{as:List PyData},Rps K H vs ds->D.pys ds=some as->RdVs K H vs as
 | _,_,_,.nil,e=>by simp only[D.pys] at e;cases e;exact .nil
 | _,_,_,.cons (d:=d) (ds:=ds) h hs,e=>by
  simp only[D.pys] at e;cases q:d.py with
  | none=>rw[q] at e;cases e
  | some a =>
   cases q2:D.pys ds with
   | none=>rw[q,q2] at e;cases e
   | some as=>rw[q,q2] at e;cases e;exact .cons (Rp.rd h q) (Rps.rd hs q2)
end
noncomputable def Y2 (d:D):Res PyData:=match d.py with
 | some a=>gd (SeqAt.shaped a=true) (.ok a)
 | none=>.bad
set_option tactic.hygienic true in
def Ld{P:PyData->Prop} (h:(Y2 d).all P E):∃a,d.py=some a/\SeqAt.shaped a=true/\P a:=by
 unfold Y2 at h;split at h
 ·rename_i a q;obtain⟨hz,h⟩:=SC h;exact⟨a,q,hz,h⟩
 ·exact h.elim
noncomputable def V1 (x y:D):Res D:=(Y2 x).bind λa=>(Y2 y).bind λb=>.ok (.bl (PyData.eqv a b))
noncomputable def Pa (x y:D):Res D:=(Y2 x).bind λa=>(Y2 y).bind λb=>.ok (.bl (!PyData.eqv a b))
def Xq (hu:X.A.units+64<cLine):Y0 X (compareOp .Eq) (rD X.K V1):=by
 intro ZY s σ H x y v u Q I rx ry z987;obtain⟨F,dx,dy,fh,px,py,q⟩:=z987;obtain⟨a,ea,sa,q⟩:=Ld (Res.all_bind.mp q);obtain⟨b,eb,sb,q⟩:=Ld (Res.all_bind.mp q);exact MB hu ZY s σ H _ _ v u Q I rx ry ⟨a,b,(px.rd ea).same fh,(py.rd eb).same fh,sa,sb,q _ F H (Stp.refl fh) (.bl _)⟩
def UP (hu:X.A.units+64<cLine):Y0 X (compareOp .NotEq) (rD X.K Pa):=by
 intro ZY s σ H x y v u Q I rx ry z988;obtain⟨F,dx,dy,fh,px,py,q⟩:=z988;obtain⟨a,ea,sa,q⟩:=Ld (Res.all_bind.mp q);obtain⟨b,eb,sb,q⟩:=Ld (Res.all_bind.mp q);exact MF hu ZY s σ H _ _ v u Q I rx ry ⟨a,b,(px.rd ea).same fh,(py.rd eb).same fh,sa,sb,q _ F H (Stp.refl fh) (.bl _)⟩
noncomputable def Xi:D->D->Res D
 | .lst ds,.int i=>match VA ds i with
  | some d=>.ok d
  | none=>.bad
 | .tup ds,.int i=>match VA ds i with
  | some d=>.ok d
  | none=>.bad
 | .str z,.int i=>match VA z.cps.toList i with
  | some c=>.ok (.str ⟨#[c]⟩)
  | none=>.bad
 | _,_=>.bad
def BI{F:Hp}{i:Int} (r:Rps K F xs ds) (h:VA ds i=some d):∃v,VA xs i=some v/\Rp K F v d:=by
 unfold VA at h |-
 rw[r.length];cases q:T7 ds.length i with
 | none=>rw[q] at h;cases h
 | some j=>rw[q] at h;exact r.get h
def CD{o:Option α}{f:α->D}{P:D->Prop} (q:r.all P E) (e:r=match o with|some d=>Res.ok (f d)|none=>.bad):∃d,o=some d/\P (f d):=by
 subst e;cases o with
 | none=>exact q.elim
 | some d=>exact⟨d,rfl,q⟩
set_option tactic.hygienic true in
def ZD:Ly X (rD X.K Xi):=by
 intro value slice ZY s σ H x y v u Q I rx ry z989 hsub;obtain⟨F,dx,dy,fh,px,py,q⟩:=z989;cases px with
 | lst hx rs =>
  rename_i ds;cases py with
  | int i =>
   obtain⟨d,e,q⟩:=CD (o:=VA ds i) (f:=λd=>d) q (by rw[Xi];cases VA ds i<;>rfl)
   obtain⟨w,h1,h2⟩:=BI rs e;exact PM value slice ZY s σ H _ _ v u Q I rx ry ⟨_,_,i,w,rfl,rfl,.inl (hx.same fh),h1,q _ F H (Stp.refl fh) h2⟩ hsub
  | _=>exact q.elim
 | tup hx rs =>
  rename_i ds;cases py with
  | int i =>
   obtain⟨d,e,q⟩:=CD (o:=VA ds i) (f:=λd=>d) q (by rw[Xi];cases VA ds i<;>rfl)
   obtain⟨w,h1,h2⟩:=BI rs e;exact Ml value slice ZY s σ H _ _ v u Q I rx ry ⟨_,_,i,w,rfl,rfl,fh.seqT hx,h1,q _ F H (Stp.refl fh) h2⟩ hsub
  | _=>exact q.elim
 | str hz =>
  rename_i z;cases py with
  | int i =>
   obtain⟨c,e,q⟩:=CD (o:=VA z.cps.toList i) (f:=λc=>.str ⟨#[c]⟩) q (by rw[Xi];cases VA z.cps.toList i<;>rfl)
   exact Mj value slice ZY s σ H _ _ v u Q I rx ry ⟨_,i,c,rfl,rfl,hz,e,q _ F H (Stp.refl fh) (.str yH)⟩ hsub
  | _=>exact q.elim
 | _=>exact q.elim
noncomputable def items:D->Res (List D)
 | .lst ds=>.ok ds
 | .tup ds=>.ok ds
 | .str z=>.ok (WP z)
 | _=>.bad
section
variable {l:Expr}
def VS (hl:DE X xq l fl):DI X xq tg l (λρ=>(fl ρ).bind items):=⟨λZY s σ H R I z9=>Xt z9 λB F ρ R' q=>by
 have q0:=Res.all_bind.mp q;cases e:fl ρ with
 | bad=>rw[e] at q0;exact q0.elim
 | err x =>
  rw[e] at q0;exact EV hl.out ZY s σ H R I ⟨B,F,ρ,R',by rw[e];exact q0⟩
 | ok d =>
  rw[e] at q0;have go:∀{T:VK},(∀v F' H',Stp F H F' H'->Rp X.K F' v d->T v H')->WE X.K xq fl σ H T:=λk=>⟨B,F,ρ,R',by rw[e];exact k⟩
  cases d with
  | lst ds =>
   refine EV hl.out ZY s σ H R I (go λv F' H' st p=>?_)
   cases p with
   | lst hq hs=>exact⟨_,rfl,⟨_,.inl (hq.same st.fh)⟩,q0 _ F' H' st (Feed.list (.inl hq) hs)⟩
  | tup ds =>
   refine MU hl.out ZY s σ H R I (go λv F' H' st p=>?_)
   cases p with
   | tup hq hs=>exact⟨_,rfl,⟨_,st.fh.seqT hq⟩,q0 _ F' H' st (Feed.tup hq hs)⟩
  | str z =>
   refine MT hl.out ZY s σ H R I (go λv F' H' st p=>?_)
   cases p with
   | str hz=>exact⟨z,rfl,q0 _ F' H' st (Feed.str z)⟩
  | _=>exact q0.elim⟩
noncomputable def TN:List D->Res (List D)
 | [.int j]=>gd (-(2^62)<=j/\j<2^62) (.ok (Y6 0 j.toNat))
 | _=>.bad
noncomputable def Na:List D->Res (List D)
 | [.int i,.int j]=>gd (-(2^62)<=i/\i<2^62/\-(2^62)<=j/\j<2^62) (.ok (Y6 i (j - i).toNat))
 | _=>.bad
def Wm{F:Hp} (h:Rps K F vs [d]):∃v,vs=[v]/\Rp K F v d:=by
 cases h with
 | cons h hs=>cases hs;exact⟨_,rfl,h⟩
def TR{F:Hp}{e:D} (h:Rps K F vs [d,e]):∃v w,vs=[v,w]/\Rp K F v d/\Rp K F w e:=by
 cases h with
 | cons h hs=>obtain⟨w,rfl,q⟩:=Wm hs;exact⟨_,w,rfl,h,q⟩
set_option tactic.hygienic true in
def L3 {a:Expr} (hm:X.mg "range"=none) (ha:DA X xq [a] fa) (hg:autoParam (Gl X "range") aa._auto_1):DI X xq tg (.Call (.Name "range" p) [a] [] pos) (λρ=>(fa ρ).bind TN) :=
 ⟨λZY s σ H R I z9=>Xt z9 λB F ρ R' q=>we hg hm ha.out (Vi (Wh ha.ns).1) ZY s σ H R I (X2 R' q λds vs F1 H1 s1 R1 p1 q1=>by
  unfold TN at q1;split at q1
  ·rename_i j
   obtain⟨⟨h1,h2⟩,q2⟩:=SC q1;obtain⟨v,rfl,pv⟩:=Wm p1;cases pv;exact⟨j,rfl,h1,h2,q2 _ F1 H1 s1 (Feed.rng 0 _)⟩
  ·exact q1.elim)⟩
set_option tactic.hygienic true in
def wQ{a:Expr} (hm:X.mg "range"=none) (ha:DA X xq [a,b] fa) (hg:autoParam (Gl X "range") aa._auto_1):DI X xq tg (.Call (.Name "range" p) [a,b] [] pos) (λρ=>(fa ρ).bind Na) :=
 ⟨λZY s σ H R I z9=>Xt z9 λB F ρ R' q=>wc hg hm ha.out (by rw[Vi (Wh ha.ns).1,Vi (Wh (Wh ha.ns).2).1];rfl) (Vi (Wh (Wh ha.ns).2).1) ZY s σ H R I (X2 R' q λds vs F1 H1 s1 R1 p1 q1=>by
  unfold Na at q1;split at q1
  ·rename_i i j
   obtain⟨⟨h1,h2,h3,h4⟩,q2⟩:=SC q1;obtain⟨v,w,rfl,pv,pw⟩:=TR p1;cases pv;cases pw;exact⟨i,j,rfl,⟨h1,h2,h3,h4⟩,q2 _ F1 H1 s1 (Feed.rng i _)⟩
  ·exact q1.elim)⟩
noncomputable def Vn (ds:List D):List D:=ds.zipIdx.map λp=>.tup [.int (p.2:Nat),p.1]
def Feed.enum{F:Hp} (h:Wr K F a xs) (r:Rps K F xs ds):Feed K F (FV K a) (Vn ds) where
 go i H e hi:=by
  have hi':i<xs.length:=by rw[r.length];simpa[Vn] using hi
  exact⟨xs,xs[i],e.seq h,by simp[hi']⟩
 yld i F1 H x H' d e1 e2 hd y:=by
  obtain⟨p,v,hp,rfl,rfl,y⟩:=y;have hv:xs[i]?=some v:=y xs ((e1.trans e2).seq h);have hd2:∃d0,ds[i]?=some d0/\d=.tup [.int (i:Nat),d0]:=by
   unfold Vn at hd;rw[w6,List.getElem?_zipIdx] at hd;cases q:ds[i]? with
   | none=>rw[q] at hd;cases hd
   | some d0=>rw[q] at hd;simp at hd;exact⟨d0,rfl,hd.symm⟩
  obtain⟨d0,q0,rfl⟩:=hd2;obtain⟨w,hw,pw⟩:=r.get q0;rw[hv] at hw;cases hw;have s:=Stp.new (o:=.tup [.int (i:Nat),v]) e2 hp;exact⟨_,s,.tup (.inl (.inl WN)) (.cons (.int _) (.cons (pw.same (e1.trans s.ff)) .nil))⟩
 stop i H e hi:=⟨xs,e.seq h,by rw[r.length];simpa[Vn] using hi⟩
noncomputable def O4:List D->Res (List D)
 | [.lst ds]=>.ok (Vn ds)
 | _=>.bad
def Bl{k:Nat}{tp:Pos}{a:Expr} (hm:X.mg "enumerate"=none) (ha:DA X xq [a] fa) (hg:autoParam (Gl X "enumerate") aa._auto_1):DI X xq (.Tuple es k tp) (.Call (.Name "enumerate" p) [a] [] pos) (λρ=>(fa ρ).bind O4) :=
 ⟨λZY s σ H R I z9=>Xt z9 λB F ρ R' q=>Qo hg hm ha.out (Vi (Wh ha.ns).1) ZY s σ H R I (X2 R' q λds vs F1 H1 s1 R1 p1 q1=>by
  unfold O4 at q1;split at q1
  ·obtain ⟨v,rfl,pv⟩:=Wm p1
   cases pv with
   | lst hq hs=>exact⟨_,_,rfl,.inl (hq.same R1.fh),q1 _ F1 H1 s1 (Feed.enum (.inl hq) hs)⟩
  ·exact q1.elim)⟩
end
noncomputable def Xs (k:Nat) (ZN:List Nat) (ρ:Rho):Rho:=List.replicate k none++ZN.map λj=>(ρ[j]?).join
set_option tactic.hygienic true in
theorem T2{k:Nat}{l:List (Option α)}{x:α} (h:(List.replicate k none++ZN.map λj=>(l[j]?).join)[i]?=some (some x)):k<=i/\∃j,ZN[i - k]?=some j/\l[j]?=some (some x):=by
 rw[Ls] at h;split at h
 ·rename_i q
  rw[t8] at h;split at h<;>simp at h
 ·rename_i q
  simp only[Lq] at h q;refine⟨by lia,?_⟩
  rw[w6] at h;cases e:ZN[i - k]? with
  | none=>rw[e] at h;cases h
  | some j =>
   rw[e] at h;refine⟨j,rfl,?_⟩;simp only[Option.map_some,Option.some.injEq] at h;cases e2:l[j]? with
   | none=>rw[e2] at h;cases h
   | some y=>rw[e2] at h;simpa using h
def yp{k:Nat}{l:List (Option α)} (hi:k<=i) (h:ZN[i - k]?=some j):(List.replicate k none++ZN.map λj=>(l[j]?).join)[i]?=some ((l[j]?).join):=by
 rw[NI (by simpa using hi),Lq,w6,h];rfl
theorem Rel.comp{F:Hp}{k:Nat} (R:Rel K B ρ σ F H) (nd:ZN.Nodup):Rel K B (Xs k ZN ρ) (stC k ZN σ) F H where
 st:=R.st
 len:=by unfold stC Xs;simp
 val i d e:=by
  obtain⟨hi,j,h1,h2⟩:=T2 e;obtain⟨v,q1,q2⟩:=R.val j d h2;exact⟨v,by unfold stC;rw[yp hi h1,q1];rfl,q2⟩
 own i o e:=by
  obtain⟨hi,j,h1,h2⟩:=T2 e;obtain⟨a,h,q1,q2⟩:=R.own j o h2;exact⟨a,h,by unfold stC;rw[yp hi h1,q1];rfl,q2⟩
 dis i i' o u a e e' x y:=by
  obtain⟨hi,j,h1,h2⟩:=T2 e;obtain⟨hi',j',h1',h2'⟩:=T2 e';obtain⟨_,jx,g1,g2⟩:=T2 (l:=σ) x;obtain⟨_,jy,g1',g2'⟩:=T2 (l:=σ) y;rw[h1] at g1;cases g1;rw[h1'] at g1';cases g1';have ej:=R.dis j j' o u a h2 h2' g2 g2';subst ej
  have:=(List.getElem?_inj (x0.mp h1).1 nd).mp (h1.trans h1'.symm)
  lia
noncomputable def YH (g:D->Rho->Res Rho) (fT:Rho->Res Bool) (fe:Rho->Res D) (ρ:Rho):List D->Res (List D)
 | []=>.ok []
 | d::ds=>(YD (g d ρ)).bind λρ1=>(YD (fT (frz ρ1))).bind λb=>if b=true then (YD (fe ρ1)).bind λy=>(YH g fT fe ρ ds).bind λys=>.ok (y::ys) else YH g fT fe ρ ds
def XW:XQ:=λ_ _ _=>False
structure DF (X:Cx) (xq:XQ) (es:List Expr) (f:Rho->Res Bool):Prop where
 out:KB X es (Vt X.K xq f)
def R7{r:Res α}{P:α->Prop}{E':D->Prop} (h:(YD r).all P E):r.all P E':=by
 cases r with
 | ok a=>exact h
 | err x=>exact h.elim
 | bad=>exact h.elim
section
variable {g:D->Rho->Res Rho}
def Tq:DF X xq [] (λ_=>.ok true):=⟨λZY s σ H Q I z9=>Xt z9 λB F ρ R q=>Qp ZY s σ H Q I (q H (Stp.refl R.fh))⟩
def HE (h:DT X xq c fA):DF X xq [c] fA:=⟨Qq h.out⟩
theorem zt{k:Nat} (nd:ZN.Nodup) (hix:∀j∈ix,j<k) {Q:VK} (h:Og K xq (λρ=>(fi ρ).bind λds=>gd (ds.length<=sizeLine) ((YH g fA fe (Xs k ZN ρ) ds).bind λys=>.ok (.l ys))) σ H Q) :
  Sv k ZN (Of K xq fi) (Tk K ix g) (Vt K XW fA) (WE K XW fe) σ H Q:=by
 obtain⟨B,F,ρ,R,q⟩:=h;exact
  ⟨B,F,ρ,R,Res.all_mono (Res.all_bind.mp q) (λds q1 J F0 H0 s0 fd=>by
   obtain⟨hz,q1⟩:=SC q1
   let T:List D->Prop:=λys=>∀a h F' H',Stp F H F' H'->F' a=none->H a=none->H' a=some h->Ro K F' a h (.l ys)->Q (.ref a) H'
   have q2:(YH g fA fe (Xs k ZN ρ) ds).all T (ErrK K xq B ρ σ):=Res.all_mono (Res.all_bind.mp q1) (λ_ z=>z) λ_ z=>z
   clear q1;refine⟨λi m ys H'=>m=ds.length - i/\i<=ds.length/\∃F' es,Stp F H F' H'/\Same F0 F'/\Rps K F' ys es/\es.length<=i/\(YH g fA fe (Xs k ZN ρ) (ds.drop i)).all (λr=>T (es++r)) (ErrK K xq B ρ σ),
    ⟨ds.length,rfl,Us _,F0,[],s0,Same.refl _,.nil,w4 _,q2⟩,?_⟩
   rintro i m ys H' ⟨rfl,hi',F',es,st,e0,rs,hl,q3⟩;refine⟨by rw[rs.length];lia,?_⟩
   by_cases WA:i<ds.length
   ·right
    refine⟨fd.go i H' (e0.trans st.fh) WA,λys' H2=>i+1<=ds.length/\∃F2 es',Stp F H F2 H2/\Same F0 F2/\Rps K F2 ys' es'/\es'.length<=i+1/\(YH g fA fe (Xs k ZN ρ) (ds.drop (i+1))).all (λr=>T (es'++r)) (ErrK K xq B ρ σ),
     λys' H2 p=>⟨ds.length - (i+1),by lia,rfl,p.1,p.2⟩,λx H2 y=>?_⟩
    have hd:ds[i]?=some ds[i]:=by simp[WA]
    obtain⟨F2,s2,p2⟩:=fd.yld i F' H' x H2 _ e0 st.fh hd y;rw[FQ WA] at q3;have R2:Rel K B (Xs k ZN ρ) (stC k ZN σ) F2 H2:=((R.step st).step s2).comp nd;have q4:=Res.all_bind.mp (show((YD (g ds[i] (Xs k ZN ρ))).bind _).all _ _ from q3)
    refine⟨B,F2,_,_,R2,p2,R7 (Res.all_mono q4 (λρ1 q5 σ3 R3 l3 k3=>⟨?_,?_⟩) λ_ z=>z)⟩
    ·apply Xb
     intro j;rw[List.getElem?_drop,k3 (k+j) λz=>by have:=hix _ z;lia]
     unfold stC;rw[NI (by simp),Lq,Nat.add_sub_cancel_left]
    ·refine ⟨B,F2,ρ1,R3,R7 (Res.all_mono (Res.all_bind.mp q5) (fun b q6 H3 s3=>?_) fun _ z=>z)⟩
     have R4:=R3.step s3;cases b with
     | false=>exact⟨WA,F2,es,(st.trans s2).trans s3,e0.trans s2.ff,rs.same s2.ff,by lia,q6⟩
     | true =>
      refine⟨B,F2,ρ1,R4,R7 (Res.all_mono (Res.all_bind.mp (show((YD (fe ρ1)).bind _).all _ _ from q6)) (λd q7 v F4 H4 s4 p4=>?_) λ_ z=>z)⟩
      refine⟨WA,F4,es++[d],((st.trans s2).trans s3).trans s4,(e0.trans s2.ff).trans s4.ff,((rs.same s2.ff).same s4.ff).append (.cons p4 .nil),by simp;lia,?_⟩
      exact Res.all_mono (Res.all_bind.mp q7) (λr z=>by
       have z':T (es++d::r):=z;simpa using z') λ_ z=>z
   ·left
    have e:i=ds.length:=by lia
    subst e;rw[List.drop_length] at q3;have q4:T es:=by simpa using(show T (es++[]) from q3)
    exact⟨fd.stop _ H' (e0.trans st.fh) (w4 _),λp n=>q4 p _ F' _ (st.trans (Stp.only st.fh (W5 n))) (st.fh.free n) (st.hh.free n) WN (.l rs)⟩) λ_ e=>e⟩
def Tt (own:List Str) (ZN:List Nat) (hc:X.calm=true) (ok:X6 X.env.scope X.N own ZN scope) (hi:DI X xq tg Yg fi) (hg:∀{cl C s H fp},DG (Wd X own ZN scope cl C s H fp) tg ix g) (hf:∀{cl C s H fp},DF (Wd X own ZN scope cl C s H fp) XW ifs fA) (he:∀{cl C s H fp},DE (Wd X own ZN scope cl C s H fp) XW elt fe)
  (nd:autoParam (ZN.Nodup) ac._auto_1) (hix:autoParam (∀j∈ix,j<own.length) ac._auto_1) (hs:autoParam (∀x,foldedSetIterable Yg X.env x=pure x) af._auto_1) :
  DN X xq (.ListComp elt [⟨tg,Yg,ifs,0⟩] scope pos) (λρ=>(fi ρ).bind λds=>gd (ds.length<=sizeLine) ((YH g fA fe (Xs own.length ZN ρ) ds).bind λys=>.ok (.l ys))) :=
 ⟨λZY s σ H Q I h=>Qj own ZN hc ok hi.out (g:=Tk X.K ix g) (ti:=Vt X.K XW fA) (te:=WE X.K XW fe) (λ{cl C s H fp}=>hg.out) (λ{cl C s H fp}=>hf.out) (λ{cl C s H fp}=>he.out) hs ZY s σ H Q I (zt nd hix h)⟩
end
section
variable {a o:Expr}
def Yh{id:String} (hc:YG X (.builtin id) (So X.K g)) (hm:X.mg x=none) (hv:bootBuiltins x=some (.builtin id)) (ha:DA X xq (e::es) fs) (hg:autoParam (Gl X x) aa._auto_1) (hn:autoParam (x≠"__name__") ac._auto_1) (WJ:autoParam ((x==("__debug__":Str))=false) ac._auto_1) :
  DE X xq (.Call (.Name x p) (e::es) [] pos) (λρ=>(fs ρ).bind λds=>YD (g ds)) :=
 DE.of (CG hc hg hm hv ha.out hn WJ ha.ns) λB F ρ σ H Q R q=>X2 R q λds vs F1 H1 s1 R1 p1 q1=>⟨F1,ds,R1.fh,p1,VM s1 q1⟩
def KI(hc:YG X (.type T) (So X.K g)) (hm:X.mg x=none) (hv:bootBuiltins x=some (.type T)) (ha:DA X xq (e::es) fs) (hg:autoParam (Gl X x) aa._auto_1) (hn:autoParam (x≠"__name__") ac._auto_1) (WJ:autoParam ((x==("__debug__":Str))=false) ac._auto_1) :
  DE X xq (.Call (.Name x p) (e::es) [] pos) (λρ=>(fs ρ).bind λds=>YD (g ds)) :=
 DE.of (CH hc hg hm hv ha.out hn WJ ha.ns) λB F ρ σ H Q R q=>X2 R q λds vs F1 H1 s1 R1 p1 q1=>⟨F1,ds,R1.fh,p1,VM s1 q1⟩
noncomputable def Yv:List D->Res D
 | [.str z]=>.ok (.int z.length)
 | [.lst ds]=>.ok (.int ds.length)
 | [.tup ds]=>.ok (.int ds.length)
 | _=>.bad
def X3:YG X (.builtin "len") (So X.K Yv):=by
 intro ZY s σ H xs us Q I r z990;obtain⟨F,ds,fh,ps,q⟩:=z990;unfold Yv at q;split at q
 ·obtain ⟨v,rfl,pv⟩:=Wm ps
  cases pv with
  | str hz=>exact EG ZY s σ H _ us Q I r ⟨_,_,rfl,⟨hz,rfl⟩,q _ F H (Stp.refl fh) (.int _)⟩
 ·obtain ⟨v,rfl,pv⟩:=Wm ps
  cases pv with
  | lst hq hs=>exact EG ZY s σ H _ us Q I r ⟨_,_,rfl,.inl ⟨_,.inl (hq.same fh),rfl⟩,q _ F H (Stp.refl fh) (by rw[hs.length];exact .int _)⟩
 ·obtain ⟨v,rfl,pv⟩:=Wm ps
  cases pv with
  | tup hq hs=>exact EG ZY s σ H _ us Q I r ⟨_,_,rfl,.inr ⟨_,fh.seqT hq,rfl⟩,q _ F H (Stp.refl fh) (by rw[hs.length];exact .int _)⟩
 ·exact q.elim
noncomputable def UU:D->Option String
 | .non=>some "NoneType"
 | .bl _=>some "bool"
 | .int _=>some "int"
 | .str _=>some "str"
 | .lst _=>some "list"
 | .tup _=>some "tuple"
 | .dct _=>some "dict"
 | _=>none
noncomputable def KR (t T:String):Option Bool:=if T∈["bool","int","str","list","tuple","dict"] then some (t==T||(t=="bool"&&T=="int")) else none
set_option tactic.hygienic true in
def AZ(K:W.Frag) {b:Bool} (ht:UU d=some t) (h:KR t T=some b):W.kitOne K (.type t) (.type T)=some b:=by
 unfold KR at h;split at h
 ·rename_i hT
  simp only[y0,u0,or_false] at hT;cases h;cases d<;>simp only[UU,Option.some.injEq,reduceCtorEq] at ht<;>subst ht<;>rcases hT with rfl|rfl|rfl|rfl|rfl|rfl<;>rfl
 ·cases h
def xj{E:VP}{c:Value}{F:Hp} (I:Inv X ZY σ H s) (rx:RelV v u) (fh:Same F H) (pv:Rp X.K F v d) (ht:UU d=some t)
  (e:W.kitOne X.K (.type t) c=some bb) (h:∀tk,Q (.bool bb) { s with toks:=tk }):wpAny (model X.prog X.w) A (call (.builtin "isinstance") [u,c]) Q E s:=by
 cases pv with
 | non=>cases ht;exact OG I rx .non e h
 | bl y=>cases ht;exact OG I rx (.bl y) e h
 | int i=>cases ht;exact OG I rx (.int i) e h
 | str hz=>cases ht;exact OG I rx (.str _) e h
 | ty T=>cases ht
 | lst hq hs =>
  cases ht;rcases hq with hq|⟨ob,hq⟩
  ·exact OG I rx (.lst (fh _ _ hq)) e h
  ·exact OG I rx (.frz (fh _ _ hq)) e h
 | tup hq hs =>
  cases ht;obtain⟨ZO,r,p,hz⟩:=I.tuple (fh.seqT hq);obtain⟨ob,h1,h2,_⟩:=p;cases (show u=Value.ref _ from rx)
  exact Y8 W.kitx_tuple I.kIn ⟨ob,h1,h2⟩ e (λz=>nomatch z) h
 | dK hq hs=>cases ht;exact OG I rx (.dK (fh _ _ hq)) e h
 | ins hq hs=>cases ht
 | exc hq hr hs=>cases ht
 | dn hq hs=>cases ht
 | hdl a=>cases ht
noncomputable def Ck:List D->Res D
 | [d,.ty T]=>match UU d with
  | some t=>match KR t T with
   | some b=>.ok (.bl b)
   | none=>.bad
  | none=>.bad
 | _=>.bad
set_option tactic.hygienic true in
def yb:YG X (.builtin "isinstance") (So X.K Ck):=by
 intro ZY s σ H xs us Q I r z991;obtain⟨F,ds,fh,ps,q⟩:=z991;unfold Ck at q;split at q
 ·rename_i d T
  obtain⟨v,w,rfl,pv,pw⟩:=TR ps;cases pw;cases ht:UU d with
  | none=>rw[ht] at q;exact q.elim
  | some t =>
   rw[ht] at q;cases hb:KR t T with
   | none=>simp only[hb] at q;exact q.elim
   | some bb =>
    simp only[hb] at q;cases r with
    | cons r1 r2 =>
     cases r2 with
     | cons r2 r3 =>
      cases r3;cases r2;exact xj I r1 fh pv ht (AZ X.K ht hb) λtk=>⟨.bl bb,H,I.tok _,rfl,q _ F H (Stp.refl fh) (.bl bb)⟩
 ·exact q.elim
noncomputable def Wc:List D->Option (List Bool)
 | []=>some []
 | .bl b::r=>(Wc r).map (b::·)
 | _=>none
theorem AE{F:Hp}:∀{xs:List V}{ds:List D}{bs:List Bool},Rps K F xs ds->Wc ds=some bs->xs=bs.map V.bl
 | _,_,_,.nil,e=>by cases e;rfl
 | _,_,_,.cons (d:=d) (ds:=ds) h hs,e=>by
  cases d<;>simp only[Wc,reduceCtorEq] at e
  cases h;cases q:Wc ds with
  | none=>rw[q] at e;cases e
  | some bs=>rw[q] at e;cases e;rw[AE hs q];rfl
noncomputable def M6:List D->Res D
 | [.lst ds]=>match Wc ds with
  | some bs=>.ok (.bl (bs.all id))
  | none=>.bad
 | _=>.bad
set_option tactic.hygienic true in
def NY (hc:X.calm=true):YG X (.builtin "all") (So X.K M6):=by
 intro ZY s σ H xs us Q I r z992;obtain⟨F,ds,fh,ps,q⟩:=z992;unfold M6 at q;split at q
 ·rename_i ds
  obtain⟨v,rfl,pv⟩:=Wm ps;cases pv with
  | lst hq hs =>
   cases hb:Wc ds with
   | none=>rw[hb] at q;exact q.elim
   | some bs =>
    rw[hb] at q;exact ya hc ZY s σ H _ us Q I r ⟨_,bs,rfl,.inl (AE hs hb ▸ hq.same fh),q _ F H (Stp.refl fh) (.bl _)⟩
 ·exact q.elim
noncomputable def WD:List D->Res D
 | [.lst ds]=>.ok (.tup ds)
 | [.tup ds]=>.ok (.tup ds)
 | _=>.bad
def Le:YG X (.type "tuple") (So X.K WD):=by
 intro ZY s σ H xs us Q I r z993;obtain⟨F,ds,fh,ps,q⟩:=z993;unfold WD at q;split at q
 ·obtain ⟨v,rfl,pv⟩:=Wm ps
  cases pv with
  | lst hq hs=>exact yD ZY s σ H _ us Q I r ⟨_,_,rfl,.inl ⟨.inl (hq.same fh),λl n=>q _ _ _ (Stp.new fh n) (.tup (.inl (.inl WN)) (hs.same (Stp.new fh n).ff))⟩⟩
 ·obtain ⟨v,rfl,pv⟩:=Wm ps
  cases pv with
  | tup hq hs=>exact yD ZY s σ H _ us Q I r ⟨_,_,rfl,.inr ⟨fh.seqT hq,q _ F H (Stp.refl fh) (.tup hq hs)⟩⟩
 ·exact q.elim
noncomputable def Vx:List D->Res OD
 | [.lst ds]=>.ok (.l ds)
 | [.tup ds]=>.ok (.l ds)
 | _=>.bad
def Lc (hm:X.mg "list"=none) (ha:DA X xq [e] fs) (hg:autoParam (Gl X "list") aa._auto_1):DN X xq (.Call (.Name "list" p) [e] [] pos) (λρ=>(fs ρ).bind Vx) :=
 ⟨λZY s σ H Q I z9=>Xt z9 λB F ρ R q=>CH (ux) hg hm rfl ha.out (by decide) (by decide) ha.ns ZY s σ H Q I (X2 R q λds vs F1 H1 s1 R1 p1 q1=>by
  unfold Vx at q1;split at q1
  ·obtain ⟨v,rfl,pv⟩:=Wm p1
   cases pv with
   | lst hq hs=>exact⟨_,_,rfl,.inl (.inl (hq.same R1.fh)),λl n=>q1 l _ F1 _ (s1.trans (Stp.only R1.fh (W5 n))) (R1.fh.free n) (s1.hh.free n) WN (.l hs)⟩
  ·obtain ⟨v,rfl,pv⟩:=Wm p1
   cases pv with
   | tup hq hs=>exact⟨_,_,rfl,.inr (R1.fh.seqT hq),λl n=>q1 l _ F1 _ (s1.trans (Stp.only R1.fh (W5 n))) (R1.fh.free n) (s1.hh.free n) WN (.l hs)⟩
  ·exact q1.elim)⟩
noncomputable def M8:List D->Res D
 | [.int i,.int j]=>.ok (.int (if j<i then j else i))
 | _=>.bad
noncomputable def M7:List D->Res D
 | [.int i,.int j]=>.ok (.int (if j > i then j else i))
 | _=>.bad
def ID (hc:X.calm=true):YG X (.builtin "min") (So X.K M8):=by
 intro ZY s σ H xs us Q I r z994;obtain⟨F,ds,fh,ps,q⟩:=z994;unfold M8 at q;split at q
 ·obtain ⟨v,w,rfl,pv,pw⟩:=TR ps
  cases pv;cases pw;exact wT hc ZY s σ H _ us Q I r ⟨_,_,rfl,q _ F H (Stp.refl fh) (.int _)⟩
 ·exact q.elim
def IC (hc:X.calm=true):YG X (.builtin "max") (So X.K M7):=by
 intro ZY s σ H xs us Q I r z995;obtain⟨F,ds,fh,ps,q⟩:=z995;unfold M7 at q;split at q
 ·obtain ⟨v,w,rfl,pv,pw⟩:=TR ps
  cases pv;cases pw;exact wU hc ZY s σ H _ us Q I r ⟨_,_,rfl,q _ F H (Stp.refl fh) (.int _)⟩
 ·exact q.elim
noncomputable def VY (ρ:Rho) (i:Nat):Res (List D):=match ρ[i]? with
 | some (some (.own (.l ds)))=>.ok ds
 | _=>.bad
set_option tactic.hygienic true in
def L8{P:List D->Prop} (h:(VY ρ i).all P E):∃ds,ρ[i]?=some (some (.own (.l ds)))/\P ds:=by
 unfold VY at h;split at h
 ·rename_i d e;exact⟨d,e,h⟩
 ·exact h.elim
def Ua (i:Nat) (he:DE X xq e fe) (hN:autoParam (X.N[i]?=some x) aa._auto_1) (hv:autoParam (Ut X.env.scope x) ae._auto_1) (hd:autoParam ((x==("__debug__":Str))=false) ac._auto_1) (Xa:autoParam ((x==("__classdict__":Str))=false) ac._auto_1)
  (hs:autoParam (Zk e=true) aa._auto_1) (Xl:autoParam (attributeBase (.Name x p) "append" X.env (eval (.Name x p) X.env)=eval (.Name x p) X.env) aa._auto_1) (Xn:autoParam ((Yw.endLine==XS.line)=true) aa._auto_1)
  (hsw:autoParam (swapsWith (.Call (.Attribute (.Name x p) "append" Yw) [e] [] XS) none pos.line X.env=pure false) aa._auto_1) :
  DS X xq (.Expr (.Call (.Attribute (.Name x p) "append" Yw) [e] [] XS) pos) (λρ=>(VY ρ i).go ρ λds=>(fe ρ).go ρ λd=>if ds.length<sizeLine then .nx (ρ.set i (some (.own (.l (ds++[d]))))) else .bad) :=
 DS.of (L7 (CF Yk PySem.F.slot_list_append PySem.F.type_list_append zg (U2 hN hv hd Xa) (Ta he.out R8 hs) (by rw[t9,hs];rfl) rfl Xl Xn) hsw) λB F ρ σ H T R q=>by
  obtain⟨ds,e1,q1⟩:=L8 (Wy q.out);obtain⟨l,h,h1,h2,h3,h4,h5⟩:=R.own i _ e1;cases h5 with
  | l hs =>
   refine⟨.ref l,h1,.inl ⟨rfl,_,.inl (.inl h4)⟩,B,F,ρ,R,Res.all_mono (Wy q1) (λd q2 v F' H' st pv=>?_) λ_ z=>XG z⟩
   by_cases hz:ds.length<sizeLine
   ·rw [if_pos hz] at q2
    have R':=R.step st;refine⟨l,_,v,rfl,rfl,st.hh _ _ h4,by rw[hs.length];exact hz,q2 σ F' _ (R'.write (e:=e1) h1 (.l ((hs.same st.ff).append (.cons pv .nil))))⟩
   ·rw[if_neg hz] at q2;exact q2.elim
def Zt (K:W.Frag) (f:FD):Sp:=λvs H Q _=>∃F ds,Same F H/\Rps K F vs ds/\(YD (f ds)).all (λd=>∀v F' H',Stp F H F' H'->Rp K F' v d->Q v H') (λ_=>False)
def Zz{k:Nat}{f:FD} (h:Callee P w K mg base k x ps (Zt K f)) (hr:Room k' X.A) (ha:DA X xq (e::es) fs) (hk:autoParam (k<=k') ac._auto_1) (hg:autoParam (Gl X x) aa._auto_1)
  (eP:autoParam (X.prog=P) aa._auto_1) (ew:autoParam (X.w=w) aa._auto_1) (eK:autoParam (X.K=K) aa._auto_1) (em:autoParam (X.mg=mg) aa._auto_1) (eb:autoParam (X.base=base) aa._auto_1) (WJ:autoParam ((x==("__debug__":Str))=false) ac._auto_1):DE X xq (.Call (.Name x p) (e::es) [] pos) (λρ=>(fs ρ).bind λds=>YD (f ds)) :=
 DE.of (HM h hr hk ha.out hg eP ew eK em eb WJ ha.ns) λB F ρ σ H Q R q=>X2 R q λds vs F1 H1 s1 R1 p1 q1=>by
  subst eK;refine⟨F1,ds,R1.fh,by rw[ZI];exact p1,?_⟩
  cases e:f ds with
  | ok d=>rw[e] at q1;exact λv F' H' st pv=>q1 v F' H' (s1.trans st) pv
  | err x=>rw[e] at q1;exact q1.elim
  | bad=>rw[e] at q1;exact q1.elim
noncomputable def Ul:Out->Res D
 | .nx _=>.ok .non
 | .rt d=>.ok d
 | .er x _=>.err x
 | _=>.bad
noncomputable def ZV (n:Nat) (ds:List D):Rho:=ds.map (λd=>some (.val d))++List.replicate (n - ds.length) none
set_option tactic.hygienic true in
def Rps.begin{F:Hp} (fh:Same F H) (r:Rps K F vs ds):Rel K (F,H) (ZV N.length ds) (start N vs) F H where
 st:=Stp.refl fh
 len:=by unfold ZV L2.start;simp[r.length]
 val i d e:=by
  unfold ZV at e;unfold L2.start;rw[Ls] at e;split at e
  ·rename_i hi
   rw[w6] at e;cases q:ds[i]? with
   | none=>rw[q] at e;cases e
   | some d' =>
    rw[q] at e;cases e;obtain⟨v,hv,p⟩:=r.get q;exact⟨v,by rw[Lp (by have:=(x0.mp hv).1;simpa using this),w6,hv];rfl,p⟩
  ·rw [t8] at e
   split at e<;>simp at e
 own i o e:=by
  unfold ZV at e;rw[Ls] at e;split at e
  ·rw [w6] at e
   cases q:ds[i]? with
   | none=>rw[q] at e;cases e
   | some d'=>rw[q] at e;cases e
  ·rw [t8] at e
   split at e<;>simp at e
 dis i j o u a e:=by
  exfalso;unfold ZV at e
  rw[Ls] at e;split at e
  ·rw [w6] at e
   cases q:ds[i]? with
   | none=>rw[q] at e;cases e
   | some d'=>rw[q] at e;cases e
  ·rw [t8] at e
   split at e<;>simp at e
end
def Fun.okD{k:Nat} (F:Fun K x qual st f fd) (S:FnScope N ps (ZX st)) (len:∀ds d,g ds=.ok d->ds.length=ps.length)
  (Xm:∀ (Zm:Value) (A:Around) (outer:List Env) (s:Shared) (H:Hp) (E:XK),Room k (A.deeper (envOfC qual (ZX st) s.heap.objs.size f Zm)) ->
   ∃t,DB (VC Z0 P w K mg base N qual (ZX st) f Zm A outer s H E).nox XW (Z3 st) t/\∀ds d,g ds=.ok d->Ul (t (ZV N.length ds))=.ok d):FnOk P w K mg base Z0 (k+1) f fd ps (Zt K g) :=
 F.ok S (λvs H Q E ⟨G,ds,fh,r,q⟩=>by
  rw[r.length];cases e:g ds with
  | ok d=>exact len ds d e
  | err x=>rw[e] at q;exact q.elim
  | bad=>rw[e] at q;exact q.elim) λZm A outer s H vs Q E hr ⟨G,ds,fh,r,q⟩=>by
  obtain⟨t,h1,h2⟩:=Xm Zm A outer s H E hr;refine⟨_,h1.out,(G,H),G,_,r.begin fh,⟨?_⟩⟩;cases e:g ds with
  | err x=>rw[e] at q;exact q.elim
  | bad=>rw[e] at q;exact q.elim
  | ok d =>
   rw[e] at q;have z:=h2 ds d e;generalize t (ZV N.length ds)=o at z;cases o with
   | nx ρ=>cases z;exact λσ F' H' R=>q .non F' H' R.st .non
   | rt d'=>cases z;exact λv F' H' st pv=>q v F' H' st pv
   | bk ρ=>cases z
   | ct ρ=>cases z
   | er x ρ=>cases z
   | bad=>cases z
section
variable {e:Addr}
def Rel.unset{F:Hp} (r:Rel K B ρ σ F H):Rel K B (ρ.set i none) (σ.set i none) F H where
 st:=r.st
 len:=by simp[r.len]
 val j d e:=by
  rcases Vb e with⟨rfl,q,z⟩|⟨q,z⟩
  ·cases z
  ·rw[Va q];exact r.val j d z
 own j o e:=by
  rcases Vb e with⟨rfl,q,z⟩|⟨q,z⟩
  ·cases z
  ·rw[Va q];exact r.own j o z
 dis j k o u a x y:=by
  rcases Vb x with⟨rfl,q,z⟩|⟨q,z⟩
  ·cases z
  ·rcases Vb y with ⟨rfl,q',z'⟩ | ⟨q',z'⟩
   ·cases z'
   ·rw[Va q,Va q'];exact r.dis j k o u a z z'
noncomputable def unset (i:Nat):Out->Out
 | .nx ρ=>.nx (ρ.set i none)
 | .rt d=>.rt d
 | .bk ρ=>.bk (ρ.set i none)
 | .ct ρ=>.ct (ρ.set i none)
 | _=>.bad
noncomputable def TD (hd:D->Rho->Out):Out->Out
 | .er x ρ=>hd x ρ
 | o=>o
end
mutual
noncomputable def DK.hash (w:World):DK->Int
 | .i n=>Mm w (.inl n)
 | .s z=>Mm w (.inr z)
 | .t ks=>reduceHash (Builtin.Tuple.tupleHashOf (DK.hashes w ks))
noncomputable def DK.hashes (w:World):List DK->List Int
 | []=>[]
 | k::ks=>k.hash w::DK.hashes w ks
end
mutual
noncomputable def DK.drw:DK->Nat
 | .i _=>1
 | .s _=>1
 | .t ks=>DK.drws ks+1
noncomputable def DK.drws:List DK->Nat
 | []=>0
 | k::ks=>k.drw+DK.drws ks
end
mutual
inductive KAt (h:Heap):DK->Value->Prop
 | i (n:Int) (t:Tok):KAt h (.i n) (.int n t)
 | s (z:Str) (t:Tok):KAt h (.s z) (.str z t)
 | t {a:Addr}{o:Obj}{ZO:Array Value}{n:Nat}{ks:List DK}:h.get? a=some o->o.cls=.type "tuple"->o.data=.seq ZO n->KAts h ks ZO.toList->KAt h (.t ks) (.ref a)
inductive KAts (h:Heap):List DK->List Value->Prop
 | nil:KAts h [] []
 | cons {k:DK}{v:Value}{ks:List DK}{vs:List Value}:KAt h k v->KAts h ks vs->KAts h (k::ks) (v::vs)
end
mutual
theorem KAt.inj {h:Heap}:∀{x y:DK}{v:Value},KAt h x v->KAt h y v->x=y
 | _,_,_,.i _ _,.i _ _=>rfl
 | _,_,_,.s _ _,.s _ _=>rfl
 | _,_,_,.t p1 _ p2 p3,.t q1 _ q2 q3=>by
  rw[p1] at q1;cases q1;rw[p2] at q2;cases q2;rw[KAts.inj p3 q3]
theorem KAts.inj {h:Heap}:∀{x y:List DK}{v:List Value},KAts h x v->KAts h y v->x=y
 | _,_,_,.nil,.nil=>rfl
 | _,_,_,.cons p ps,.cons q qs=>by rw[KAt.inj p q,KAts.inj ps qs]
end
mutual
theorem KAt.moved {h h':Heap} (k:∀b o ZO n,h.get? b=some o->o.data=.seq ZO n->h'.get? b=some o):∀{x:DK}{v:Value},KAt h x v->KAt h' x v
 | _,_,.i n t=>.i n t
 | _,_,.s n t=>.s n t
 | _,_,.t p1 pc p2 p3=>.t (k _ _ _ _ p1 p2) pc p2 (KAts.moved k p3)
theorem KAts.moved {h h':Heap} (k:∀b o ZO n,h.get? b=some o->o.data=.seq ZO n->h'.get? b=some o):∀{x:List DK}{v:List Value},KAts h x v->KAts h' x v
 | _,_,.nil=>.nil
 | _,_,.cons p ps=>.cons (KAt.moved k p) (KAts.moved k ps)
end
mutual
theorem KAt.reads {h:Heap}:∀{x:DK}{v:Value},KAt h x v->∃as,Reads h v x.py as
 | _,_,.i n t=>⟨_,.int n t⟩
 | _,_,.s z t=>⟨_,.str z t⟩
 | _,_,.t p1 pc p2 p3=>let ⟨_,q⟩:=KAts.reads p3;⟨_,by rw[DK.py];exact .tuple p1 pc p2 q⟩
theorem KAts.reads {h:Heap}:∀{x:List DK}{v:List Value},KAts h x v->∃as,ReadsAll h v (DK.pys x) as
 | _,_,.nil=>⟨_,.nil⟩
 | _,_,.cons p ps=>let ⟨_,q⟩:=KAt.reads p;by obtain⟨_,qs⟩:=KAts.reads ps;exact⟨_,.cons q qs⟩
end
mutual
theorem DK.eqv_iff:∀x y:DK,PyData.eqv x.py y.py=true↔x=y
 | .i n,.i m=>by simp[DK.py,PyData.eqv]
 | .s n,.s m=>by simp[DK.py,PyData.eqv]
 | .t n,.t m=>by simp only[DK.py,PyData.eqv,DK.t.injEq];exact DK.eqvs_iff n m
 | .i _,.s _=>by simp[DK.py,PyData.eqv]
 | .i _,.t _=>by simp[DK.py,PyData.eqv]
 | .s _,.i _=>by simp[DK.py,PyData.eqv]
 | .s _,.t _=>by simp[DK.py,PyData.eqv]
 | .t _,.i _=>by simp[DK.py,PyData.eqv]
 | .t _,.s _=>by simp[DK.py,PyData.eqv]
theorem DK.eqvs_iff:∀x y:List DK,PyData.eqvAll (DK.pys x) (DK.pys y)=true↔x=y
 | [],[]=>by simp[DK.pys,PyData.eqvAll]
 | a::x,b::y=>by simp only[DK.pys,PyData.eqvAll,t4,List.cons.injEq];rw[DK.eqv_iff a b,DK.eqvs_iff x y]
 | [],_::_=>by simp[DK.pys,PyData.eqvAll]
 | _::_,[]=>by simp[DK.pys,PyData.eqvAll]
end
def DK.eqv_dec (x y:DK):PyData.eqv x.py y.py=decide (x=y):=by
 rw[Lu,DK.eqv_iff];simp
section
set_option maxHeartbeats 1000000 in
theorem xi (d:Nat):∀{k:DK}{v:Value}{A:Around}{E:VP}{s:Shared}{Q:Int->Shared->Prop},k.dep<=d->A.units+d<cLine->KAt s.heap k v->Q (k.hash w) { s with toks:=s.toks+k.drw }->wpAny (model prog w) A (PySem.pyHash v) Q E s:=by
 induction d with
 | zero =>
  intro k v A E s Q hd hu p q;cases p with
  | i n t=>exact(Z4 prog w).pyHash (k:=.inl n) (E7 prog w n t) q
  | s z t=>exact(Z4 prog w).pyHash (k:=.inr z) (E6 prog w z t) q
  | t p1 pc p2 p3=>simp[DK.dep] at hd
 | succ d ih =>
  intro k v A E s Q hd hu p q;cases p with
  | i n t=>exact(Z4 prog w).pyHash (k:=.inl n) (E7 prog w n t) q
  | s z t=>exact(Z4 prog w).pyHash (k:=.inr z) (E6 prog w z t) q
  | @t a o ZO n ks p1 pc p2 p3 =>
   have ty:s.TypeIs (.ref a) "tuple":=⟨o,p1,pc⟩;have hds:DK.deps ks<=d:=by simpa[DK.dep] using hd
   unfold PySem.pyHash
   first|unfold pyHashByItsType|skip
   first|refine ZZ (wpAny_cRoomFor_or (.inr (by lia)) ?_)|skip
   refine ZZ (Zo ty F.slot_tuple_hash.lookup ?_);show wpAny _ _ (if (some (Value.builtin "tuple.__hash__")==some Value.none)=true then _ else _) _ _ _
   rw[if_neg (by rw[beq_builtin_none];simp)]
   refine ZZ (Zo ty F.slot_tuple_hash.lookup ?_);show wpAny _ _ (callSpecialIfBoundUnlessNone? (.ref a) "__hash__" _ >>= _) _ _ _;refine ZZ (wpAny_callSpecialIfBoundUnlessNone?_slot ty F.slot_tuple_hash (ZQ F.slot_tuple_hash ty F.entry_tuple_hash ?_ (F.args_tuple_hash_1 _)));show wpAny _ _ (Builtin.Tuple.tupleItemsOf (.ref a) >>= _) _ _ _;refine ZZ (wpAny_tupleItemsOf p1 p2 ?_);refine ZZ ?_;rw[<- Wq];refine wpAny_forIn_list _ (λYO (b:Array Int) s'=>∃l r,DK.hashes w ks=l++DK.hashes w r/\KAts s.heap r YO/\DK.deps r<=d/\b.toList=l/\∃c,c+DK.drws r=DK.drws ks/\s'={ s with toks:=s.toks+c }) _ ?_ ?_ _ _ ⟨[],ks,rfl,p3,hds,rfl,0,Nat.zero_add _,rfl⟩
   ·rintro x YO b s' ⟨l,r,e1,e2,e3,e4,c,e5,rfl⟩
    cases e2 with
    | @cons k _ r' _ f1 f2 =>
     simp only[DK.deps] at e3;refine ZZ (ih (k:=k) (by lia) (by show A.units+1+d<cLine;lia) f1 ?_)
     first
      | exact wpAny_pure ⟨l++[k.hash w],r',by rw[e1];simp[DK.hashes],f2,by lia,by simp[e4],c+k.drw,by rw[<- e5];simp[DK.drws,Nat.add_assoc],by simp[Nat.add_assoc]⟩
      | exact ZZ (wpAny_pure (wpAny_pure ⟨l++[k.hash w],r',by rw[e1];simp[DK.hashes],f2,by lia,by simp[e4],c+k.drw,by rw[<- e5];simp[DK.drws,Nat.add_assoc],by simp[Nat.add_assoc]⟩))
   ·rintro b s' ⟨l,r,e1,e2,e3,e4,c,e5,rfl⟩
    cases e2;have e6:DK.hashes w ks=b.toList:=by rw[e1,e4];simp[DK.hashes]
    have e7:c=DK.drws ks:=by rw[<- e5];simp[DK.drws]
    subst e7;simp only[DK.hash,DK.drw] at q;rw[e6] at q;show wpAny _ _ (retInt (Builtin.Tuple.tupleHashOf b.toList)) _ _ _;refine wpAny_ret_mkInt ?_;show wpAny _ _ (if (decide (-(2:Int)^63<=Builtin.Tuple.tupleHashOf b.toList)&&decide (Builtin.Tuple.tupleHashOf b.toList<2^63))=true then _ else _) _ _ _
    unfold reduceHash at q;by_cases hr:(decide (-(2:Int)^63<=Builtin.Tuple.tupleHashOf b.toList)&&decide (Builtin.Tuple.tupleHashOf b.toList<2^63))=true
    ·rw [if_pos hr] at q |-
     exact wpAny_pure (by simpa[Nat.add_assoc] using q)
    ·rw [if_neg hr] at q |-
     exact ZZ (YB (wpAny_pure (by simpa[Nat.add_assoc] using q)))
theorem vS (d:Nat):∀{k:DK}{v:Value}{A:Around}{E:VP}{s:Shared}{Q:Bool->Shared->Prop},k.dep<=d->KAt s.heap k v->Q true s->wpAny (model prog w) A (eqIsQuiet d v) Q E s:=by
 induction d with
 | zero =>
  intro k v A E s Q hd p q;cases p with
  | i n t=>rw[eqIsQuiet_byValue _ rfl];exact wpAny_pure q
  | s z t=>rw[eqIsQuiet_byValue _ rfl];exact wpAny_pure q
  | t p1 pc p2 p3=>simp[DK.dep] at hd
 | succ d ih =>
  intro k v A E s Q hd p q;cases p with
  | i n t=>rw[eqIsQuiet_byValue _ rfl];exact wpAny_pure q
  | s z t=>rw[eqIsQuiet_byValue _ rfl];exact wpAny_pure q
  | @t a o ZO n ks p1 pc p2 p3 =>
   have ty:s.TypeIs (.ref a) "tuple":=⟨o,p1,pc⟩;have hds:DK.deps ks<=d:=by simpa[DK.dep] using hd
   unfold eqIsQuiet;refine ZZ (Zo ty F.slot_tuple_eq.lookup ?_);show wpAny _ _ (isInstance (.ref a) (.type "tuple") >>= _) _ _ _;refine ZZ (YY ty isSubtype_tuple_tuple ?_);simp only[Bool.not_true,u4,if_false];refine ZZ (ZB p1 p2 ?_);refine ZZ ?_;show wpAny _ _ (forIn ZO _ _) _ _ _;rw[<- Wq];refine wpAny_forIn_list _ (λYO r s'=>r.1=none/\s'=s/\∃l,KAts s.heap l YO/\DK.deps l<=d) _ ?_ ?_ _ _ ⟨rfl,rfl,ks,p3,hds⟩
   ·rintro v YO r s' ⟨hr,rfl,l,e1,e2⟩
    cases e1 with
    | cons f1 f2 =>
     simp only[DK.deps] at e2;refine ZZ (ih (by lia) f1 ?_)
     simp only[Bool.not_true,u4,if_false];exact wpAny_pure ⟨rfl,rfl,_,f2,by lia⟩
   ·rintro ⟨r1,r2⟩ s' ⟨hr,rfl,_⟩
    simp only at hr;subst hr;exact wpAny_pure q
noncomputable def WF (prog:Program) (w:World):HeapKind prog w (List DK) where
 is h ks a:=KAt h (.t ks) (.ref a)/\(DK.t ks).dep<=8/\SeqAt.shaped (DK.t ks).py=true
 hash ks:=(DK.t ks).hash w
 draws ks:=(DK.t ks).drw
 room A:=A.units+80<cLine
 inj p q:=by have:=p.1.inj q.1;cases this;rfl
 keeps p hd he sb:=⟨p.1.moved (λb o ZO n q1 q2=>(sb.2 b (λz=>by
  subst z;rw[q1] at hd;cases hd;rw[q2] at he;cases he)).trans q1),p.2⟩
 pyHash hu p q:=xi 8 p.2.1 (by lia) p.1 q
 eqBool:=λ{A E s x y a b Q} hu p r q=>by
  obtain⟨as,ra⟩:=p.1.reads;obtain⟨bs,rb⟩:=r.1.reads;refine SeqAt.eqBoolOverData _ _ _ _ _ _ _ _ _ _ _ _ ra rb (XX p.2.2) (XX r.2.2) ?_ ?_
  ·have:=SeqAt.depth_of_shaped p.2.2
   have h2:min (DK.t x).py.depth (DK.t y).py.depth<=(DK.t x).py.depth:=Nat.min_le_left _ _;lia
  ·rw[DK.eqv_dec];simpa using q
 quiet p q:=vS 8 p.2.1 p.1 q
end
noncomputable def XF:List D->Res (List PyData)
 | []=>.ok []
 | d::ds=>(Y2 d).bind λa=>(XF ds).bind λas=>.ok (a::as)
noncomputable def RZ (i j:Str):Bool:=!(Builtin.Str.occurrences j i 0 j.length 1).isEmpty
noncomputable def T5 (x:D) (ds:List D) (WL:Bool):Res D:=(Y2 x).bind λa=>(XF ds).bind λas=>.ok (.bl (if WL=true then !(as.any λb=>PyData.eqv b a) else as.any λb=>PyData.eqv b a))
noncomputable def SZ (WL:Bool):D->D->Res D
 | x,.lst ds=>T5 x ds WL
 | x,.tup ds=>T5 x ds WL
 | .str i,.str j=>.ok (.bl (if WL=true then !RZ i j else RZ i j))
 | _,_=>.bad
def Kc (WL:Bool) (x:D) (ds:List D):SZ WL x (.lst ds)=T5 x ds WL:=by cases x<;>rfl
def Bn (WL:Bool) (x:D) (ds:List D):SZ WL x (.tup ds)=T5 x ds WL:=by cases x<;>rfl
noncomputable abbrev KG:=SZ false
noncomputable abbrev Wj:=SZ true
noncomputable def U5 (h:Heap) (a:PyData) (u:Value):Bool:=@decide (∃d as,Reads h u d as/\PyData.eqv d a=true) (_root_.Classical.propDecidable _)
def BA{a d:PyData}{as:List Addr} (r:Reads h u d as):U5 h a u=PyData.eqv d a:=by
 unfold U5;rw[Lu,@decide_eq_true_iff _ (_root_.Classical.propDecidable _)];constructor
 ·rintro ⟨d',as',r',q⟩
  rw[(r.unique d' as' r').1];exact q
 ·exact λq=>⟨d,as,r,q⟩
def vJ{bs:List PyData} (h:XF (d::ds)=.ok bs):∃b r,d.py=some b/\SeqAt.shaped b=true/\XF ds=.ok r/\bs=b::r:=by
 unfold XF at h;cases e:Y2 d with
 | err x=>rw[e] at h;cases h
 | bad=>rw[e] at h;cases h
 | ok b =>
  rw[e] at h;obtain⟨b',q1,q2,q3⟩:=Ld (P:=λz=>z=b) (E:=λ_=>False) (by rw[e];exact rfl)
  subst q3;cases e2:XF ds with
  | err x=>rw[e2] at h;cases h
  | bad=>rw[e2] at h;cases h
  | ok r=>rw[e2] at h;cases h;exact⟨_,r,q1,q2,rfl,rfl⟩
theorem Kj{F:Hp}{a:PyData}{v:Value}{vs:List Addr} (I:Inv X ZY σ H s) (fh:Same F H) (rv:Reads s.heap v a vs) (sa:SeqAt.shaped a=true) (hu:A.units+64<cLine):∀{xs:List V}{ds:List D}{ZO:List Value}{bs:List PyData},Rps X.K F xs ds->Vals xs ZO->XF ds=.ok bs ->
  (∀u∈ZO,SeqAt.EqAt A s u v (U5 s.heap a u))/\ZO.any (U5 s.heap a)=bs.any λb=>PyData.eqv b a
 | _,_,_,_,.nil,.nil,e=>by cases e;exact⟨(λu hu=>by cases hu),rfl⟩
 | _,_,_,_,.cons h hs,.cons r rs,e=>by
  obtain⟨b,r',q1,q2,q3,rfl⟩:=vJ e;obtain⟨i1,i2⟩:=Kj I fh rv sa hu hs rs q3;obtain⟨as,ru⟩:=((h.rd q1).same fh).reads I r;refine⟨λu hu'=>?_,by rw[List.any_cons,List.any_cons,i2,BA ru]⟩
  rcases y0.mp hu' with rfl|hu'
  ·rw [BA ru]
   refine SeqAt.eqAt_reads _ _ _ _ _ _ _ _ ru rv (XX q2) (XX sa) ?_
   have:=SeqAt.depth_of_shaped q2
   have h2:min b.depth a.depth<=b.depth:=Nat.min_le_left _ _;lia
  ·exact i1 u hu'
def Hy{x:D}{WL:Bool}{P:D->Prop} (h:(T5 x ds WL).all P E):∃a bs,x.py=some a/\SeqAt.shaped a=true/\XF ds=.ok bs/\P (.bl (if WL=true then !(bs.any λb=>PyData.eqv b a) else bs.any λb=>PyData.eqv b a))\/∃y,XF ds=.err y:=by
 unfold T5 at h;obtain⟨a,q1,q2,q⟩:=Ld (Res.all_bind.mp h);cases e:XF ds with
 | ok bs=>rw[e] at q;exact⟨a,bs,.inl ⟨q1,q2,rfl,q⟩⟩
 | err y=>exact⟨a,[],.inr ⟨y,rfl⟩⟩
 | bad=>rw[e] at q;exact q.elim
theorem JS:∀(ds:List D) (y:D),XF ds≠.err y
 | [],_,h=>by cases h
 | d::ds,y,h=>by
  unfold XF at h;cases e:Y2 d with
  | err x =>
   unfold Y2 at e;split at e
   ·unfold gd at e;split at e<;>cases e
   ·cases e
  | bad=>rw[e] at h;cases h
  | ok b =>
   rw[e] at h;cases e2:XF ds with
   | err x=>exact JS ds x e2
   | bad=>rw[e2] at h;cases h
   | ok r=>rw[e2] at h;cases h
theorem T8 (hu:X.A.units+100<cLine):Y0 X (compareOp .In) (rD X.K KG):=by
 intro ZY s σ H x y v u Q I rx ry z998;obtain⟨F,dx,dy,fh,px,py,q⟩:=z998;have hu':X.A.in1.units+64<cLine:=by show X.A.units+1+64<cLine;lia
 cases py with
 | lst hq hs =>
  unfold KG at q;rw[Kc] at q;obtain⟨a,bs,⟨q1,q2,q3,q4⟩|⟨y,q3⟩⟩:=Hy q
  ·obtain ⟨ZO,r,pl,hz⟩:=I.list (.inl (hq.same fh))
   obtain⟨as,rv⟩:=((px.rd q1).same fh).reads I rx;obtain⟨h1,h2⟩:=Kj I fh rv q2 hu' hs r q3;cases ry;refine SeqAt.in_listAt (U5 s.heap a) pl.isList (λw hw=>h1 w (by simpa using hw)) ⟨.bl _,H,I,rfl,?_⟩
   rw[show ZO.toArray.any (U5 s.heap a)=ZO.any (U5 s.heap a) by simp,h2]
   exact q4 _ F H (Stp.refl fh) (.bl _)
  ·exact absurd q3 (JS _ _)
 | tup hq hs =>
  unfold KG at q;rw[Bn] at q;obtain⟨a,bs,⟨q1,q2,q3,q4⟩|⟨y,q3⟩⟩:=Hy q
  ·obtain ⟨ZO,r,pl,hz⟩:=I.tuple (fh.seqT hq)
   obtain⟨as,rv⟩:=((px.rd q1).same fh).reads I rx;obtain⟨h1,h2⟩:=Kj I fh rv q2 hu' hs r q3;cases ry;refine SeqAt.in_tupleAt (U5 s.heap a) pl (λw hw=>h1 w (by simpa using hw)) ⟨.bl _,H,I,rfl,?_⟩
   rw[show ZO.toArray.any (U5 s.heap a)=ZO.any (U5 s.heap a) by simp,h2]
   exact q4 _ F H (Stp.refl fh) (.bl _)
  ·exact absurd q3 (JS _ _)
 | str hz =>
  cases px with
  | str hz'=>exact wg ZY s σ H _ _ v u Q I rx ry ⟨_,_,rfl,rfl,q _ F H (Stp.refl fh) (.bl _)⟩
  | _=>exact q.elim
 | _=>exact q.elim
theorem Fg (hu:X.A.units+100<cLine):Y0 X (compareOp .NotIn) (rD X.K Wj):=by
 intro ZY s σ H x y v u Q I rx ry z999;obtain⟨F,dx,dy,fh,px,py,q⟩:=z999;have hu':X.A.in1.units+64<cLine:=by show X.A.units+1+64<cLine;lia
 cases py with
 | lst hq hs =>
  unfold Wj at q;rw[Kc] at q;obtain⟨a,bs,⟨q1,q2,q3,q4⟩|⟨y,q3⟩⟩:=Hy q
  ·obtain ⟨ZO,r,pl,hz⟩:=I.list (.inl (hq.same fh))
   obtain⟨as,rv⟩:=((px.rd q1).same fh).reads I rx;obtain⟨h1,h2⟩:=Kj I fh rv q2 hu' hs r q3;cases ry;refine SeqAt.notIn_listAt (U5 s.heap a) pl.isList (λw hw=>h1 w (by simpa using hw)) ⟨.bl _,H,I,rfl,?_⟩
   rw[show ZO.toArray.any (U5 s.heap a)=ZO.any (U5 s.heap a) by simp,h2]
   exact q4 _ F H (Stp.refl fh) (.bl _)
  ·exact absurd q3 (JS _ _)
 | tup hq hs =>
  unfold Wj at q;rw[Bn] at q;obtain⟨a,bs,⟨q1,q2,q3,q4⟩|⟨y,q3⟩⟩:=Hy q
  ·obtain ⟨ZO,r,pl,hz⟩:=I.tuple (fh.seqT hq)
   obtain⟨as,rv⟩:=((px.rd q1).same fh).reads I rx;obtain⟨h1,h2⟩:=Kj I fh rv q2 hu' hs r q3;cases ry;refine SeqAt.notIn_tupleAt (U5 s.heap a) pl (λw hw=>h1 w (by simpa using hw)) ⟨.bl _,H,I,rfl,?_⟩
   rw[show ZO.toArray.any (U5 s.heap a)=ZO.any (U5 s.heap a) by simp,h2]
   exact q4 _ F H (Stp.refl fh) (.bl _)
  ·exact absurd q3 (JS _ _)
 | str hz =>
  cases px with
  | str hz'=>exact tI ZY s σ H _ _ v u Q I rx ry ⟨_,_,rfl,rfl,q _ F H (Stp.refl fh) (.bl _)⟩
  | _=>exact q.elim
 | _=>exact q.elim
noncomputable def J6 (K:W.Frag) (xq:XQ) (f:Rho->Res (Option Int)):TO:=λσ H Q=>∃B F ρ,Rel K B ρ σ F H /\
 (f ρ).all (λo=>∀F' H',Stp F H F' H'->Q o H') (ErrK K xq B ρ σ)
structure DO (X:Cx) (xq:XQ) (e:Option Expr) (f:Rho->Res (Option Int)):Prop where
 out:PO X e (J6 X.K xq f)
noncomputable def TC:D->Res (Option Int)
 | .int i=>.ok (some i)
 | _=>.bad
noncomputable def Rq (d:D) (lo hi:Option Int):Res D:=match d with
 | .lst ds=>.ok (.lst (YC ds lo hi))
 | .str z=>.ok (.str (Txt.slice z lo hi))
 | _=>.bad
section
variable {lo hi:Option Expr}{fl fh:Rho->Res (Option Int)}{p2:Pos}
def Ux:DO X xq none (λ_=>.ok none):=⟨λZY s σ H Q I z9=>Xt z9 λB F ρ R q=>Qr ZY s σ H Q I (q F H (Stp.refl R.fh))⟩
def Vk (h:DE X xq e fe):DO X xq (some e) (λρ=>(fe ρ).bind TC):=⟨λZY s σ H Q I z9=>Xt z9 λB F ρ R q=>Qs h.out ZY s σ H Q I (Yd R q λd v F1 H1 s1 R1 p1 q1=>by
 cases p1 with
 | int i=>exact⟨i,rfl,q1 F1 H1 s1⟩
 | _=>exact q1.elim)⟩
def CO (K:W.Frag):V->Option Int->Option Int->Hp->VK->Prop:=λx lo hi H Q=>∃F d,Same F H/\Rp K F x d/\(Rq d lo hi).all (λd'=>∀v F' H',Stp F H F' H'->Rp K F' v d'->Q v H') (λ_=>False)
def Rps.cut{F:Hp} (r:Rps K F xs ds) (lo hi:Option Int):Rps K F (SY xs lo hi) (YC ds lo hi):=by
 unfold SY YC;rw[r.length];exact(r.drop _).take _
def CU:G0 X (CO X.K):=by
 intro ZY s σ H x v vl vu lo hi sl Q I rx hs pl pu z9100;obtain⟨F,d,fh,px,q⟩:=z9100;cases px with
 | lst hq rs=>exact AL ZY s σ H _ v vl vu lo hi sl Q I rx hs pl pu ⟨_,_,rfl,.inl (hq.same fh),λp n=>q _ _ _ (Stp.new fh n) (.lst (.inl WN) ((rs.cut lo hi).same (Stp.new fh n).ff))⟩
 | str hz=>exact Ng ZY s σ H _ v vl vu lo hi sl Q I rx hs pl pu ⟨_,rfl,hz,q _ F H (Stp.refl fh) (.str (v7 (Txt.slice_le _ _ _) hz))⟩
 | _=>exact q.elim
def T0 (he:DE X xq e fe) (hl:DO X xq lo fl) (hu:DO X xq hi fh):DE X xq (.Subscript e (.Slice lo hi none p2) pos) (λρ=>(fe ρ).bind λd=>(fl ρ).bind λl=>(fh ρ).bind λu=>Rq d l u) :=
 DE.of (zX CU he.out hl.out hu.out) λB F ρ σ H Q R q=>Yd R q λd v F1 H1 s1 R1 p1 q1 =>
  ⟨B,F1,ρ,R1,Res.all_mono (Res.all_bind.mp q1) (λl q2 F2 H2 s2=>⟨B,F2,ρ,R1.step s2,Res.all_mono (Res.all_bind.mp q2) (λu q3 F3 H3 s3=>by
   refine⟨F3,d,((R1.step s2).step s3).fh,(p1.same s2.ff).same s3.ff,?_⟩;cases hd:Rq d l u with
   | ok d'=>rw[hd] at q3;exact λv' F' H' st pv=>q3 v' F' H' (((s1.trans s2).trans s3).trans st) pv
   | err x=>unfold Rq at hd;split at hd<;>first|cases hd|(split at hd<;>cases hd)
   | bad=>rw[hd] at q3;exact q3) λ_ z=>z⟩) λ_ z=>z⟩
def Hd{g:D->Rho->Res Rho}{py:Pos} (own:List Str) (ZN:List Nat) (hc:X.calm=true) (ok:X6 X.env.scope X.N own ZN scope) (hN:X.N.Nodup) (hi:DI X xq tg Yg fi) (hg:∀{cl C s H fp},DG (Wd X own ZN scope cl C s H fp) tg ix g) (hf:∀{cl C s H fp},DF (Wd X own ZN scope cl C s H fp) XW ifs fA) (he:∀{cl C s H fp},DE (Wd X own ZN scope cl C s H fp) XW elt fe)
  (nd:autoParam (ZN.Nodup) ac._auto_1) (hix:autoParam (∀j∈ix,j<own.length) ac._auto_1) (hy:autoParam (X.N.findIdx? (λy=>y==x)=some i) aa._auto_1) (hx:autoParam (X.env.scope.names.lookup x=some .local) aa._auto_1)
  (hsw:autoParam (swapsWith (.ListComp elt [⟨tg,Yg,ifs,0⟩] scope pos) (some (.Name x py)) spos.line X.env=pure true) aa._auto_1) (hs:autoParam (∀x,foldedSetIterable Yg X.env x=pure x) af._auto_1) :
  DS X xq (.Assign [.Name x py] (.ListComp elt [⟨tg,Yg,ifs,0⟩] scope pos) spos) (λρ=>((fi ρ).bind λds=>gd (ds.length<=sizeLine) ((YH g fA fe (Xs own.length ZN ρ) ds).bind λys=>.ok (OD.l ys))).go ρ λo=>.nx (ρ.set i (some (.val o.toD)))) :=
 DS.of (uV own ZN hc ok hN (Ff hy) hx hi.out (g:=Tk X.K ix g) (ti:=Vt X.K XW fA) (te:=WE X.K XW fe) (λ{cl C s H fp}=>hg.out) (λ{cl C s H fp}=>hf.out) (λ{cl C s H fp}=>he.out) hsw hs) λB F ρ σ H T R q =>
  zt nd hix ⟨B,F,ρ,R,Res.all_mono (Wy q.out) (λo q a hh F' H' s1 n1 n2 e1 r1=>by
   have s2:Stp F H (Zd F' a hh) H':=⟨s1.ff.trans (W5 n1),λb u x=>by
    unfold Zd at x;by_cases z:b=a
    ·rw[if_pos z] at x;cases x;subst z;exact e1
    ·rw[if_neg z] at x;exact s1.fh b u x,s1.hh,λb x y=>by
    unfold Zd;by_cases z:b=a
    ·subst z;exact absurd n2 y
    ·rw[if_neg z];exact s1.no b x y,Lf r1.nz s1.nz⟩
   exact q _ _ _ ((R.step s2).set ((Ro.same (W5 n1) r1).rp WN))) λx q=>XG q⟩
def Jx:V->List V->Hp->VK->Prop:=λx vs H Q=>∃l b xs zs,x=.ref l/\vs=[.ref b]/\H l=some (.lst xs)/\Rd H b (.lst zs)/\xs.length+zs.length<=sizeLine/\Q .non (Zd H l (.lst (xs++zs)))
theorem Q1:FW X "list.extend" Jx:=by
 intro ZY s σ H x vs v us Q I rx rv h;obtain⟨l,b,xs,zs,rfl,rfl,hH,hB,hz,q⟩:=h;cases rx;obtain⟨u,rfl,ru⟩:=rv.one;cases ru;obtain⟨z,ZO,n,r,hl,e⟩:=I.lstM hH;obtain⟨z2,its2,n2,r2,hl2,e2⟩:=I.lstR hB;have hsz:ZO.toArray.size+its2.toArray.size<=sizeLine:=by rw[w5,w5];lia
 have hlong:¬ (!ZO.toArray.isEmpty&&Builtin.List.listTooLong (ZO.toArray.size+its2.toArray.size))=true:=by
  rw[Uh hsz,Bool.and_false];exact OS
 refine call_meets F.slot_list_extend ⟨_,e,rfl⟩ F.entry_list_extend (F.args_list_extend_2 _ _)
  (AutoSeq1.list_extend_list_list_0 l ZO.toArray n b its2.toArray n2 hlong (by rw[w5];lia) (by lia)) ⟨e,e2,?_⟩
 refine⟨.non,_,I.lset (its':=ZO++its2) hH e (by simp) (r.append r2) ?_,rfl,q⟩
 rw[t5];lia
def HC(i:Nat) (he:DE X xq e fe) (hN:autoParam (X.N[i]?=some x) aa._auto_1) (hv:autoParam (Ut X.env.scope x) ae._auto_1) (hd:autoParam ((x==("__debug__":Str))=false) ac._auto_1) (Xa:autoParam ((x==("__classdict__":Str))=false) ac._auto_1)
  (hs:autoParam (Zk e=true) aa._auto_1) (Xl:autoParam (attributeBase (.Name x p) "extend" X.env (eval (.Name x p) X.env)=eval (.Name x p) X.env) aa._auto_1) (Xn:autoParam ((Yw.endLine==XS.line)=true) aa._auto_1)
  (hsw:autoParam (swapsWith (.Call (.Attribute (.Name x p) "extend" Yw) [e] [] XS) none pos.line X.env=pure false) aa._auto_1) :
  DS X xq (.Expr (.Call (.Attribute (.Name x p) "extend" Yw) [e] [] XS) pos) (λρ=>(VY ρ i).go ρ λds=>(fe ρ).go ρ λd=>match d with | .lst es=>if ds.length+es.length<=sizeLine then .nx (ρ.set i (some (.own (.l (ds++es))))) else .bad|_=>.bad) :=
 DS.of (L7 (CF Yk PySem.F.slot_list_extend PySem.F.type_list_extend Q1 (U2 hN hv hd Xa) (Ta he.out R8 hs) (by rw[t9,hs];rfl) rfl Xl Xn) hsw) λB F ρ σ H T R q=>by
  obtain⟨ds,e1,q1⟩:=L8 (Wy q.out);obtain⟨l,h,h1,h2,h3,h4,h5⟩:=R.own i _ e1;cases h5 with
  | l hs =>
   refine⟨.ref l,h1,.inl ⟨rfl,_,.inl (.inl h4)⟩,B,F,ρ,R,Res.all_mono (Wy q1) (λd q2 v F' H' st pv=>?_) λ_ z=>XG z⟩
   cases pv with
   | @lst b zs es hq rs =>
    have q2:(if ds.length+es.length<=sizeLine then Out.nx (ρ.set i (some (.own (.l (ds++es))))) else .bad).all _ _ _ _ _:=q2
    by_cases hz:ds.length+es.length<=sizeLine
    ·rw [if_pos hz] at q2
     have R':=R.step st;exact⟨l,b,_,zs,rfl,rfl,st.hh _ _ h4,hq.same st.fh,by rw[hs.length,rs.length];exact hz,q2 σ F' _ (R'.write (e:=e1) h1 (.l ((hs.same st.ff).append rs)))⟩
    ·rw[if_neg hz] at q2;exact q2.elim
   | _=>exact q2.elim
end
@[simp] theorem R9(a:α):YD (Res.ok a)=.ok a:=rfl
@[simp] theorem Gb:YD (Res.bad:Res α)=.bad:=rfl
@[simp] theorem Cc (b:Bool):UI (.bl b)=.ok b:=rfl
@[simp] theorem Ce (g:Int->Int->D) (i j:Int):LL g (.int i) (.int j)=.ok (g i j):=rfl
@[simp] theorem WX (C:Int->Int->Prop) [∀i j,Decidable (C i j)] (g:Int->Int->D) (i j:Int):dI C g (.int i) (.int j)=gd (C i j) (.ok (g i j)):=rfl
@[simp] theorem Ge (ρ:Rho):Ul (.nx ρ)=.ok .non:=rfl
@[simp] theorem Qd (d:D):Ul (.rt d)=.ok d:=rfl
@[simp] theorem Gd (x:D) (ρ:Rho):Ul (.er x ρ)=.err x:=rfl
@[simp] theorem G3:frz []=[]:=rfl
@[simp] theorem G6 (d:D) (ρ:Rho):frz (some (.val d)::ρ)=some (.val d)::frz ρ:=rfl
@[simp] theorem G4 (o:OD) (ρ:Rho):frz (some (.own o)::ρ)=some (.val o.toD)::frz ρ:=rfl
@[simp] theorem IT (ρ:Rho):frz (none::ρ)=none::frz ρ:=rfl
@[simp] theorem G5 (n:Nat):frz (List.replicate n none)=List.replicate n none:=by unfold frz;simp
@[simp] theorem KQ (d:D) (ρ:Rho):Wl (some (.val d)::ρ) 0=.ok d:=rfl
@[simp] theorem KP (x:Option Sl) (ρ:Rho) (i:Nat):Wl (x::ρ) (i+1)=Wl ρ i:=rfl
@[simp] theorem KM (ds:List D) (ρ:Rho):VY (some (.own (.l ds))::ρ) 0=.ok ds:=rfl
@[simp] theorem KL (x:Option Sl) (ρ:Rho) (i:Nat):VY (x::ρ) (i+1)=VY ρ i:=rfl
@[simp] theorem Sx (ds:List D):(OD.l ds).toD=.lst ds:=rfl
@[simp] theorem QT{k:Res α} (h:ds.length<=sizeLine):QS ds k=k:=if_pos h
@[simp] theorem Kl (i:Nat) (ρ:Rho):unset i (.nx ρ)=.nx (ρ.set i none):=rfl
@[simp] theorem IH (hd:D->Rho->Out) (ρ:Rho):TD hd (.nx ρ)=.nx ρ:=rfl
@[simp] theorem II (hd:D->Rho->Out) (d:D):TD hd (.rt d)=.rt d:=rfl
@[simp] theorem IG (hd:D->Rho->Out) (x:D) (ρ:Rho):TD hd (.er x ρ)=hd x ρ:=rfl
@[simp] theorem IK (g g':D->D->Res D) (x y:D) (z:Res D):VX g g' x y z=(YD (g x y)).bind λw=>(UI w).bind λc=>if c=true then z.bind λz=>YD (g' y z) else .ok (.bl false):=rfl
theorem OH{g:D->Rho->Res Rho} (h:D->D):∀{ds:List D},(∀d∈ds,∃ρ1,g d ρ=.ok ρ1/\fT (frz ρ1)=.ok true/\fe ρ1=.ok (h d))->YH g fT fe ρ ds=.ok (ds.map h)
 | [],_=>rfl
 | d::ds,k=>by
  obtain⟨ρ1,k1,k2,k3⟩:=k d z6;simp[YH,k1,k2,k3,OH h λx hx=>k x (z5 _ hx)]
noncomputable def Xx (w:World) (k:List DK):Int:=(DK.t k).hash w
mutual
noncomputable def UJ:D->Option DK
 | .int n=>some (.i n)
 | .str z=>some (.s z)
 | .tup ds=>(Xc ds).map .t
 | _=>none
noncomputable def Xc:List D->Option (List DK)
 | []=>some []
 | d::ds=>match UJ d,Xc ds with
  | some k,some ks=>some (k::ks)
  | _,_=>none
end
mutual
theorem xX:∀(d:D) (k:DK),UJ d=some k->k.toD=d
 | .int n,k,e=>by simp only[UJ] at e;cases e;rfl
 | .str n,k,e=>by simp only[UJ] at e;cases e;rfl
 | .tup ds,k,e=>by
  simp only[UJ] at e;cases q:Xc ds with
  | none=>rw[q] at e;cases e
  | some ks=>rw[q] at e;cases e;simp only[DK.toD];rw[Et ds ks q]
 | .non,_,e | .bl _,_,e | .ty _,_,e | .lst _,_,e | .dct _,_,e | .ins _ _,_,e | .exc _ _,_,e | .dn _ _,_,e | .hdl _,_,e=>by simp only[UJ] at e;cases e
theorem Et:∀(ds:List D) (ks:List DK),Xc ds=some ks->DK.toDs ks=ds
 | [],_,e=>by simp only[Xc] at e;cases e;rfl
 | d::ds,_,e=>by
  simp only[Xc] at e;cases q:UJ d with
  | none=>rw[q] at e;cases e
  | some k =>
   cases q2:Xc ds with
   | none=>rw[q,q2] at e;cases e
   | some ks=>rw[q,q2] at e;cases e;simp only[DK.toDs];rw[xX d k q,Et ds ks q2]
end
noncomputable def V5:D->Res (List DK)
 | .tup ds=>match Xc ds with
  | some ks=>gd (Sj ks=true) (.ok ks)
  | none=>.bad
 | _=>.bad
def A9{P:List DK->Prop} (h:(V5 d).all P E):∃ks,(DK.t ks).toD=d/\Sj ks=true/\P ks:=by
 cases d with
 | tup ds =>
  simp only[V5] at h;cases q:Xc ds with
  | none=>rw[q] at h;exact h.elim
  | some ks =>
   rw[q] at h;obtain⟨h1,h2⟩:=SC h;exact⟨ks,by simp only[DK.toD];rw[Et ds ks q],h1,h2⟩
 | _=>exact h.elim
section
variable {F:Hp}
mutual
theorem Bw (I:Inv X ZY σ H s) (fh:Same F H):∀(k:DK) {v:V}{u:Value},Rp X.K F v k.toD->RelV v u->KAt s.heap k u
 | .i n,_,_,p,r=>by simp only[DK.toD] at p;cases p;obtain⟨t,rfl⟩:=r;exact .i n t
 | .s n,_,_,p,r=>by simp only[DK.toD] at p;cases p;obtain⟨t,rfl⟩:=r;exact .s n t
 | .t ks,_,_,p,r=>by
  simp only[DK.toD] at p;cases p with
  | tup hq hs =>
   cases r;obtain⟨ZO,rv,pl,_⟩:=I.tuple (fh.seqT hq);obtain⟨o,ho,hc,n,hd⟩:=pl;exact .t ho hc hd (by simpa using AW I fh ks hs rv)
theorem AW (I:Inv X ZY σ H s) (fh:Same F H):∀(ks:List DK) {vs:List V}{us:List Value},Rps X.K F vs (DK.toDs ks)->Vals vs us->KAts s.heap ks us
 | [],_,_,p,r=>by simp only[DK.toDs] at p;cases p;cases r;exact .nil
 | k::ks,_,_,p,r=>by
  simp only[DK.toDs] at p;cases p with
  | cons p1 p2 =>
   cases r with
   | cons r1 r2=>exact .cons (Bw I fh k p1 r1) (AW I fh ks p2 r2)
end
def Sf(I:Inv X ZY σ H s) (fh:Same F H) {k:List DK} (o:Sj k=true) (p:Rp X.K F (.ref q) (DK.t k).toD):(WF X.prog X.w).is s.heap k q:=by
 unfold Sj at o;rw[t4] at o;exact⟨Bw I fh _ p rfl,YS o.1,o.2⟩
theorem Rpn.each (I:Inv X ZY σ H s) (fh:Same F H):∀{xs:List (List DK×Addr×Value)}{kvs:List (List DK×D)},Rpn X.K F xs kvs->∀x∈xs,(WF X.prog X.w).is s.heap x.1 x.2.1
 | _,_,.nil,x,hx=>by cases hx
 | _,_,.cons o h r h2 hs,x,hx=>by
  rcases y0.mp hx with rfl|hx
  ·exact Sf I fh o h
  ·exact hs.each I fh x hx
def Oj{xs:List (List DK×Addr×Value)}{kvs:List (List DK×D)} (I:Inv X ZY σ H s) (fh:Same F H) (e:H a=some (KA a (Xx X.w) xs)) (r:Rpn X.K F xs kvs):s.heap.DictOfH (WF X.prog X.w) a xs/\xs.length<=sizeLine/\(a==sysModules)=false:=by
 obtain⟨o,es,ep,h1,h2,h3,h4,h5,h6,h7⟩:=(show ObjOk X.prog X.w H s.heap a (KA a (Xx X.w) xs) from I.hok a _ e).1
 exact⟨⟨o,es,ep,h1,h2,h3,h4,r.each I fh,h5⟩,h6,h7⟩
theorem Rpn.at {k:List DK}:∀{xs:List (List DK×Addr×Value)}{kvs:List (List DK×D)},Rpn X.K F xs kvs->((atKey xs k).isSome=true↔k∈kvs.map (·.1))
 | _,_,.nil=>by simp[atKey]
 | _,_,.cons (k:=k') o h r h2 hs=>by
  have ih:=hs.at (k:=k);by_cases e:k'=k
  ·subst e;simp[atKey]
  ·have e':¬ k=k':=fun z=>e z.symm
   simp only[atKey,Ri,e,decide_false,w9,y0,e',false_or] at ih |-
   exact ih
def Rpn.atB {k:List DK}{xs:List (List DK×Addr×Value)}{kvs:List (List DK×D)} (r:Rpn X.K F xs kvs):(atKey xs k).isSome=decide (k∈kvs.map (·.1)):=by
 rw[Lu,decide_eq_true_iff];exact r.at
noncomputable def IZ (w:World) (WL:Bool) (x:D) (hs:List DK->Int) (kvs:List (List DK×D)):Res D:=(V5 x).bind λk=>@ite _ (hs=Xx w) (_root_.Classical.propDecidable _) (.ok (.bl (if WL=true then !decide (k∈kvs.map (·.1)) else decide (k∈kvs.map (·.1))))) .bad
noncomputable def P9 (w:World) (WL:Bool):D->D->Res D
 | x,.dn hs kvs=>IZ w WL x hs kvs
 | x,y=>SZ WL x y
def Bo (w:World) (WL:Bool) (x:D) (hs:List DK->Int) (kvs:List (List DK×D)):P9 w WL x (.dn hs kvs)=IZ w WL x hs kvs:=by unfold P9;rfl
set_option tactic.hygienic true in
theorem HQ (hu:X.A.units+200<cLine):Y0 X (compareOp .In) (rD X.K (P9 X.w false)):=by
 intro ZY s σ H x y v u Q I rx ry z9101;obtain⟨F,dx,dy,fh,px,py,q⟩:=z9101;cases py with
 | dn hq hr =>
  rw[Bo] at q;unfold IZ at q;obtain⟨k,e,ok,q2⟩:=A9 (Res.all_bind.mp q);clear q;split at q2
  ·rename_i hh
   subst hh;subst e;have px':=px;simp only[DK.toD] at px';cases px' with
   | tup _ _ =>
    cases rx;cases ry;obtain⟨dd,hz,hd⟩:=Oj I fh (fh _ _ hq) hr;refine wpAny_in_heap (knd:=WF X.prog X.w) (by show X.A.units+1+80<cLine;lia) (Sf I fh ok px) hd dd ?_
    rw[hr.atB];exact⟨.bl _,H,I.tok _,rfl,q2 _ F H (Stp.refl fh) (.bl _)⟩
  ·exact q2.elim
 | lst hq hs=>exact T8 (by lia) ZY s σ H x _ v u Q I rx ry ⟨F,dx,_,fh,px,.lst hq hs,q⟩
 | tup hq hs=>exact T8 (by lia) ZY s σ H x _ v u Q I rx ry ⟨F,dx,_,fh,px,.tup hq hs,q⟩
 | str hz=>exact T8 (by lia) ZY s σ H x _ v u Q I rx ry ⟨F,dx,_,fh,px,.str hz,q⟩
 | _=>cases dx<;>exact q.elim
noncomputable def UQ (kvs:List (List DK×D)) (k:List DK) (d:D):List (List DK×D):=if k∈kvs.map (·.1) then kvs.map (λp=>if p.1=k then (p.1,d) else p) else kvs++[(k,d)]
theorem Rpn.length:∀{xs:List (List DK×Addr×Value)}{kvs:List (List DK×D)},Rpn X.K F xs kvs->xs.length=kvs.length
 | _,_,.nil=>rfl
 | _,_,.cons _ _ _ _ hs=>congrArg (·+1) hs.length
theorem Rpn.mapped{k:List DK} (ru:RelV v u) (pd:Rp X.K F v d):∀{xs:List (List DK×Addr×Value)}{kvs:List (List DK×D)},Rpn X.K F xs kvs->Rpn X.K F (xs.map (putAt k u)) (kvs.map (λp=>if p.1=k then (p.1,d) else p))
 | _,_,.nil=>.nil
 | _,_,.cons (k:=k') o h r h2 hs=>by
  by_cases e:k'=k
  ·subst e
   simp only[w9,putAt,if_true];exact .cons o h ru pd (hs.mapped ru pd)
  ·simp only [w9,putAt,if_neg e]
   exact .cons o h r h2 (hs.mapped ru pd)
theorem Rpn.snoc{k:List DK} (o:Sj k=true) (pk:Rp X.K F (.ref q) (DK.t k).toD) (ru:RelV v u) (pd:Rp X.K F v d):∀{xs:List (List DK×Addr×Value)}{kvs:List (List DK×D)},Rpn X.K F xs kvs->Rpn X.K F (xs++[(k,q,u)]) (kvs++[(k,d)])
 | _,_,.nil=>.cons o pk ru pd .nil
 | _,_,.cons o' h r h2 hs=>.cons o' h r h2 (hs.snoc o pk ru pd)
def Rpn.put{k:List DK}{xs:List (List DK×Addr×Value)}{kvs:List (List DK×D)} (o:Sj k=true) (pk:Rp X.K F (.ref q) (DK.t k).toD) (ru:RelV v u) (pd:Rp X.K F v d) (r:Rpn X.K F xs kvs):Rpn X.K F (storedH xs k q u) (UQ kvs k d):=by
 unfold storedH UQ;by_cases e:k∈kvs.map (·.1)
 ·rw[if_pos e,if_pos (r.at.mpr e)];exact r.mapped ru pd
 ·rw[if_neg e,if_neg (λz=>e (r.at.mp z))];exact r.snoc o pk ru pd
def LZ:DN X xq (.Dict [] [] pos) (λ_=>.ok (.n (Xx X.w) [])):=⟨λZY s σ H Q I z9=>Xt z9 λB F ρ R q=>by
 refine wpAny_Dict_empty ⟨.ref s.heap.objs.size,_,I.laid (a:=s.heap.objs.size) (o:=KA s.heap.objs.size (Xx X.w) []) (t':=s.toks) (λ_ _ z=>z0 _ z) (w4 _) ?_,rfl,?_⟩
 ·refine ⟨⟨_,#[],_,z7 _ rfl,⟨rfl,rfl,rfl⟩,rfl,rfl,List.nodup_nil,Us _,?_⟩,⟨_,z7 _ rfl⟩,fun h1 h2 z9102 k=>by obtain ⟨o,es,ep,e1,e2⟩:=z9102;exact ⟨o,es,ep,k _ e1,e2⟩⟩
  exact(Az (P:=X.prog) (w:=X.w) (H:=H) s.heap I.big).2.1
 ·have n:=I.hok.fresh (w4 s.heap.objs.size)
  exact q _ _ F _ (Stp.only R.fh (W5 n)) (R.fh.free n) n WN (.n .nil)⟩
def BF:DN X xq (.Dict [] [] pos) (λ_=>.ok (.d [])):=⟨λZY s σ H Q I z9=>Xt z9 λB F ρ R q=>xL ZY s σ H Q I λd n=>q d _ F _ (Stp.only R.fh (W5 n)) (R.fh.free n) n WN (.d .nil)⟩
end
noncomputable def Ps (ρ:Rho) (i:Nat):Res ((List DK->Int)×List (List DK×D)):=match ρ[i]? with
 | some (some (.own (.n hs kvs)))=>.ok (hs,kvs)
 | _=>.bad
set_option tactic.hygienic true in
def Pt{P:(List DK->Int)×List (List DK×D)->Prop} (h:(Ps ρ i).all P E):∃hs kvs,ρ[i]?=some (some (.own (.n hs kvs)))/\P (hs,kvs):=by
 unfold Ps at h;split at h
 ·rename_i hs kvs e;exact⟨hs,kvs,e,h⟩
 ·exact h.elim
def uJ{xs:List (List DK×Addr×Value)}{k:List DK}:(storedH xs k a u).length<=xs.length+1:=by
 unfold storedH;split
 ·simp
 ·simp
section
variable {i:Expr}{fi:Rho->Res D}
noncomputable def Ue (w:World) (j:Nat) (fi fv:Rho->Res D) (ρ:Rho):Out:=(fv ρ).go ρ λd=>(Ps ρ j).go ρ λo=>(fi ρ).go ρ λkd=>(V5 kd).go ρ λk =>
 @ite _ (o.1=Xx w/\o.2.length<sizeLine) (_root_.Classical.propDecidable _) (.nx (ρ.set j (some (.own (.n o.1 (UQ o.2 k d)))))) .bad
set_option tactic.hygienic true in
theorem Pf (j:Nat) (hu:X.A.units+200<cLine) (hi:DE X xq i fi) (hv:DE X xq value fv) (hN:autoParam (X.N[j]?=some x) aa._auto_1) (hvs:autoParam (Ut X.env.scope x) ae._auto_1) (hd:autoParam ((x==("__debug__":Str))=false) ac._auto_1) (Xa:autoParam ((x==("__classdict__":Str))=false) ac._auto_1)
  (hs:autoParam (swapsWith value (some (.Subscript (.Name x p) i pos')) pos.line X.env=pure false) aa._auto_1):DS X xq (.Assign [.Subscript (.Name x p) i pos'] value pos) (Ue X.w j fi fv):=⟨λZY s σ H T I z9=>Xt z9 λB F ρ R q=>by
 have q:=q.out;unfold Ue at q;refine wpAny_Assign_Subscript (Z2 (hv.out ZY s σ H (λv H1=>∃d F1 a,σ[j]?=some (some (.ref a))/\Stp F H F1 H1/\Rp X.K F1 v d/\∃hs kvs,ρ[j]?=some (some (.own (.n hs kvs)))/\((fi ρ).go ρ λkd=>(V5 kd).go ρ λk=>@ite _ (hs=Xx X.w/\kvs.length<sizeLine) (_root_.Classical.propDecidable _) (.nx (ρ.set j (some (.own (.n hs (UQ kvs k d)))))) .bad).all
  (λρ=>∀σ F H,Rel X.K B ρ σ F H->T.nx σ H) (λd=>∀v F H,Stp B.1 B.2 F H->Rp X.K F v d->T.rt v H) (λρ=>∀σ F H,Rel X.K B ρ σ F H->T.bk σ H) (λρ=>∀σ F H,Rel X.K B ρ σ F H->T.ct σ H) (λρ x=>∀v σ F H,Rel X.K B ρ σ F H->Rp X.K F v x->xq v σ H)) I ?_) λr s1 ⟨v,H1,I1,rv,d,F1,a,ha,st1,pv,hh,kvs,eo,q1⟩ =>
  Z2 (U2 hN hvs hd Xa ZY s1 σ H1 (λx H2=>x=.ref a/\H2=H1) I1 ⟨.ref a,ha,rfl,rfl⟩) λu s2 ⟨y,H2,I2,ry,ey,eH⟩=>?_) hs
 ·refine ⟨B,F,ρ,R,Res.all_mono (Wy q) (fun d q1 v F1 H1 st pv=>?_) fun _ z=>XG z⟩
  obtain⟨hh,kvs,eo,q2⟩:=Pt (Wy q1);obtain⟨a,h,h1,_⟩:=R.own j _ eo;exact⟨d,F1,a,h1,st,pv,hh,kvs,eo,q2⟩
 ·subst ey eH
  cases ry;have R1:=R.step st1;refine Z2 (hi.out ZY s2 σ H2 (λy H3=>∃F3 k,Stp F1 H2 F3 H3/\Rp X.K F3 y (DK.t k).toD/\Sj k=true/\hh=Xx X.w/\kvs.length<sizeLine/\∀σ F H,Rel X.K B (ρ.set j (some (.own (.n hh (UQ kvs k d))))) σ F H->T.nx σ H) I2 ?_) λiv s3 ⟨y,H3,I3,ry,F3,k,st3,pk,ok,eh,hl,q3⟩=>?_
  ·refine ⟨B,F1,ρ,R1,Res.all_mono (Wy q1) (fun kd q2 y F3 H3 st3 py=>?_) fun _ z=>XG z⟩
   obtain⟨k,ek,ok,q3⟩:=A9 (Wy q2);subst ek;split at q3
   ·rename_i c;exact⟨F3,k,st3,py,ok,c.1,c.2,q3⟩
   ·exact q3.elim
  ·subst eh
   have R3:=R1.step st3;obtain⟨a',h,h1,h2,h3,h4,h5⟩:=R3.own j _ eo;rw[ha] at h1;cases h1;cases h5 with
   | n hr =>
    have pk':=pk;simp only[DK.toD] at pk';cases pk' with
    | @tup b _ _ _ _ =>
     cases ry;obtain⟨dd,hz,hsy⟩:=Oj I3 R3.fh h4 hr;refine wpAny_setItem_heap (knd:=WF X.prog X.w) (hsz:=hz) (by show X.A.units+1+80<cLine;lia) (Sf I3 R3.fh ok pk) dd λh' dd' sb=>?_
     obtain⟨o,es,ep,e1,e2,e3,e4,_,e5⟩:=dd';have pv3:=pv.same st3.ff;refine⟨σ,_,Fm (ob:=KA a (Xx X.w) (storedH _ k b r)) I3 (by rw[h4];exact True.intro) sb ⟨o,e1⟩ ⟨⟨o,es,ep,e1,e2,e3,e4,e5,?_,hsy⟩,⟨o,e1⟩,λg1 g2 z9106 kk=>by obtain⟨o,es,ep,f1,f2⟩:=z9106;exact⟨o,es,ep,kk _ f1,f2⟩⟩,q3 σ F3 _ (R3.write (e:=eo) ha (.n (hr.put ok pk rv pv3)))⟩
     exact v7 uJ (by rw[hr.length];lia)⟩
end
noncomputable def Sa:D->Res Ys
 | .int i=>.ok (.inl i)
 | .str z=>.ok (.inr z)
 | _=>.bad
def AV{F:Hp}{P:Ys->Prop} (p:Rp K F v d) (h:(Sa d).all P E):∃k,v=kV k/\P k:=by
 cases p with
 | int i=>exact⟨.inl i,rfl,h⟩
 | str _=>exact⟨.inr _,rfl,h⟩
 | _=>exact h.elim
noncomputable def Pi:D->Ys->Bool
 | .int i,.inl j=>decide (i=j)
 | .str a,.inr b=>decide (a=b)
 | _,_=>false
def Lk (k' k:Ys):Pi (kD k') k=decide (k'=k):=by
 cases k'<;>cases k<;>simp[Pi,kD]
noncomputable def Tb (ps:List (D×D)) (k:Ys) (d:D):List (D×D):=if ps.any (λp=>Pi p.1 k)=true then ps.map (λp=>if Pi p.1 k=true then (p.1,d) else p) else ps++[(kD k,d)]
noncomputable def Ur (ps:List (D×D)) (k:Ys):Option D:=(ps.find? λp=>Pi p.1 k).map (·.2)
section
variable {F:Hp}
theorem Rpk.length:∀{kvs:List (Ys×V)}{ps:List (D×D)},Rpk K F kvs ps->kvs.length=ps.length
 | _,_,.nil=>rfl
 | _,_,.cons _ hs=>congrArg (·+1) hs.length
theorem Rpk.any {k:Ys}:∀{kvs:List (Ys×V)}{ps:List (D×D)},Rpk K F kvs ps->(kvs.any λkv=>decide (kv.1=k))=ps.any (λp=>Pi p.1 k)
 | _,_,.nil=>rfl
 | _,_,.cons h hs=>by simp only[List.any_cons,Lk,hs.any]
theorem Rpk.mapped{k:Ys} (pd:Rp K F v d):∀{kvs:List (Ys×V)}{ps:List (D×D)},Rpk K F kvs ps->Rpk K F (kvs.map (λkv=>if kv.1=k then (kv.1,v) else kv)) (ps.map (λp=>if Pi p.1 k=true then (p.1,d) else p))
 | _,_,.nil=>.nil
 | _,_,.cons (k:=k') h hs=>by
  by_cases e:k'=k
  ·simp only[w9,Lk,e,decide_true,if_true];exact .cons pd (hs.mapped pd)
  ·simp only[w9,Lk,e,decide_false,if_false];exact .cons h (hs.mapped pd)
theorem Rpk.snoc{k:Ys} (pd:Rp K F v d):∀{kvs:List (Ys×V)}{ps:List (D×D)},Rpk K F kvs ps->Rpk K F (kvs++[(k,v)]) (ps++[(kD k,d)])
 | _,_,.nil=>.cons pd .nil
 | _,_,.cons h hs=>.cons h (hs.snoc pd)
def Rpk.put{k:Ys}{kvs:List (Ys×V)}{ps:List (D×D)} (pd:Rp K F v d) (r:Rpk K F kvs ps):Rpk K F (W0 kvs k v) (Tb ps k d):=by
 unfold W0 Tb;rw[r.any (k:=k)];split
 ·exact r.mapped pd
 ·exact r.snoc pd
theorem Rpk.val {k:Ys}:∀{kvs:List (Ys×V)}{ps:List (D×D)},Rpk K F kvs ps->(match Ur ps k with|some d=>∃v,Wp kvs k=some v/\Rp K F v d|none=>Wp kvs k=none)
 | _,_,.nil=>rfl
 | _,_,.cons (k:=k') h hs=>by
  have ih:=hs.val (k:=k);by_cases e:k'=k
  ·subst e;simp only[Ur,Wp,Ri,Lk,decide_true,Option.map_some];exact⟨_,rfl,h⟩
  ·simp only[Ur,Wp,Ri,Lk,e,decide_false] at ih |-;exact ih
end
noncomputable def Ti (ρ:Rho) (i:Nat):Res (List (D×D)):=match ρ[i]? with
 | some (some (.own (.d kvs)))=>.ok kvs
 | _=>.bad
set_option tactic.hygienic true in
def RV{P:List (D×D)->Prop} (h:(Ti ρ i).all P E):∃kvs,ρ[i]?=some (some (.own (.d kvs)))/\P kvs:=by
 unfold Ti at h;split at h
 ·rename_i kvs e;exact⟨kvs,e,h⟩
 ·exact h.elim
section
variable {i:Expr}{fi:Rho->Res D}
noncomputable def Th (j:Nat) (fi fv:Rho->Res D) (ρ:Rho):Out:=(fv ρ).go ρ λd=>(Ti ρ j).go ρ λps=>(fi ρ).go ρ λkd=>(Sa kd).go ρ λk=>if ps.length<sizeLine then .nx (ρ.set j (some (.own (.d (Tb ps k d))))) else .bad
theorem Pe (j:Nat) (hu:X.A.units+200<cLine) (hi:DE X xq i fi) (hv:DE X xq value fv) (hN:autoParam (X.N[j]?=some x) aa._auto_1) (hvs:autoParam (Ut X.env.scope x) ae._auto_1) (hd:autoParam ((x==("__debug__":Str))=false) ac._auto_1) (Xa:autoParam ((x==("__classdict__":Str))=false) ac._auto_1)
  (hs:autoParam (swapsWith value (some (.Subscript (.Name x p) i pos')) pos.line X.env=pure false) aa._auto_1):DS X xq (.Assign [.Subscript (.Name x p) i pos'] value pos) (Th j fi fv) :=
 DS.of (Qv (by lia) (U2 hN hvs hd Xa) hi.out hv.out hs) λB F ρ σ H T R q=>by
  have q:=q.out;unfold Th at q;refine⟨B,F,ρ,R,Res.all_mono (Wy q) (λd q1 v F1 H1 st pv=>?_) λ_ z=>XG z⟩
  obtain⟨ps,eo,q2⟩:=RV (Wy q1);have R1:=R.step st;obtain⟨a,h,h1,h2,h3,h4,h5⟩:=R1.own j _ eo;refine⟨.ref a,h1,B,F1,ρ,R1,Res.all_mono (Wy q2) (λkd q3 y F3 H3 st3 py=>?_) λ_ z=>XG z⟩
  have R3:=R1.step st3;obtain⟨k,ek,q4⟩:=AV py (Wy q3);subst ek;obtain⟨a',h',g1,g2,g3,g4,g5⟩:=R3.own j _ eo;rw[h1] at g1;cases g1;cases g5 with
  | d hr =>
   by_cases hz:ps.length<sizeLine
   ·rw [if_pos hz] at q4
    exact⟨a,_,rfl,DPut.k g4 (by rw[hr.length];exact hz),q4 σ F3 _ (R3.write (e:=eo) h1 (.d (hr.put (pv.same st3.ff))))⟩
   ·rw[if_neg hz] at q4;exact q4.elim
noncomputable def TF (w:World) (WL:Bool):D->D->Res D
 | x,.dct ps=>(Sa x).bind λk=>.ok (.bl (if WL=true then !(Ur ps k).isSome else (Ur ps k).isSome))
 | x,y=>P9 w WL x y
def xY (w:World) (WL:Bool) (x:D) (ps:List (D×D)):TF w WL x (.dct ps)=(Sa x).bind λk=>.ok (.bl (if WL=true then !(Ur ps k).isSome else (Ur ps k).isSome)):=by unfold TF;rfl
theorem Jh (hu:X.A.units+200<cLine):Y0 X (compareOp .In) (rD X.K (TF X.w false)):=by
 intro ZY s σ H x y v u Q I rx ry z9107;obtain⟨F,dx,dy,fh,px,py,q⟩:=z9107;cases py with
 | @dK a kvs ps hq hr =>
  rw[xY] at q;obtain⟨k,ek,q2⟩:=AV px (Res.all_bind.mp q);subst ek;cases ry;refine Cg (by lia) I (DGet.k (fh _ _ hq)) rx λs' I'=>⟨.bl _,H,I',rfl,?_⟩
  have:=hr.val (k:=k)
  cases e:Ur ps k with
  | none=>rw[e] at this q2;rw[this];exact q2 _ F H (Stp.refl fh) (.bl _)
  | some d=>rw[e] at this q2;obtain⟨z,hz,_⟩:=this;rw[hz];exact q2 _ F H (Stp.refl fh) (.bl _)
 | lst hq hs=>exact HQ hu ZY s σ H x _ v u Q I rx ry ⟨F,dx,_,fh,px,.lst hq hs,q⟩
 | tup hq hs=>exact HQ hu ZY s σ H x _ v u Q I rx ry ⟨F,dx,_,fh,px,.tup hq hs,q⟩
 | str hz=>exact HQ hu ZY s σ H x _ v u Q I rx ry ⟨F,dx,_,fh,px,.str hz,q⟩
 | dn hq hs=>exact HQ hu ZY s σ H x _ v u Q I rx ry ⟨F,dx,_,fh,px,.dn hq hs,q⟩
 | _=>cases dx<;>exact q.elim
end
noncomputable def Pn (C0:Addr) (f:Str):D->Res D
 | .ins C gs=>if C=C0 then (match gs.lookup f with|some d=>.ok d|none=>.bad) else .bad
 | _=>.bad
noncomputable def T3 (ρ:Rho) (j:Nat):Res (Addr×Addr×List (Str×D)):=match ρ[j]? with
 | some (some (.own (.i a C gs)))=>.ok (a,C,gs)
 | _=>.bad
set_option tactic.hygienic true in
def Bg{P:Addr×Addr×List (Str×D)->Prop} (h:(T3 ρ i).all P E):∃a C gs,ρ[i]?=some (some (.own (.i a C gs)))/\P (a,C,gs):=by
 unfold T3 at h;split at h
 ·rename_i a C gs e;exact⟨a,C,gs,e,h⟩
 ·exact h.elim
section
variable {o:Expr}{f:Str}
def HS(c:Cls K C0) (n:NoAttr K C0 f) (ho:DE X xq o fo) (eK:autoParam (X.K=K) aa._auto_1) (hb:autoParam (attributeBase o f X.env (eval o X.env)=eval o X.env) aa._auto_1):DE X xq (.Attribute o f pos) (λρ=>(fo ρ).bind (Pn C0 f)):=by
 subst eK;refine DE.of (FF ho.out hb) λB F ρ σ H Q R q=>Yd R q λd v F1 H1 s1 R1 p1 q1=>?_
 cases p1 with
 | @ins a C dx gs0 gs h1 h2 =>
  unfold Pn at q1;dsimp only at q1;by_cases hc:C=C0
  ·rw [if_pos hc] at q1
   subst hc;cases hl:gs.lookup f with
   | none=>rw[hl] at q1;exact q1.elim
   | some d =>
    rw[hl] at q1;obtain⟨v,hv,pv⟩:=h2.lookup hl;exact⟨a,C,dx,gs0,v,rfl,R1.fh _ _ h1,c,n,hv,q1 v F1 H1 s1 pv⟩
  ·rw[if_neg hc] at q1;exact q1.elim
 | _=>exact q1.elim
def BG(j:Nat) (c:Cls K C0) (n:NoAttr K C0 f) (eK:autoParam (X.K=K) aa._auto_1) (hN:autoParam (X.N[j]?=some x) aa._auto_1) (hvs:autoParam (Ut X.env.scope x) ae._auto_1) (hd:autoParam ((x==("__debug__":Str))=false) ac._auto_1) (Xa:autoParam ((x==("__classdict__":Str))=false) ac._auto_1)
  (hb:autoParam (attributeBase (.Name x p) f X.env (eval (.Name x p) X.env)=eval (.Name x p) X.env) aa._auto_1):DE X xq (.Attribute (.Name x p) f pos) (λρ=>(T3 ρ j).bind λt=>if t.2.1=C0 then (match t.2.2.lookup f with|some d=>.ok d|none=>.bad) else .bad):=by
 subst eK;refine DE.of (FF (U2 hN hvs hd Xa) hb) λB F ρ σ H Q R q=>?_
 obtain⟨a,C,gs,e1,q1⟩:=Bg (Res.all_bind.mp q);obtain⟨a',h,h1,h2,h3,h4,h5⟩:=R.own j _ e1;cases h5 with
 | @i _ dx fs0 _ hr =>
  dsimp only at q1;by_cases hc:C=C0
  ·rw [if_pos hc] at q1
   subst hc;cases hl:gs.lookup f with
   | none=>rw[hl] at q1;exact q1.elim
   | some d =>
    rw[hl] at q1;obtain⟨v,hv,pv⟩:=hr.lookup hl;exact⟨.ref a,h1,a,C,dx,fs0,v,rfl,h4,c,n,hv,q1 v F H (Stp.refl R.fh) pv⟩
  ·rw[if_neg hc] at q1;exact q1.elim
theorem Rpf.length{F:Hp}:∀{fs:List (Str×V)}{gs:List (Str×D)},Rpf K F fs gs->fs.length=gs.length
 | _,_,.nil=>rfl
 | _,_,.cons _ hs=>congrArg (·+1) hs.length
noncomputable def Um (f:Str) (d:D):List (Str×D)->List (Str×D)
 | []=>[(f,d)]
 | (g,x)::r=>if g=f then (g,d)::r else (g,x)::Um f d r
theorem Rpf.put{F:Hp}{f:Str} (pd:Rp K F v d):∀{fs:List (Str×V)}{gs:List (Str×D)},Rpf K F fs gs->Rpf K F (WM f v fs) (Um f d gs)
 | _,_,.nil=>.cons pd .nil
 | _,_,.cons (k:=k) h hs=>by
  unfold WM Um;by_cases e:k=f
  ·rw[if_pos e,if_pos e];exact .cons pd hs
  ·rw[if_neg e,if_neg e];exact .cons h (hs.put pd)
def RA(j:Nat) (c:Cls K C0) (n:NoAttr K C0 f) (hv:DE X xq value fv) (eK:autoParam (X.K=K) aa._auto_1) (hN:autoParam (X.N[j]?=some x) aa._auto_1) (hvs:autoParam (Ut X.env.scope x) ae._auto_1) (hd:autoParam ((x==("__debug__":Str))=false) ac._auto_1) (Xa:autoParam ((x==("__classdict__":Str))=false) ac._auto_1)
  (hs:autoParam (swapsWith value (some (.Attribute (.Name x p) f pos')) pos.line X.env=pure false) aa._auto_1) :
  DS X xq (.Assign [.Attribute (.Name x p) f pos'] value pos) (λρ=>(fv ρ).go ρ λd=>(T3 ρ j).go ρ λt=>if t.2.1=C0/\t.2.2.length<1000 then .nx (ρ.set j (some (.own (.i t.1 t.2.1 (Um f d t.2.2))))) else .bad):=by
 subst eK;refine DS.of (N0 (U2 hN hvs hd Xa) hv.out hs) λB F ρ σ H T R q=>⟨B,F,ρ,R,Res.all_mono (Wy q.out) (λd q1 v F1 H1 st pv=>?_) λ_ z=>XG z⟩
 obtain⟨a,C,gs,e1,q2⟩:=Bg (Wy q1);have R1:=R.step st;obtain⟨a',h,h1,h2,h3,h4,h5⟩:=R1.own j _ e1;cases h5 with
 | @i _ dx fs0 _ hr =>
  dsimp only at q2;by_cases hc:C=C0/\gs.length<1000
  ·rw [if_pos hc] at q2
   obtain⟨rfl,hl⟩:=hc;exact⟨.ref a,h1,a,C,dx,fs0,rfl,h4,c,n,by rw[hr.length];exact hl,q2 σ F1 _ (R1.write (e:=e1) h1 (.i (hr.put pv)))⟩
  ·rw[if_neg hc] at q2;exact q2.elim
noncomputable def Ma (C0:Addr) (m:Str) (x:D):Res D:=match x with
 | .ins C gs=>if C=C0/\gs.lookup m=none then .ok x else .bad
 | _=>.bad
theorem E8{F:Hp}:∀{fs:List (Str×V)}{gs:List (Str×D)},Rpf K F fs gs->gs.lookup m=none->fs.lookup m=none
 | _,_,.nil,_=>rfl
 | _,_,.cons (k:=k) h hs,e=>by
  rw[u5] at e |-
  cases q:m==k with
  | true=>rw[q] at e;cases e
  | false=>rw[q] at e;exact E8 hs e
def Mb{F:Hp}{P:D->Prop} (p:Rp K F v d) (h:(Ma C0 m d).all P E):∃a dx fs,v=.ref a/\F a=some (.ins C0 dx fs)/\fs.lookup m=none/\P d:=by
 cases p with
 | @ins a C dx fs gs h1 h2 =>
  unfold Ma at h;dsimp only at h;by_cases hc:C=C0/\gs.lookup m=none
  ·rw [if_pos hc] at h
   obtain⟨rfl,hl⟩:=hc;exact⟨a,dx,fs,rfl,h1,E8 h2 hl,h⟩
  ·rw[if_neg hc] at h;exact h.elim
 | _=>exact h.elim
end
noncomputable def wo (H:Hp) (a:Addr):Hp:=λb=>if b=a then none else H b
def OQ (H:Hp) (a:Addr):wo H a a=none:=if_pos rfl
def SG{b:Addr} (h:b≠a):wo H a b=H b:=if_neg h
def EZ (H:Hp) (a:Addr):Same (wo H a) H:=λb o e=>by
 by_cases z:b=a
 ·subst z;rw[OQ] at e;cases e
 ·rw[SG z] at e;exact e
noncomputable def WW (n:Nat) (a C:Addr) (ds:List D):Rho:=some (.own (.i a C []))::ZV (n - 1) ds
noncomputable def T9 (a C:Addr):Out->Res (List (Str×D))
 | .nx ρ=>match ρ[(0:Nat)]? with
  | some (some (.own (.i a' C' gs)))=>if a'=a/\C'=C then .ok gs else .bad
  | _=>.bad
 | .er x _=>.err x
 | _=>.bad
def DQ:(ZV n ds)[i]?≠some (some (.own o)):=λe=>by
 unfold ZV at e;rw[Ls] at e;split at e
 ·rw [w6] at e
  cases q:ds[i]? with
  | none=>rw[q] at e;cases e
  | some d'=>rw[q] at e;cases e
 ·rw [t8] at e
  split at e<;>simp at e
def zO{F:Hp}{dx:Addr} (fh:Same F H) (fa:F a=none) (ha:H a=some (.ins C dx [])) (r:Rps K F YO ds) :
  Rel K (F,wo H a) (WW N.length a C ds) (start N (.ref a::YO)) F H:=by
 have e:start N (.ref a::YO)=some (.ref a)::start N.tail YO:=by
  unfold start;rw[w9,List.cons_append,u6,List.length_tail,Nat.sub_sub,Nat.add_comm 1]
 have R0:Rel K (F,H) (ZV (N.length - 1) ds) (start N.tail YO) F H:=by
  have:=r.begin (N:=N.tail) fh
  rwa [List.length_tail] at this
 rw[e];unfold WW;refine⟨⟨Same.refl F,fh,EZ H a,λ_ n _=>n,λ_ _ _ q=>q⟩,by simp[R0.len],λi d q=>?_,λi o q=>?_,λi j o u b q1 q2 x y=>?_⟩
 ·cases i with
  | zero=>cases q
  | succ i=>exact R0.val i d q
 ·cases i with
  | zero=>cases q;exact⟨a,_,rfl,fa,OQ H a,ha,.i .nil⟩
  | succ i=>exact absurd q DQ
 ·cases i with
  | zero =>
   cases j with
   | zero=>rfl
   | succ j=>exact absurd q2 DQ
  | succ i=>exact absurd q1 DQ
section
variable {F:Hp}
def Bv(I:Inv X ZY σ H s) (rx:RelV v u) (fh:Same F H) (pv:Rp X.K F v d) (ht:UU d=some t):∃Hh:Heap->Prop,W.KitX X.K u (.type t) Hh/\Hh s.heap/\u≠.builtin "__main__.__loader__#opaque":=by
 cases pv with
 | non=>cases ht;cases (show u=Value.none from rx);exact⟨_,W.kitx_none,True.intro,λz=>nomatch z⟩
 | bl y=>cases ht;cases (show u=Value.bool y from rx);exact⟨_,W.kitx_bool,True.intro,λz=>nomatch z⟩
 | int i=>cases ht;obtain⟨t,q⟩:=(show ∃t,u=Value.int i t from rx);cases q;exact⟨_,W.kitx_int,True.intro,λz=>nomatch z⟩
 | @str z hz=>cases ht;obtain⟨t,q⟩:=(show ∃t,u=Value.str z t from rx);cases q;exact⟨_,W.kitx_str,True.intro,λz=>nomatch z⟩
 | ty T=>cases ht
 | @lst a xs ds hq hs =>
  cases ht;cases (show u=Value.ref a from rx)
  obtain⟨z,ZO,n,r,hl,e⟩:=I.lstR (hq.same fh);exact⟨_,W.kitx_list,⟨_,e,rfl⟩,λz=>nomatch z⟩
 | @tup a xs ds hq hs =>
  cases ht;cases (show u=Value.ref a from rx)
  obtain⟨ZO,r,p,hz⟩:=I.tuple (fh.seqT hq);obtain⟨ob,h1,h2,_⟩:=p;exact⟨_,W.kitx_tuple,⟨ob,h1,h2⟩,λz=>nomatch z⟩
 | @dK a kvs ps hq hs =>
  cases ht;cases (show u=Value.ref a from rx)
  obtain⟨_,_,vs,_,p⟩:=(show ObjOk X.prog X.w H s.heap a (.dK kvs) from I.hok a _ (fh _ _ hq))
  obtain⟨ob,es,ep,h1,h2,_⟩:=p;exact⟨_,W.kitx_dict,⟨ob,h1,h2.1⟩,λz=>nomatch z⟩
 | ins hq hs=>cases ht
 | exc hq hr hs=>cases ht
 | dn hq hs=>cases ht
 | hdl a=>cases ht
noncomputable def S6 (t:String):List String->Option Bool
 | []=>some false
 | T::r=>match KR t T with
  | some true=>some true
  | some false=>S6 t r
  | none=>none
theorem Ab(K:W.Frag)  (ht:UU d=some t):∀{Ts:List String}{b:Bool},S6 t Ts=some b->W.kitAny K (.type t) (Ts.map Value.type)=some b
 | [],_,e=>by cases e;rfl
 | T::r,b,e=>by
  simp only[S6] at e;cases q:KR t T with
  | none=>rw[q] at e;cases e
  | some c =>
   rw[q] at e;simp only[w9,W.kitAny,AZ K ht q];cases c with
   | true=>exact e
   | false=>exact Ab K ht e
noncomputable def V9:List D->Option (List String)
 | []=>some []
 | .ty T::r=>(V9 r).map (T::·)
 | _=>none
theorem yS:∀{ts:List D}{Ts:List String}{xs:List V}{us:List Value},V9 ts=some Ts->Rps K F xs ts->Vals xs us->us=Ts.map Value.type
 | [],_,_,_,e,p,r=>by cases e;cases p;cases r;rfl
 | d::ts,Ts,_,_,e,p,r=>by
  cases d<;>simp only[V9,reduceCtorEq] at e
  cases q:V9 ts with
  | none=>rw[q] at e;cases e
  | some Ts' =>
   rw[q] at e;cases e;cases p with
   | cons p1 p2 =>
    cases p1;cases r with
    | cons r1 r2=>cases r1;rw[yS q p2 r2];rfl
noncomputable def O9 (d:D) (ts:List D):Res D:=match UU d with
 | some t=>match V9 ts with
  | some Ts=>match S6 t Ts with
   | some b=>.ok (.bl b)
   | none=>.bad
  | none=>.bad
 | none=>.bad
noncomputable def Wk:List D->Res D
 | [d,.tup ts]=>O9 d ts
 | ds=>Ck ds
set_option tactic.hygienic true in
def UX:YG X (.builtin "isinstance") (So X.K Wk):=by
 intro ZY s σ H xs us Q I r z9108;obtain⟨F,ds,fh,ps,q⟩:=z9108;unfold Wk at q;split at q
 ·rename_i d ts
  obtain⟨v,w,rfl,pv,pw⟩:=TR ps;unfold O9 at q;cases ht:UU d with
  | none=>rw[ht] at q;exact q.elim
  | some t =>
   rw[ht] at q;cases hT:V9 ts with
   | none=>simp only[hT] at q;exact q.elim
   | some Ts =>
    simp only[hT] at q;cases hb:S6 t Ts with
    | none=>simp only[hb] at q;exact q.elim
    | some bb =>
     simp only[hb] at q;cases pw with
     | @tup a zs _ hq hs =>
      obtain⟨u,u',rfl,ru,ru'⟩:=vals2 r;cases ru';obtain⟨ZO,rv,p,hz⟩:=I.tuple (fh.seqT hq);obtain⟨⟨cls,dd,data,sl⟩,ho,hc,n,hd⟩:=p;dsimp only at hc hd;subst hc hd;obtain⟨Hh,Z,hh,ne⟩:=Bv I ru fh pv ht;have ei:=yS hT hs rv;exact W.kia_tup Z I.kIn hh ho (by rw[ei];exact Ab X.K ht hb) ne λtk=>⟨.bl bb,H,I.tok _,rfl,q _ F H (Stp.refl fh) (.bl bb)⟩
 ·exact yb ZY s σ H xs us Q I r ⟨F,ds,fh,ps,q⟩
noncomputable def Cf:D->Res D
 | .int i=>.ok (.int (-i))
 | _=>.bad
def Kk:Ir X (unaryOp .USub) (yv X.K Cf):=by
 intro ZY s σ H x v Q I rx z9109;obtain⟨F,d,fh,px,q⟩:=z9109;cases px with
 | int i=>exact NE ZY s σ H _ v Q I rx ⟨i,rfl,q _ F H (Stp.refl fh) (.int _)⟩
 | _=>exact q.elim
end
section
variable {a:Expr}{fa:Rho->Res D}
def vK{g g':D->D->Res D}{Q:VK} (h:WE K xq (λρ=>(fa ρ).bind λx=>(fb ρ).bind λy=>VX g g' x y (fc ρ)) σ H Q):U0 (rD K g) (rD K g') (WE K xq fa) (WE K xq fb) (WE K xq fc) σ H Q:=by
 obtain⟨B,F,ρ,R,q⟩:=h;exact Yd R q λd v F1 H1 s1 R1 p1 q1=>Yd R1 q1 λd2 v2 F2 H2 s2 R2 p2 q2=>by
  refine⟨F2,d,d2,R2.fh,p1.same s2.ff,p2,?_⟩;unfold VX at q2;have q3:=Res.all_bind.mp q2;generalize g d d2=r at q3;cases r with
  | err x=>exact q3
  | bad=>exact q3
  | ok w =>
   obtain⟨k,rfl,q4⟩:=Nw (Res.all_bind.mp (show((UI w).bind _).all _ _ from q3))
   intro v3 F3 H3 s3 p3;refine⟨k,p3.blI,?_⟩;have s03:=(s1.trans s2).trans s3;cases k with
   | false=>exact q4 (.bl false) F3 H3 s03 (.bl false)
   | true=>exact Yd (R2.step s3) q4 λd4 v4 F4 H4 s4 R4 p4 q5=>⟨F4,d2,d4,R4.fh,(p2.same s3.ff).same s4.ff,p4,VM (s03.trans s4) q5⟩
def Ax {op op':CmpOp}{g g':D->D->Res D} (ho:Y0 X (compareOp op) (rD X.K g)) (ho':Y0 X (compareOp op') (rD X.K g')) (ha:DE X xq a fa) (hb:DE X xq b fb) (hc:DE X xq c fc) (hm:autoParam (lastMarks [op,op'] [b,c]=false) ak._auto_1) :
  DT X xq (.Compare a [op,op'] [b,c] pos) (λρ=>((fa ρ).bind λx=>(fb ρ).bind λy=>VX g g' x y (fc ρ)).bind UI) :=
 DT.of (xF ho ho' ha.out hb.out hc.out hm) λB F ρ σ H Q R q=>vK (JN (P:=λ_=>True) R q)
end
def tz (t:SetTable) (n:Nat):(t.orStandIn n).led=t.led:=by
 unfold SetTable.orStandIn
 split<;>rfl
def vF (t:SetTable) (es:Array (Int×Value)) (h:Int) (x:Value):(layNew t es h x).2.1.led=t.led:=by
 unfold layNew;split
 ·exact tz _ _
 ·rfl
def yN{t t':SetTable}{hs:Array Int}{o:Array Nat} (e:t.relaid hs n=some (t',o)):t'.led=t.led/\t'.plain=t.plain:=by
 unfold SetTable.relaid SetTable.laid at e;cases q:SetTable.layClean (SetTable.sizeAbove n - 1) hs with
 | none=>rw[q] at e;cases e
 | some ow=>rw[q] at e;cases e;exact⟨rfl,rfl⟩
set_option tactic.hygienic true in
def tT (t:SetTable) (es:Array (Int×Value)) (n:Nat):(relayAll t es n).2.1.led=t.led:=by
 unfold relayAll;split
 ·rename_i t' order e
  dsimp only;split
  ·exact(yN e).1
  ·rfl
 ·rfl
set_option tactic.hygienic true in
def sV (t:SetTable) (es:Array (Int×Value)) (n:Nat) (q:t.plain=false):(relayAll t es n).2.1.plain=false:=by
 unfold relayAll;split
 ·rename_i t' order e
  dsimp only;split
  ·exact(yN e).2.trans q
  ·rfl
 ·rfl
noncomputable def Xf (ss:List Str) (x:Str):List Str:=if x∈ss then ss else ss++[x]
def SetT (P:Program) (w:World) (h:Heap) (a:Addr) (ss:List Str):Prop :=
 ∃o es ep t,h.get? a=some o/\o.ExactSet/\o.data=.set es ep t/\ElemsOf (PySem.strKind P w) es.toList/\(es.toList.map λe=>strOf e.2).Perm ss/\ss.Nodup/\es.size<scanBound/\t.fits es.size=true /\
  t.led=(!w.params.followText "set-order")/\(0<es.size->t.plain=false)
section
variable {E:VP}
def Aw {es:List (Int×Value)} (h:ElemsOf (PySem.strKind P w) es) {e:Int×Value} (he:e∈es):∃x t,e.2=.str x t:=by
 obtain⟨⟨k,hk,_⟩,_⟩:=h e he;obtain⟨t,q⟩:=Value.isStrOf_shape hk;exact⟨k,t,q⟩
def Bj {es:List (Int×Value)} (h:ElemsOf (PySem.strKind P w) es) {e:Int×Value} (he:e∈es) (x:Str):(PySem.strKind P w).is x e.2=decide (strOf e.2=x):=by
 obtain⟨y,t,q⟩:=Aw h he;rw[q];show Value.isStrOf x (.str y t)=_;show(y==x)=decide (y=x);by_cases q:y=x
 ·subst q;simp
 ·rw[ZE q];exact beq_eq_false_iff_ne.mpr q
def wN{es:List (Int×Value)} (h:ElemsOf (PySem.strKind P w) es) (p:(es.map λe=>strOf e.2).Perm ss) (q:es.findIdx? (λe=>(PySem.strKind P w).is x e.2)=none):x∉ss:=λm=>by
 obtain⟨e,he,ee⟩:=u3.mp (p.mem_iff.mpr m)
 have:=List.findIdx?_eq_none_iff.mp q e he
 rw[Bj h he,decide_eq_false_iff_not] at this;exact this ee
def wM{es:List (Int×Value)} (h:ElemsOf (PySem.strKind P w) es) (p:(es.map λe=>strOf e.2).Perm ss) (q:es.findIdx? (λe=>(PySem.strKind P w).is x e.2)=some j):x∈ss:=by
 obtain⟨hj,hp,_⟩:=List.findIdx?_eq_some_iff_getElem.mp q;have he:es[j]∈es:=t7 hj;rw[Bj h he,decide_eq_true_eq] at hp;exact p.mem_iff.mp (u3.mpr ⟨_,he,hp⟩)
def Ss{o:Obj}{es es':Array (Int×Value)}{t t':SetTable} (ho:s.heap.get? a=some o) (hex:o.ExactSet) (hd:o.data=.set es ep t) (el:ElemsOf (PySem.strKind P w) es'.toList)
  (p:(es'.toList.map λe=>strOf e.2).Perm ss) (nd:ss.Nodup) (hb:es'.size<scanBound) (hf:t'.fits es'.size=true) (hl:t'.led=(!w.params.followText "set-order")) (hp:t'.plain=false) :
  (s.heap.update a (Obj.putSet es' t')).get? a=some { o with data:=.set es' (ep+1) t' }/\SetT P w (s.heap.update a (Obj.putSet es' t')) a ss:=by
 obtain⟨g,_⟩:=SetOf_store (knd:=PySem.strKind P w) (S':=λk=>es'.toList.any λe=>(PySem.strKind P w).is k e.2) ho hex hd el (λk=>List.any_eq_true) hb hf
 exact⟨g,_,es',ep+1,t',g,hex,rfl,el,p,nd,hb,hf,hl,λ_=>hp⟩
def zP{g:Bool->Sem Unit} (hg:∀(b:Bool) (s₁:Shared) (Q':Unit->Shared->Prop),Q' () s₁->wpAny (model P w) A (g b) Q' E s₁) {o:Obj}{es es1:Array (Int×Value)}{t t2:SetTable}
  (ho:s.heap.get? a=some o) (hex:o.ExactSet) (hd:o.data=.set es ep t) (el:ElemsOf (PySem.strKind P w) es1.toList) (p:(es1.toList.map λe=>strOf e.2).Perm ss) (nd:ss.Nodup) (hb:es1.size<scanBound)
  (hf:t2.fits es1.size=true) (hl:t2.led=(!w.params.followText "set-order")) (hp:t2.plain=false) {R:Option Bool->Shared->Prop} (h:∀h',Heap.SameBut a s.heap h'->SetT P w h' a ss->R (some true) { s with heap:=h' }) :
  wpAny (model P w) A (do
    storeSet a es1 t2
    if (!wd&&t2.tooFull)=true then do
        g (relayAll t2 es1 (SetTable.grown es1.size)).2.2
        storeSet a (relayAll t2 es1 (SetTable.grown es1.size)).1 (relayAll t2 es1 (SetTable.grown es1.size)).2.1
        pure (some true)
     else pure (some true)) R E s:=by
 refine ZZ (wpAny_storeSet_of ho hd ?_ (fits_of_scanBound hb));obtain⟨o1,S1⟩:=Ss ho hex hd el p nd hb hf hl hp;have sb:=Z1 s.heap a (Obj.putSet es1 t2);split
 ·have q1:=relayAll_perm t2 es1 (SetTable.grown es1.size)
  have q2:=relayAll_fits t2 es1 (SetTable.grown es1.size);have q3:=tT t2 es1 (SetTable.grown es1.size);have q4:=sV t2 es1 (SetTable.grown es1.size) hp;generalize relayAll t2 es1 (SetTable.grown es1.size)=Z at q1 q2 q3 q4 |-
  obtain⟨es2,t3,gv⟩:=Z;dsimp only at q1 q2 q3 q4 |-
  have z:es2.size=es1.size:=by have:=q1.length_eq;simpa using this
  refine ZZ (hg _ _ _ ?_);refine ZZ (wpAny_storeSet_of o1 rfl ?_ (fits_of_scanBound (z ▸ hb)));obtain⟨_,S2⟩:=Ss (s:={ s with heap:=s.heap.update a (Obj.putSet es1 t2) }) o1 hex rfl (el.perm q1) ((q1.map _).trans p) nd (z ▸ hb) q2 (q3.trans hl) q4
  exact wpAny_pure (h _ (sb.trans (Z1 _ a _)) S2)
 ·exact wpAny_pure (h _ sb S1)
set_option tactic.hygienic true in
theorem QK{Q:Bool->Shared->Prop} (hS:SetT P w s.heap a ss) (hr:ss.length+1<scanBound)
  (h:∀r h',Heap.SameBut a s.heap h'->SetT P w h' a (Xf ss x)->Q r { s with heap:=h' }):wpAny (model P w) A (setAddHashed a (.str x tk) ((PySem.strKind P w).hash x)) Q E s:=by
 obtain⟨o,es,ep,t,ho,hex,hd,el,p,nd,hb,hf,hl,hp⟩:=id hS;have hn:es.size=ss.length:=by have:=p.length_eq;simpa using this
 have hk:(PySem.strKind P w).is x (.str x tk)=true:=strKind_is P w x tk;unfold setAddHashed setAddHashedIn;refine Zx (ZZ (Zl ho hd hf ?_));dsimp only;rw[byScan_of (knd:=PySem.strKind P w) (x:=.str x tk) rfl hb el];simp only[↓reduceIte];unfold setAddByScan;refine ZZ ?_;refine ZZ (YB ?_);refine ZZ (wpAny_setScan_of hk ho hd hf el ?_);cases hr':List.findIdx? (λe=>(PySem.strKind P w).is x e.2) es.toList with
 | some j =>
  dsimp only;refine wpAny_pure (wpAny_pure ?_);have m:=wM el p hr'
  have:=h false s.heap (Heap.SameBut.refl a s.heap) (by unfold Xf;rw[if_pos m];exact hS)
  exact this
 | none =>
  dsimp only;have m:=wN el p hr';have q1:=layNew_perm t es ((PySem.strKind P w).hash x) (.str x tk);have q2:=layNew_fits t es ((PySem.strKind P w).hash x) (.str x tk);have q3:=vF t es ((PySem.strKind P w).hash x) (.str x tk);generalize layNew t es ((PySem.strKind P w).hash x) (.str x tk)=Z at q1 q2 q3 |-
  obtain⟨es1,t1,wd,gv⟩:=Z;dsimp only at q1 q2 q3 |-
  rw[Array.toList_push] at q1;have el1:ElemsOf (PySem.strKind P w) es1.toList:=(el.push hk rfl).perm q1;have p1:(es1.toList.map λe=>strOf e.2).Perm (Xf ss x):=by
   unfold Xf;rw[if_neg m];refine(q1.map _).trans ?_;rw[OU];exact p.append (YI _)
  have nd1:(Xf ss x).Nodup:=by
   unfold Xf;rw[if_neg m,List.nodup_append];exact⟨nd,by simp,λy hy z hz e=>by rw[v8] at hz;subst hz;subst e;exact m hy⟩
  have hb1:es1.size<scanBound:=by
   have:=q1.length_eq
   simp at this;lia
  have hg:∀(b:Bool) (s₁:Shared) (Q':Unit->Shared->Prop),Q' () s₁->wpAny (model P w) A (match b with|true=>rule "set.scan.the-table-gave-way" | false=>pure ()) Q' E s₁:=λb s₁ Q' hq=>by
   cases b<;>first|exact wpAny_pure hq|exact YB hq
  refine ZZ (hg _ _ _ ?_);split
  ·refine ZZ ?_
   rw[hashByValue_scannable 8 (x:=.str x tk) rfl];refine wpAny_pure ?_;refine zP hg ho hex hd el1 p1 nd1 hb1 ?_ ?_ ?_ λh' sb S'=>wpAny_pure (h true h' sb S')
   ·exact SetTable.fits_plain_off q2
   ·exact q3.trans hl
   ·rfl
  ·rename_i hpl
   refine ZZ (wpAny_pure ?_);simp only[↓reduceIte];exact zP hg ho hex hd el1 p1 nd1 hb1 q2 (q3.trans hl) (by simpa using hpl) λh' sb S'=>wpAny_pure (h true h' sb S')
end
noncomputable def Z5 (ss:List Str):List Str:=ss.foldl Xf []
def AH (ss:List Str) (x:Str):(Xf ss x).length<=ss.length+1:=by unfold Xf;split<;>simp
theorem Es:∀(xs ss:List Str),(xs.foldl Xf ss).length<=ss.length+xs.length
 | [],ss=>by simp
 | x::xs,ss=>by
  have:=Es xs (Xf ss x)
  have:=AH ss x
  simp only[List.foldl_cons,u6];lia
theorem zq:∀(xs ss:List Str) (y:Str),y∈xs.foldl Xf ss↔y∈ss\/y∈xs
 | [],ss,y=>by simp
 | x::xs,ss,y=>by
  rw[List.foldl_cons,zq xs,y0];unfold Xf;by_cases q:x∈ss
  ·rw [if_pos q]
   constructor
   ·rintro (h | h)
    ·exact .inl h
    ·exact .inr (.inr h)
   ·rintro (h | rfl | h)
    ·exact .inl h
    ·exact .inl q
    ·exact .inr h
  ·rw[if_neg q,u9,v8,or_assoc]
def GD{y:Str}:y∈Z5 ss↔y∈ss:=by unfold Z5;rw[zq];simp
set_option tactic.hygienic true in
def zb(h:ss.Nodup):(Xf ss x).Nodup:=by
 unfold Xf;split
 ·exact h
 ·rename_i m
  rw[List.nodup_append];exact⟨h,by simp,λy hy z hz e=>by rw[v8] at hz;subst hz;subst e;exact m hy⟩
theorem ze:∀(xs ss:List Str),ss.Nodup->(xs.foldl Xf ss).Nodup
 | [],_,h=>h
 | _::xs,_,h=>ze xs _ (zb h)
def tO (ss:List Str):(Z5 ss).Nodup:=ze ss [] List.nodup_nil
theorem yU:∀{vs:List Value}{ss:List Str},StrsAre vs ss->∀(i:Nat) (v:Value),vs[i]?=some v->∃x t,ss[i]?=some x/\v=.str x t
 | _,_,.cons x t h,0,v,e=>by cases e;exact⟨x,t,rfl,rfl⟩
 | _,_,.cons x t h,i+1,v,e=>yU h i v (by simpa using e)
section
variable {E:VP}
def SetT.keep(x:SetT P w h a ss) (k:∀o,h.get? a=some o->h'.get? a=some o):SetT P w h' a ss:=by
 obtain⟨o,es,ep,t,ho,r⟩:=x;exact⟨o,es,ep,t,k _ ho,r⟩
theorem SetT.fresh(e:h.get? a=some { cls:=.type "set",dict:=none,data:=.set #[] 0 (.fresh 0 0 (!w.params.followText "set-order")) }):SetT P w h a [] :=
 ⟨_,#[],0,_,e,⟨rfl,rfl,rfl⟩,rfl,λe he=>by simp at he,YI _,List.nodup_nil,by decide,by rfl,rfl,λq=>absurd q (by decide)⟩
theorem wI{fp wr:List Addr}{G:Array GenState->Array GenState->Prop}{Pp:Nat->Value->Prop}{St:Nat->Shared->Prop}{R:Result->Shared->Prop}
  (W:WalksS P w A.in1 I fp wr G n Pp St) (S:Addr) (hSf:S∉fp) (hn:ss.length=n) (hv:∀i v,Pp i v->∃x t,ss[i]?=some x/\v=.str x t) (hb:n+1<scanBound) :
  ∀(k i:Nat) (s:Shared),n - i=k->i<=n->St i s->SetT P w s.heap S (Z5 (ss.take i))->(∀s',Moved (S::wr) G s s'->SetT P w s'.heap S (Z5 ss)->R (.ok (.ret .none)) s') ->
   codeAny (model P w) A (.builtin "set.update.loop" ⟨[.ref S,.ref I],[]⟩) R s:=by
 have hSw:S∉wr:=λh=>hSf (W.sub _ h)
 have up:∀b∈wr,b∈S::wr:=λb hb=>z5 _ hb
 intro k;induction k with
 | zero =>
  intro i s hk hi st hS hR;have e:i=n:=by lia
  subst e;refine Za F.entry_set_update_loop ?_;rw[Zv F.plain_set_update_loop _];refine ZZ (m:=pyNext (.ref I)) (W.done s _ _ st λs' hm=>?_)
  refine wpAny_pure (hR s' (hm.mono up) ?_);have q:=hS.keep (h':=s'.heap) λo=>hm.heap S o hSw
  rwa [YM (by lia)] at q
 | succ k ih =>
  intro i s hk hi st hS hR;have lt:i<n:=by lia
  refine Za F.entry_set_update_loop ?_;rw[Zv F.plain_set_update_loop _];refine ZZ (m:=pyNext (.ref I)) (W.item i s _ _ lt st λv s' pv st' hm=>?_)
  obtain⟨x,t,hx,rfl⟩:=hv i v pv;have S1:=hS.keep (h':=s'.heap) λo=>hm.heap S o hSw
  show wpAny _ A.in1 (holding [Value.str x t] (setAdd S (.str x t)) >>= _) _ _ s';refine ZZ (Zx ?_);unfold setAdd;refine Zx (ZZ ((PySem.strKind P w).pyHash (k:=x) (strKind_is P w x t) ?_));have room:(Z5 (ss.take i)).length+1<scanBound:=by
   have:=Es (ss.take i) []
   have:(ss.take i).length<=i:=by simp;lia
   unfold Z5;simp only[List.length_nil,Nat.zero_add] at *
   lia
  refine QK (s:={ s' with toks:=s'.toks+1 }) S1 room λr h' sb S2=>?_
  have e2:Xf (Z5 (ss.take i)) x=Z5 (ss.take (i+1)):=by
   unfold Z5;rw[List.take_add_one,hx];simp
  rw[e2] at S2;refine wpAny_pure ⟨Zc F.plain_set_update_loop _,ih (i+1) _ (by lia) lt (W.frame _ s' _ _ st' (Yx _) λb hb o e=>?_) S2 λs'' hm2 S3=>?_⟩
  ·rw[sb.2 b (λh:b=S=>hSf (h ▸ hb))];exact e
  ·exact hR s'' (Moved.trans W.gtrans ((hm.mono up).then_heap (Yx _) λb o hb e=>by rw[sb.2 b (λh:b=S=>hb (h ▸ z6))];exact e) hm2) S3
def QM {a:Value}{Q₁:VP}
  (h:Q₁ (.ref s.heap.objs.size) { s with heap:=s.heap.push { cls:=.type "set",dict:=none,data:=.set #[] 0 (.fresh 0 0 (!w.params.followText "set-order")) } }) :
  codeAny (model P w) A (.call (.builtin "set.__new__") ⟨[.type "set",a],[]⟩) (wants Q₁ E) s:=by
 refine codeAny_of_tree (ZZ (m:=checkBuiltinCall "set.__new__" ⟨[.type "set",a],[]⟩) (Z9 (F.newCall_set_1 a) (wpAny_pure ⟨Zc F.plain_set_new _,Za F.entry_set_new ?_⟩)));rw[Zv F.plain_set_new _];unfold Builtin.«set.__new__» Builtin.Frozenset.newClass;have hsub:=sub_set_self;obtain⟨hp,g,d,tk,os⟩:=s;dsimp only
 wp_walk
 refine YX (wpAny_pure ?_);simp only[newObj];exact ZZ (wpAny_alloc (wpAny_pure (wpAny_pure h)))
abbrev Vm (w:World):Obj:={ cls:=.type "set",dict:=none,data:=.set #[] 0 (.fresh 0 0 (!w.params.followText "set-order")) }
def Wb (P:Program) (w:World) (s:Shared) (ss:List Str) (s₂:Shared):Prop:=∃h' tk,s₂={ s with heap:=h',toks:=tk }/\SetT P w h' s.heap.objs.size (Z5 ss)/\∀b o,b<s.heap.objs.size->s.heap.get? b=some o->h'.get? b=some o
set_option maxHeartbeats 3200000 in
theorem wG{items:Array Value} (hh:A.handled=none) (hl:s.heap.IsList l items) (hi:StrsAre items.toList ss) (hb:items.size+1<scanBound) :
  wpAny (model P w) A.in1 (Builtin.«set.__init__» ⟨[.ref s.heap.objs.size,.ref l],[]⟩)
   (λXe s'=>match Xe with | .done f=>wants (λr s₂=>r=.none/\Wb P w s ss s₂) E (.ok f) s' | .again c'=>c'.quiet=true/\codeAny (model P w) A c' (wants (λr s₂=>r=.none/\Wb P w s ss s₂) E) s')
   (λe s'=>wants (λr s₂=>r=.none/\Wb P w s ss s₂) E (.error e) s') { s with heap:=s.heap.push (Vm w) }:=by
 have hS:(s.heap.push (Vm w)).get? s.heap.objs.size=some (Vm w):=z7 _ rfl;have hT:Shared.TypeIs { s with heap:=s.heap.push (Vm w) } (.ref s.heap.objs.size) "set":=⟨_,hS,rfl⟩
 obtain⟨⟨oc,od,odt,osl⟩,hol,hcl,nl,hdl⟩:=hl;simp only at hcl hdl;subst hcl;subst hdl;have hol':(s.heap.push (Vm w)).get? l=some { cls:=.type "list",dict:=od,data:=.seq items nl,slots:=osl }:=z0 _ hol;have k1:=F.sub_list_set;have k2:=F.sub_list_frozenset;have k3:(Value.type "list"==Value.type "dict")=false:=by decide
 have hl1:(s.heap.push (Vm w)).IsList l items:=⟨_,hol',rfl,nl,rfl⟩;unfold Builtin.«set.__init__» noKeywords Builtin.Frozenset.updateFrom;generalize hPI:pyIter=PI
 wp_walk
 subst hPI;refine XE hl1 (ZZ (wpAny_runValue ?_));have lS:l<s.heap.objs.size:=z8 hol;have h3:A.in1.in1.handled=none:=by simp[hh]
 have z:(s.heap.push (Vm w)).objs.size=s.heap.objs.size+1:=ZJ ..;have nI:l≠(s.heap.push (Vm w)).objs.size:=by rw[z];exact v6 (Yy lS)
 have nS:s.heap.objs.size∉[(s.heap.push (Vm w)).objs.size,l]:=by
  rw[z];simp only[y0,u0,or_false,not_or];exact⟨v6 (YJ _),Yz lS⟩
 have XJ:ss.length=items.size:=by
  have e:=hi.strs
  have:(items.toList.map strOf).length=ss.length:=by rw[e]
  simpa using this.symm
 refine wI (ss:=ss) ((Walks.list h3 _ l nI items).toS) s.heap.objs.size nS XJ (λi v hv=>yU hi i v (by rw[NJ];exact hv)) hb (items.size - 0) 0 _ (by lia) (Us _)
  ⟨⟨_,z7 _ rfl,rfl,rfl⟩,hl1.push _⟩ (SetT.fresh (z0 _ hS)) ?_
 intro s' hm hS';obtain⟨h',g',d',tk',os'⟩:=s';have eg:g'=s.gens:=hm.gens;have ed:d'=s.drawn:=hm.drawn;have eo:os'=s.os:=hm.os;subst eg;subst ed;subst eo;refine wpAny_pure ?_;show wpAny _ _ (ret Value.none) _ _ _;refine wpAny_pure ⟨rfl,h',tk',rfl,hS',λb o hb e=>hm.heap b o ?_ (z0 _ (z0 _ e))⟩
 simp only[y0,u0,or_false,not_or,z];exact⟨v6 hb,v6 (Yy hb)⟩
set_option maxHeartbeats 3200000 in
def wJ{items:Array Value} (hh:A.handled=none) (hl:s.heap.IsList l items) (hi:StrsAre items.toList ss) (hb:items.size+1<scanBound)
  (h:∀s₂,Wb P w s ss s₂->Q (.ref s.heap.objs.size) s₂):wpAny (model P w) A (call (.type "set") [.ref l]) Q E s:=by
 obtain⟨c,tl,hmro⟩:=F.called_set.mro;have hmade:=F.called_set.made;have hsub:=F.called_set.sub;refine wpAny_call (codeAny_of_tree (show wpAny _ _ (callAny (.type "set") _) _ _ _ from wpAny_pure ⟨Code.quiet_builtin _ (by decide +kernel),Za F.entry_type_call ?_⟩))
 rw[Around.under_plain (weight_type_call_type "set" [.ref l] []) rfl];have h1:=F.called_set.notType;have h2:=F.called_set.canCreate;have hct:=F.typeCall_set_1 (.ref l)
 repeat (any_goals (first|assumption|wp_step))
 refine Xo (QM (a:=.ref l) (E:=E) (Q₁:=λobj s₁=>obj=.ref s.heap.objs.size/\s₁={ s with heap:=s.heap.push (Vm w) }) ⟨rfl,rfl⟩) λr s₁ hr=>?_
 cases r with
 | error e=>exact hr
 | ok fl =>
  cases fl with
  | ret obj =>
   obtain⟨rfl,rfl⟩:=hr;have hT:Shared.TypeIs { s with heap:=s.heap.push (Vm w) } (.ref s.heap.objs.size) "set":=⟨_,z7 _ rfl,rfl⟩
   have hli:=F.called_set.init.lookup;have hbi:=F.called_set.init.bind (.ref s.heap.objs.size)
   repeat (any_goals (first|assumption|wp_step))
   refine Xo (codeAny_call_builtin (R:=wants (λr s₂=>r=.none/\Wb P w s ss s₂) E) F.called_set.init.plain F.entry_set_init (check_set_init_1 hT (wG (by simp[hh]) hl hi hb))) λr₂ s₂ hr₂=>?_
   cases r₂ with
   | error e=>exact hr₂
   | ok fl₂ =>
    cases fl₂ with
    | ret r =>
     obtain⟨rfl,m⟩:=hr₂
     repeat (any_goals (first|assumption|wp_step))
     exact h _ m
    | _=>exact hr₂.elim
  | _=>exact hr.elim
end
def tL:entryFor table "set.__iter__"=some Builtin.«frozenset.__iter__»:=entryFor_alias (id':="frozenset.__iter__") (by kernel_rfl) rfl (by decide +kernel) (by kernel_rfl)
def SQ:Slot "set_iterator" "__next__" "set_iterator.__next__":=.of (owner:="set_iterator") (n:="__next__") (by rw[Zh,ZM];kernel_rfl) (by decide +kernel) (by decide +kernel)
 (by decide +kernel) (by first|exact .inl (by decide +kernel)|exact .inr (by decide +kernel)) (by rw[YQ];kernel_rfl)
def yK:Slot "set_iterator" "__iter__" "set_iterator.__iter__":=.of (owner:="set_iterator") (n:="__iter__") (by rw[Zh,ZM];kernel_rfl) (by decide +kernel) (by decide +kernel)
 (by decide +kernel) (by first|exact .inl (by decide +kernel)|exact .inr (by decide +kernel)) (by rw[YQ];kernel_rfl)
def Gx:entryFor table "set_iterator.__next__"=some Builtin.«set_iterator.__next__»:=entryFor_of_tree (by kernel_rfl)
def sX:entryFor table "set_iterator.__iter__"=some Builtin.«dict_keyiterator.__iter__»:=entryFor_alias (id':="dict_keyiterator.__iter__") (by kernel_rfl) rfl (by decide +kernel) (by kernel_rfl)
def zY:Manifest.owners.lookup (String.ofList ['r','o','t','a','r','e','t','i','_','t','e','s'].reverse)=some Manifest.sig_set_iterator:=by kernel_rfl
def Gz (a:Value):argsOk "set_iterator.__next__" ⟨[a],[]⟩:=by
 unfold argsOk;rw[signature?_of (id:="set_iterator.__next__") (n:=['_','_','t','x','e','n','_','_']) (o:=['r','o','t','a','r','e','t','i','_','t','e','s']) (by kernel_rfl) zY]
 kernel_rfl
def uy (a:Value):argsOk "set_iterator.__iter__" ⟨[a],[]⟩:=by
 unfold argsOk;rw[signature?_of (id:="set_iterator.__iter__") (n:=['_','_','r','e','t','i','_','_']) (o:=['r','o','t','a','r','e','t','i','_','t','e','s']) (by kernel_rfl) zY]
 kernel_rfl
def SIt (h:Heap) (I:Addr) (first:Value) (i:Nat) (a:Addr) (n ep:Nat):Prop:=∃o,h.get? I=some o/\o.cls=.type "set_iterator"/\o.data=.fields #[first,.int i 0,.ref a,.int n 0,.int ep 0]
def SAt (h:Heap) (a:Addr) (es:Array (Int×Value)) (ep:Nat) (t:SetTable):Prop:=∃o,h.get? a=some o/\o.data=.set es ep t/\t.fits es.size=true
def SIt.at(x:SIt h I first i a n ep) (k:∀o,h.get? I=some o->h'.get? I=some o):SIt h' I first i a n ep:=by obtain⟨o,ho,r⟩:=x;exact⟨o,k _ ho,r⟩
def SAt.at{es:Array (Int×Value)}{t:SetTable} (x:SAt h a es ep t) (k:∀o,h.get? a=some o->h'.get? a=some o):SAt h' a es ep t:=by obtain⟨o,ho,r⟩:=x;exact⟨o,k _ ho,r⟩
section
variable {E:VP}{es:Array (Int×Value)}{t:SetTable}
def SIt.ty (x:SIt s.heap I first i a n ep):s.TypeIs (.ref I) "set_iterator":=by obtain⟨o,ho,hc,_⟩:=x;exact⟨o,ho,hc⟩
def EQ(x:SIt s.heap I first i a n ep) (h:Q (.ref I) s):wpAny (model P w) A (pyIter (.ref I)) Q E s:=by
 refine wpAny_pyIter_slot x.ty yK (ZQ yK x.ty sX ?_ (uy _));exact(show wpAny _ _ (ret (.ref I)) _ _ s from wpAny_pure ⟨_,rfl,"set_iterator",_,x.ty,SQ.lookup,h⟩)
def Lh {k:Nat}{v:Value}{vs:Array Value}{Q:Unit->Shared->Prop}{o:Obj} (ho:s.heap.get? I=some o) (hc:o.cls=.type "set_iterator") (hd:o.data=.fields vs) (hk:k<vs.size)
  (h:∀h' o',h'.get? I=some o'->o'.cls=.type "set_iterator"->o'.data=.fields (vs.setIfInBounds k v)->Heap.SameBut I s.heap h'->Q () { s with heap:=h' }):wpAny (model P w) A (setField (.ref I) k v) Q E s :=
 wpAny_setField ho hd hk (h _ _ (t0 _ ho (Obj.isFreed_of_fields (VI hd _))) ((Obj.cls_mapFields ..).trans hc) (VI hd _) (Z1 ..))
def Kept (I:Addr) (h h':Heap):Prop:=∀b o,b≠I->h.get? b=some o->h'.get? b=some o
def AM{nx:Nat}{x:Value}{Q:Option Value->Shared->Prop} (X:SIt s.heap I (.int slot 0) i a es.size ep) (S:SAt s.heap a es ep t)
  (hn:∀(B:Around) (R:Option (Value×Nat)->Shared->Prop) (E':VP),R (some (x,nx)) s->wpAny (model P w) B (setNext a slot i ep) R E' s)
  (hQ:∀h',SIt h' I (.int nx 0) (i+1) a es.size ep->Kept I s.heap h'->Q (some x) { s with heap:=h' }):wpAny (model P w) A (pyNext (.ref I)) Q E s:=by
 obtain⟨o,ho,hc,hd⟩:=id X;obtain⟨os,hos,hds,hf⟩:=id S;unfold pyNext;refine ZZ (YF (ZF (name:=Str.ofString "__next__") X.ty SQ (ZQ SQ X.ty Gx ?_ (Gz _))));unfold Builtin.«set_iterator.__next__»;refine ZZ (wpAny_pure ?_);refine ZZ (wpAny_fieldsOf ho hd ?_);refine ZZ (m:=setEntries a) (Xh hos hds hf ?_);rw[if_neg (by simp)]
 refine ZZ (m:=setNext a slot i ep) (hn _ _ _ ?_);refine ZZ (Lh ho hc hd (by simp) λh1 o1 g1 c1 d1 b1=>?_)
 refine ZZ (Lh (s:={ s with heap:=h1 }) g1 c1 d1 (by simp) λh2 o2 g2 c2 d2 b2=>?_)
 exact wpAny_pure ⟨x,rfl,wpAny_pure (hQ h2 ⟨o2,g2,c2,by rw[d2];simp[rawInt]⟩ λb ob nb e=>(b2.extBut b ob nb (b1.extBut b ob nb e)))⟩
def AN{Q:Option Value->Shared->Prop} (hh:A.handled=none) (X:SIt s.heap I (.int slot 0) i a es.size ep) (S:SAt s.heap a es ep t)
  (hn:∀(B:Around) (R:Option (Value×Nat)->Shared->Prop) (E':VP),R none s->wpAny (model P w) B (setNext a slot i ep) R E' s)
  (hQ:∀h',Kept I s.heap h'->Q none { s with heap:=h' }):wpAny (model P w) A (pyNext (.ref I)) Q E s:=by
 obtain⟨o,ho,hc,hd⟩:=id X;obtain⟨os,hos,hds,hf⟩:=id S;unfold pyNext;refine ZZ (YF (ZF (name:=Str.ofString "__next__") X.ty SQ (ZQ SQ X.ty Gx ?_ (Gz _))));unfold Builtin.«set_iterator.__next__»;refine ZZ (wpAny_pure ?_);refine ZZ (wpAny_fieldsOf ho hd ?_);refine ZZ (m:=setEntries a) (Xh hos hds hf ?_);rw[if_neg (by simp)]
 refine ZZ (m:=setNext a slot i ep) (hn _ _ _ ?_);refine ZZ (Lh ho hc hd (by simp) λh1 o1 g1 c1 d1 b1=>?_)
 refine ZZ (m:=newExc (.type "StopIteration") []) ?_;simp only[newExc,newTuple];refine ZZ (ZR (Q:=_) ?_ (by size_fits));refine ZZ (m:=firstArgMember _ _) (Z9 (a:=Value.none) (by first|rfl|(simp only[firstArgMember];rfl)) (ZR ?_ (by size_fits)))
 simp only[raiseNew];refine ZZ (wpAny_handled ?_);rw[show A.in1.handled=none from hh]
 refine ZZ (wpAny_pure (wpAny_throw ?_));refine ZZ (YY (T:="StopIteration") (b:=true) ⟨_,z7 _ rfl,rfl⟩ isSubtype_stop ?_);exact wpAny_pure (hQ _ λb ob nb e=>z0 _ (z0 _ (b1.extBut b ob nb e)))
def wA{place m:Nat}{e:Int×Value}{Q:Option Value->Shared->Prop} (X:SIt s.heap I (.ref tp) i a es.size ep) (S:SAt s.heap a es ep t) (hot:s.heap.get? tp=some ot) (hpt:ot.data=.seq pl m)
  (hp:pl[i]?=some (.int place tk)) (he:es[place]?=some e) (hQ:∀h',SIt h' I (.ref tp) (i+1) a es.size ep->Kept I s.heap h'->Q (some e.2) { s with heap:=h' }):wpAny (model P w) A (pyNext (.ref I)) Q E s:=by
 obtain⟨o,ho,hc,hd⟩:=id X;obtain⟨os,hos,hds,hf⟩:=id S;unfold pyNext;refine ZZ (YF (ZF (name:=Str.ofString "__next__") X.ty SQ (ZQ SQ X.ty Gx ?_ (Gz _))));unfold Builtin.«set_iterator.__next__»;refine ZZ (wpAny_pure ?_);refine ZZ (wpAny_fieldsOf ho hd ?_);refine ZZ (m:=setEntries a) (Xh hos hds hf ?_);rw[if_neg (by simp)]
 refine ZZ (m:=seqItems? (.ref tp)) (ZB hot hpt ?_);simp only[Int.toNat_natCast,hp];refine ZZ ?_;unfold setNextDrawn;refine ZZ (Zl hos hds hf ?_);simp only[bne_self_eq_false,u4,if_false,he];refine wpAny_pure (ZZ (Lh ho hc hd (by simp) λh1 o1 g1 c1 d1 b1=>?_))
 exact wpAny_pure ⟨e.2,rfl,wpAny_pure (hQ h1 ⟨o1,g1,c1,by rw[d1];simp[rawInt]⟩ λb ob nb e=>b1.extBut b ob nb e)⟩
def wB{m:Nat}{Q:Option Value->Shared->Prop} (hh:A.handled=none) (X:SIt s.heap I (.ref tp) i a es.size ep) (S:SAt s.heap a es ep t) (hot:s.heap.get? tp=some ot) (hpt:ot.data=.seq pl m)
  (hp:pl[i]?=none) (hQ:∀h',Kept I s.heap h'->Q none { s with heap:=h' }):wpAny (model P w) A (pyNext (.ref I)) Q E s:=by
 obtain⟨o,ho,hc,hd⟩:=id X;obtain⟨os,hos,hds,hf⟩:=id S;unfold pyNext;refine ZZ (YF (ZF (name:=Str.ofString "__next__") X.ty SQ (ZQ SQ X.ty Gx ?_ (Gz _))));unfold Builtin.«set_iterator.__next__»;refine ZZ (wpAny_pure ?_);refine ZZ (wpAny_fieldsOf ho hd ?_);refine ZZ (m:=setEntries a) (Xh hos hds hf ?_);rw[if_neg (by simp)]
 refine ZZ (m:=seqItems? (.ref tp)) (ZB hot hpt ?_);simp only[Int.toNat_natCast,hp];refine ZZ (Lh ho hc hd (by simp) λh1 o1 g1 c1 d1 b1=>?_)
 refine ZZ (Lh (s:={ s with heap:=h1 }) g1 c1 d1 (by simp) λh2 o2 g2 c2 d2 b2=>?_)
 refine ZZ (m:=newExc (.type "StopIteration") []) ?_;simp only[newExc,newTuple];refine ZZ (ZR (Q:=_) ?_ (by size_fits));refine ZZ (m:=firstArgMember _ _) (Z9 (a:=Value.none) (by first|rfl|(simp only[firstArgMember];rfl)) (ZR ?_ (by size_fits)))
 simp only[raiseNew];refine ZZ (wpAny_handled ?_);rw[show A.in1.handled=none from hh]
 refine ZZ (wpAny_pure (wpAny_throw ?_));refine ZZ (YY (T:="StopIteration") (b:=true) ⟨_,z7 _ rfl,rfl⟩ isSubtype_stop ?_);exact wpAny_pure (hQ _ λb ob nb e=>z0 _ (z0 _ (b2.extBut b ob nb (b1.extBut b ob nb e))))
end
theorem EH:∀(l:List α) (i:Nat) (h:i<l.length),(l[i]::l.eraseIdx i).Perm l
 | x::l,0,_=>YI _
 | x::l,i+1,h=>(List.Perm.swap x _ _).trans ((EH l i (by simpa using h)).cons x)
theorem zf(f:Nat->Nat):∀(n k:Nat) (l:List α) (out:Array α),l.length=n->(pickOrder.go f n k l out).toList.Perm (out.toList++l)
 | 0,k,l,out,h=>by
  have:l=[]:=Yf h
  subst this;simp[pickOrder.go]
 | n+1,k,l,out,h=>by
  have lt:f k%l.length<l.length:=Nat.mod_lt _ (by lia)
  unfold pickOrder.go;rw[y9 lt];refine(zf f n (k+1) _ _ (by rw[List.length_eraseIdx,if_pos lt];lia)).trans ?_
  rw[Array.toList_push,List.append_assoc];exact List.Perm.append_left _ (EH l _ lt)
def sN(f:Nat->Nat) (xs:Array α):(pickOrder f xs).toList.Perm xs.toList:=by
 have:=zf f xs.size 0 xs.toList #[] (by simp)
 simpa[pickOrder] using this
section
variable {E:VP}
def vM{src:Source}{Q:Nat->Shared->Prop} (hn:n≠0) (h:∀i d,i<n->Q i { s with drawn:=d }):wpAny (model P w) A (choose src n) Q E s :=
 λ_ _ _=>⟨hn,h _ _ (Nat.mod_lt _ (Nat.pos_of_ne_zero hn))⟩
theorem yQ:∀(n:Nat) (xs:List α) (s:Shared) (Q:List α->Shared->Prop),xs.length=n->(∀ys d,ys.Perm xs->Q ys { s with drawn:=d })->wpAny (model P w) A (drawOrder n xs) Q E s
 | 0,xs,s,Q,e,h=>by
  have:xs=[]:=Yf e
  subst this;exact wpAny_pure (h [] s.drawn (YI _))
 | n+1,[],s,Q,e,h=>by cases e
 | n+1,x::xs,s,Q,e,h=>by
  show wpAny _ _ (choose .order (x::xs).length >>= _) _ _ s;refine ZZ (vM (by simp) λi d hi=>?_)
  rw[y9 hi];refine ZZ (yQ n _ _ _ (by rw[List.length_eraseIdx,if_pos hi];lia) λys d' p=>?_)
  exact wpAny_pure (h _ d' ((p.cons _).trans (EH _ _ hi)))
variable {es:Array (Int×Value)}{t:SetTable}
def vN (hh:A.handled=none) (ne:a≠I) (ht:w.params.followText "set-order"=true):Walks P w A I [I,a] [I] (pickOrder (w.params.setOrder a ep) es).toList.length
  (λi v=>(((pickOrder (w.params.setOrder a ep) es).toList.map (·.2)))[i]?=some v) (λi h=>SIt h I (.int 0 0) i a es.size ep/\SAt h a es ep t) where
 sub:=λb hb=>by simp at hb;simp[hb]
 frame:=λi h h' st k=>⟨st.1.at λo=>k I (by simp) o,st.2.at λo=>k a (by simp) o⟩
 item:=λi s Q E hi st hQ=>by
  obtain⟨os,hos,hds,hf⟩:=id st.2;refine AM (slot:=0) (nx:=0) (x:=(pickOrder (w.params.setOrder a ep) es).toList[i].2) st.1 st.2 (λB R E' r=>?_) λh' X' k=>?_
  ·unfold setNext
   refine ZZ (Zl hos hds hf ?_);unfold setsByText;refine ZZ (ZZ (YX (wpAny_pure ?_)));dsimp only;simp only[show((model P w).w.params.followText "set-order")=true from ht,if_true,bne_self_eq_false,u4,if_false]
   refine ZZ ?_;unfold setWalk setsByText;refine ZZ (Zl hos hds hf ?_);refine ZZ (ZZ (YX (wpAny_pure ?_)));simp only[show((model P w).w.params.followText "set-order")=true from ht,if_true]
   refine ZZ (YX (wpAny_pure (wpAny_pure ?_)));have q:(pickOrder ((model P w).w.params.setOrder a ep) es)[i]?=some ((pickOrder (w.params.setOrder a ep) es).toList[i]):=by
    rw[<- NJ];exact y9 hi
   rw[q];exact r
  ·exact hQ _ h' s.toks (by rw[w6,y9 hi];rfl) ⟨X',st.2.at λo e=>k a o ne e⟩ λb o hb e=>k b o (λq=>hb (by simp[q])) e
 done:=λs Q E st hQ=>by
  obtain⟨os,hos,hds,hf⟩:=id st.2;refine AN (slot:=0) hh st.1 st.2 (λB R E' r=>?_) λh' k=>hQ h' s.toks λb o hb e=>k b o (λq=>hb (by simp[q])) e
  unfold setNext;refine ZZ (Zl hos hds hf ?_);unfold setsByText;refine ZZ (ZZ (YX (wpAny_pure ?_)));dsimp only;simp only[show((model P w).w.params.followText "set-order")=true from ht,if_true,bne_self_eq_false,u4,if_false]
  refine ZZ ?_;unfold setWalk setsByText;refine ZZ (Zl hos hds hf ?_);refine ZZ (ZZ (YX (wpAny_pure ?_)));simp only[show((model P w).w.params.followText "set-order")=true from ht,if_true]
  refine ZZ (YX (wpAny_pure (wpAny_pure ?_)));have q:(pickOrder ((model P w).w.params.setOrder a ep) es)[(pickOrder (w.params.setOrder a ep) es).toList.length]?=none:=by
   rw[FS (by rw[q9];exact w4 _)]
  rw[q];exact r
 self:=λ_ _ _ _ st h=>EQ st.1 h
def He{xs:Array α} (h:xs.size=1):∃x,xs=#[x]:=by
 obtain⟨l⟩:=xs
 match l,h with
 | [x],_=>exact⟨x,rfl⟩
def zN (p j:Nat):SetTable.below #[p] j=if p<j then 1 else 0:=by
 unfold SetTable.below;simp[SetTable.below.go]
theorem A1(hds:SAt s.heap a es ep t) (h1:es.size<=1) (ht:w.params.followText "set-order"=false) (hl:t.led=true) {R:Option (Value×Nat)->Shared->Prop}
  (r:R (match es[SetTable.below t.place slot]?,t.place[SetTable.below t.place slot]? with|some (_,x),some j=>some (x,j+1)|_,_=>none) s):wpAny (model P w) A (setNext a slot i ep) R E s:=by
 obtain⟨os,hos,hd,hf⟩:=hds;unfold setNext;refine ZZ (Zl hos hd hf ?_);unfold setsByText;refine ZZ (ZZ (YX (wpAny_pure ?_)));dsimp only;simp only[show((model P w).w.params.followText "set-order")=false from ht,u4,if_false]
 have z:(!t.plain&&decide (es.size > 1))=false:=by rw[ZE (by lia),Bool.and_false]
 show wpAny _ _ (if (!t.plain&&decide (es.size > 1))=true then _ else _) _ _ s
 rw[z];simp only[u4,if_false];have z2:(!t.led&&!es.isEmpty)=false:=by rw[hl];rfl
 show wpAny _ _ ((if (!t.led&&!es.isEmpty)=true then _ else _) >>= _) _ _ s
 rw[z2];exact ZZ (wpAny_pure (wpAny_pure r))
theorem wu (hh:A.handled=none) (ne:a≠I) (ht:w.params.followText "set-order"=false) (h1:es.size<=1) (hl:t.led=true) (hf:t.fits es.size=true):Walks P w A I [I,a] [I] es.toList.length (λi v=>(es.toList.map (·.2))[i]?=some v)
  (λi h=>SIt h I (.int ((if i=0 then 0 else t.place.getD 0 0+1:Nat):Nat) 0) i a es.size ep/\SAt h a es ep t) where
 sub:=λb hb=>by simp at hb;simp[hb]
 frame:=λi h h' st k=>⟨st.1.at λo=>k I (by simp) o,st.2.at λo=>k a (by simp) o⟩
 item:=λi s Q E hi st hQ=>by
  have hz:es.size=1:=by have:es.toList.length=es.size:=q9;lia
  have i0:i=0:=by have:es.toList.length=es.size:=q9;lia
  subst i0;obtain⟨p,hp⟩:∃p,t.place=#[p]:=by
   have:t.place.size=1:=by have:=(OR.mp hf).1;rw[hz] at this;simpa using this
   exact He this
  obtain⟨e,he⟩:∃e,es=#[e]:=He hz;subst he;refine AM (slot:=0) (nx:=p+1) (x:=e.2) st.1 st.2 (λB R E' r=>A1 st.2 h1 ht hl ?_) λh' X' k=>?_
  ·rw[hp,zN];simpa using r
  ·refine hQ _ h' s.toks (by simp) ⟨?_,st.2.at fun o e=>k a o ne e⟩ fun b o hb e=>k b o (fun q=>hb (by simp [q])) e
   rw[hp];simpa using X'
 done:=λs Q E st hQ=>by
  refine AN hh st.1 st.2 (λB R E' r=>A1 st.2 h1 ht hl ?_) λh' k=>hQ h' s.toks λb o hb e=>k b o (λq=>hb (by simp[q])) e
  by_cases hz:es.size=0
  ·have:es=#[]:=Array.eq_empty_of_size_eq_zero hz
   subst this;simpa using r
  ·have hz:es.size=1:=by lia
   obtain⟨p,hp⟩:∃p,t.place=#[p]:=by
    have:t.place.size=1:=by have:=(OR.mp hf).1;rw[hz] at this;simpa using this
    exact He this
   obtain⟨e,he⟩:∃e,es=#[e]:=He hz;subst he;rw[hp];simpa[zN] using r
 self:=λ_ _ _ _ st h=>EQ st.1 h
def uF(hh:A.handled=none) (ne:a≠I) (nt:tp≠I) (hy:∀j∈ys,j<es.size):Walks P w A I [I,a,tp] [I] ys.length (λi v=>(ys.map λj=>(es.getD j default).2)[i]?=some v)
  (λi h=>SIt h I (.ref tp) i a es.size ep/\SAt h a es ep t/\∃o m,h.get? tp=some o/\o.data=.seq (ys.map λ(j:Nat)=>rawInt j).toArray m) where
 sub:=λb hb=>by simp at hb;simp[hb]
 frame:=λi h h' st k=>⟨st.1.at λo=>k I (by simp) o,st.2.1.at λo=>k a (by simp) o,by obtain⟨o,m,x,y⟩:=st.2.2;exact⟨o,m,k tp (by simp) o x,y⟩⟩
 item:=λi s Q E hi st hQ=>by
  obtain⟨o,m,ho,hd⟩:=st.2.2;have lt:=hy ys[i] (t7 hi);refine wA (place:=ys[i]) (tk:=0) (e:=es[ys[i]]) st.1 st.2.1 ho hd (by simp[hi,rawInt]) (s9 lt) λh' X' k=>?_
  refine hQ _ h' s.toks ?_ ⟨X',st.2.1.at λo e=>k a o ne e,o,m,k tp o nt ho,hd⟩ λb o hb e=>k b o (λq=>hb (by simp[q])) e
  rw[w6,y9 hi];simp[Array.getD,lt]
 done:=λs Q E st hQ=>by
  obtain⟨o,m,ho,hd⟩:=st.2.2;exact wB hh st.1 st.2.1 ho hd (by simp) λh' k=>hQ h' s.toks λb o hb e=>k b o (λq=>hb (by simp[q])) e
 self:=λ_ _ _ _ st h=>EQ st.1 h
end
def Rm (s s':Shared):Prop:=(∀b o,s.heap.get? b=some o->s'.heap.get? b=some o)/\s'.os=s.os/\s'.gens=s.gens
section
variable {E:VP}
def Fd{es l:List (Int×Value)} (el:ElemsOf (PySem.strKind P w) es) (p:(es.map λe=>strOf e.2).Perm ss) (q:l.Perm es):∃ss',StrsAre (l.map (·.2)) ss'/\ss'.Perm ss :=
 ⟨_,strsAre_map _ λv hv=>by
  obtain⟨e,he,rfl⟩:=u3.mp hv;exact Aw el (q.mem_iff.mp he),by
  rw[OV];exact(q.map _).trans p⟩
def uU{es:Array (Int×Value)} (p:ys.Perm (List.range es.size)):(ys.map λj=>es.getD j default).Perm es.toList:=by
 refine(p.map _).trans (List.Perm.of_eq ?_);apply List.ext_getElem
 ·simp
 ·intro i h1 h2
  simp at h1;simp[Array.getD,h1]
theorem wF(S:SetT P w s.heap a ss) (hh:A.handled=none)
  (h:∀s₁ I fp vs St,Rm s s₁->(∀b∈fp,b=a\/s.heap.objs.size<=b)->s.heap.objs.size<=I->Walks P w A I fp [I] vs.length (λi v=>vs[i]?=some v) St->St 0 s₁.heap->(∃ss',StrsAre vs ss'/\ss'.Perm ss)->Q (.ref I) s₁) :
  wpAny (model P w) A (pyIter (.ref a)) Q E s:=by
 obtain⟨o,es,ep,t,ho,hex,hd,el,p,nd,hb,hf,hl,hp⟩:=id S;have hT:s.TypeIs (.ref a) "set":=⟨o,ho,hex.1⟩;have la:a<s.heap.objs.size:=z8 ho;refine wpAny_pyIter_slot hT F.slot_set_iter (ZQ F.slot_set_iter hT tL ?_ (F.args_set_iter_1 _));unfold Builtin.«frozenset.__iter__»;refine ZZ (m:=Builtin.Frozenset.slot0 "__iter__" _) (wpAny_pure ?_);refine ZZ ?_;unfold Builtin.Frozenset.sizeOf;refine ZZ (Xh ho hd hf (wpAny_pure ?_));refine ZZ ?_;unfold setDrawn setsByText;refine ZZ (Zl ho hd hf (ZZ (ZZ (YX (wpAny_pure (wpAny_pure ?_))))));dsimp only;by_cases ht:w.params.followText "set-order"=true
 ·simp only [show ((model P w).w.params.followText "set-order")=true from ht,Bool.not_true,Bool.false_and,u4,if_false]
  refine ZZ (wpAny_pure (ZZ ?_));unfold setEpoch;refine ZZ (Zl ho hd hf (wpAny_pure (ZZ (ZR (wpAny_pure ⟨_,rfl,"set_iterator",_,⟨_,z7 _ rfl,rfl⟩,SQ.lookup,?_⟩)))));refine h _ s.heap.objs.size _ _ _ ⟨λb o e=>z0 _ e,rfl,rfl⟩ ?_ (w4 _) ((v0 (f:=λe:Int×Value=>e.2) (as:=(pickOrder (w.params.setOrder a ep) es).toList)).symm ▸ vN (t:=t) hh (v6 la) ht)
   ⟨⟨_,z7 _ rfl,rfl,rfl⟩,⟨o,z0 _ ho,hd,hf⟩⟩ (Fd el p (sN _ _))
  intro b hb;simp at hb;rcases hb with rfl|rfl
  ·exact .inr (w4 _)
  ·exact .inl rfl
 ·have ht:w.params.followText "set-order"=false:=by simpa using ht
  have hl:t.led=true:=by rw[hl,ht];rfl
  by_cases h1:es.size<=1
  ·have z:(!false&&(!t.plain&&decide (es.size > 1)))=false:=by rw [ZE (by lia),Bool.and_false];rfl
   simp only[show((model P w).w.params.followText "set-order")=false from ht]
   show wpAny _ _ (if (!false&&(!t.plain&&decide (es.size > 1)))=true then _ else _) _ _ _
   rw[z];simp only[u4,if_false];refine ZZ (wpAny_pure (ZZ ?_));unfold setEpoch;refine ZZ (Zl ho hd hf (wpAny_pure (ZZ (ZR (wpAny_pure ⟨_,rfl,"set_iterator",_,⟨_,z7 _ rfl,rfl⟩,SQ.lookup,?_⟩)))));refine h _ s.heap.objs.size _ _ _ ⟨λb o e=>z0 _ e,rfl,rfl⟩ ?_ (w4 _) ((v0 (f:=λe:Int×Value=>e.2) (as:=es.toList)).symm ▸ wu (t:=t) (ep:=ep) hh (v6 la) ht h1 hl hf)
    ⟨⟨_,z7 _ rfl,rfl,rfl⟩,⟨o,z0 _ ho,hd,hf⟩⟩ (Fd el p (YI _))
   intro b hb;simp at hb;rcases hb with rfl|rfl
   ·exact .inr (w4 _)
   ·exact .inl rfl
  ·have z:(!false&&(!t.plain&&decide (es.size > 1)))=true:=by rw [hp (by lia),decide_eq_true (by lia)];rfl
   simp only[show((model P w).w.params.followText "set-order")=false from ht]
   show wpAny _ _ (if (!false&&(!t.plain&&decide (es.size > 1)))=true then _ else _) _ _ _
   rw[z];simp only[if_true];refine ZZ (yQ _ _ _ _ (by simp) λys d py=>?_)
   have hy:ys.length=es.size:=by rw[py.length_eq];simp
   have hs:es.size<=sizeLine:=fits_of_scanBound hb;unfold newTuple;refine ZZ (ZR (ZZ ?_) (show(ys.map λ(j:Nat)=>rawInt j).toArray.size<=sizeLine by simpa[hy] using hs))
   unfold setEpoch;refine ZZ (Zl (o:=o) (z0 _ ho) hd hf (wpAny_pure (ZZ (ZR (wpAny_pure ⟨_,rfl,"set_iterator",_,⟨_,z7 _ rfl,rfl⟩,SQ.lookup,?_⟩)))));have zz:(s.heap.push { cls:=.type "tuple",data:=.seq (ys.map λ(j:Nat)=>rawInt j).toArray }).objs.size=s.heap.objs.size+1:=ZJ ..
   have em:(ys.map λj=>(es.getD j default).2)=(ys.map λj=>es.getD j default).map (·.2):=by rw[OV];rfl
   refine h _ _ _ (ys.map λj=>(es.getD j default).2) _ ⟨λb o e=>z0 _ (z0 _ e),rfl,rfl⟩ ?_ (by rw[zz];exact Yx _)
    ((v0 (f:=λj=>(es.getD j default).2) (as:=ys)).symm ▸ uF (t:=t) (ep:=ep) (tp:=s.heap.objs.size) hh (by rw[zz];exact v6 (Yy la)) (by rw[zz];exact v6 (YJ _)) λj hj=>by simpa using py.mem_iff.mp hj)
    ⟨⟨_,z7 _ rfl,rfl,rfl⟩,⟨o,z0 _ (z0 _ ho),hd,hf⟩,_,_,z0 _ (z7 _ rfl),rfl⟩ (em ▸ Fd el p (uU py))
   intro b hb;simp[zz] at hb;rcases hb with rfl|rfl|rfl
   ·exact .inr (Yx _)
   ·exact .inl rfl
   ·exact .inr (w4 _)
end
end L2
namespace L2
open PySem PySem.Spec PyProof.Rows PySem.W PySem.Calls
variable {r a:Addr}{ss:List Str}
section
variable {P:Program}{w:World}{A:Around}{E:VP}{s:Shared}
def wH{Q:Bool->Shared->Prop} (hT:s.TypeIs (.ref r) "set") (h:Q false s):wpAny (model P w) A (Builtin.List.listLengthHint (.ref r)) Q E s:=by
 unfold Builtin.List.listLengthHint;refine ZZ (Zo hT PySem.F.slot_set_len.lookup ?_);generalize hid:("set.__len__":String)=id0
 wp_delta
 rw[show splitId id0=some ("set","__len__") from by subst hid;decide +kernel]
 subst hid;refine ZZ (YY (T:="set") (b:=true) hT (by rw[YQ];kernel_rfl) ?_)
 refine wpAny_ite_split (λq=>absurd q (by decide)) (λ_=>wpAny_ite_split (λ_=>?_) (λq=>absurd (by decide +kernel) q))
 exact ZZ (wpAny_typeOf hT (wpAny_pure h))
theorem uN{S:Addr}{res:Value}{c₀:Nat}{R:Result->Shared->Prop} (T:SetT P w s.heap a ss) (hh:A.handled=none) (ne:S≠a) (hS:s.heap.get? S=some { cls:=.type "list",data:=.seq #[] c₀ }) (hz:ss.length<=sizeLine)
  (hR:∀s' Yt c',(∀b o,b≠S->s.heap.get? b=some o->s'.heap.get? b=some o)->s'.os=s.os->s'.gens=s.gens->s'.heap.get? S=some { cls:=.type "list",dict:=none,data:=.seq Yt c',slots:=#[] }->(∃ss',StrsAre Yt.toList ss'/\ss'.Perm ss)->R (.ok (.ret res)) s') :
  wpAny (model P w) A.in1 (Builtin.List.listExtendWith (.ref S) (.ref a) res)
   (λXe s'=>match Xe with | .done f=>R (.ok f) s' | .again c'=>c'.quiet=true/\codeAny (model P w) A c' R s') (λe s'=>R (.error e) s') s:=by
 obtain⟨o,es,ep,t,ho,hex,_⟩:=id T;have hT:s.TypeIs (.ref a) "set":=⟨o,ho,hex.1⟩;unfold Builtin.List.listExtendWith;refine ZZ (wpAny_typeOf (T:="set") hT ?_);have k1:Builtin.List.listSameRef (.ref S) (.ref a)=false:=by simp[Builtin.List.listSameRef,ne]
 simp only[k1,show(Value.type "set"==Value.type "list")=false by decide,show(Value.type "set"==Value.type "tuple")=false by decide,Bool.or_false,u4,if_false]
 refine ZZ (wF T hh λs₁ I fp vs St fw hfp hI W st sv=>?_)
 have hS₁:=fw.1 _ _ hS;have lS:S<s.heap.objs.size:=z8 hS;have nf:S∉fp:=λm=>by
  rcases hfp S m with e|e
  ·exact ne e
  ·exact t6 _ (v5 lS e)
 obtain⟨ss',hv,hp⟩:=sv;have hn:vs.length<=sizeLine:=by
  have e1:(vs.map strOf).length=ss'.length:=by rw[hv.strs]
  have e2:=hp.length_eq;simp at e1;lia
 have key:∀(h:Heap) (c₁:Nat),St 0 h->(∀b o,b≠S->s.heap.get? b=some o->h.get? b=some o)->h.get? S=some { cls:=.type "list",data:=.seq #[] c₁ } ->
   codeAny (model P w) A (.builtin "list.extend.loop" ⟨[.ref S,.ref I,res],[]⟩) R { s₁ with heap:=h }:=λh c₁ st hk hS=>by
  refine codeAny_extend_loopS W.toS hn S nf res vs.length 0 _ #[] c₁ rfl (Us _) st hS (ItemsOf.nil _) λs' Yt c' hm hS' X4=>?_
  refine hR s' Yt c' (λb o hb e=>hm.heap b o (λm=>?_) (hk b o hb e)) (hm.os.trans fw.2.1) (hm.gens.trans fw.2.2) hS' ⟨ss',?_,hp⟩
  ·rcases y0.mp m with e' | m
   ·exact hb e'
   ·rw [v8] at m
    subst m;exact t6 _ (v5 (z8 e) hI)
  ·have:Yt.toList=vs:=Xb λj=>by
    by_cases lt:j<Yt.toList.length
    ·rw [y9 lt]
     have:=X4.2 j Yt.toList[j] (by rw[<- NJ];exact y9 lt)
     exact this.symm
    ·rw[HV (by lia),HV (by have:=X4.1;simp at lt;lia)]
   rw[this];exact hv
 refine ZZ (Zx (wH ⟨o,fw.1 _ _ ho,hex.1⟩ ?_));refine wpAny_ite_split (λ_=>?_) (λ_=>wpAny_pure ⟨Zc PySem.F.plain_extend_loop _,key _ c₀ st (λb o _ e=>fw.1 b o e) hS₁⟩)
 refine ZZ (YB (ZZ (m:=updateSeq S (·.push .none) >>= λ_=>updateSeq S (·.pop)) ?_))
 refine ZZ (Zi hS₁ rfl ?_);have hS₂:=t0 (Obj.mapSeq (·.push Value.none)) hS₁ rfl
 refine Zi (hz:=by seq_fits) hS₂ rfl ?_
 have hS₃:=t0 (Obj.mapSeq (·.pop)) hS₂ rfl
 have oth:∀b o,b≠S->s₁.heap.get? b=some o->((s₁.heap.update S (Obj.mapSeq (·.push Value.none))).update S (Obj.mapSeq (·.pop))).get? b=some o:=λb o hb e=>(v9 _ _ (YN hb)).trans ((v9 _ _ (YN hb)).trans e)
 exact wpAny_pure ⟨Zc PySem.F.plain_extend_loop _,key _ _ (W.frame 0 _ _ st λb hb o e=>oth b o (λq=>nf (q ▸ hb)) e) (λb o hb e=>oth b o hb (fw.1 b o e)) hS₃⟩
def ua{R:List Value->Shared->Prop} (T:SetT P w s.heap a ss) (hh:A.handled=none) (hz:ss.length<=sizeLine) (h:∀s' vs ss',Rm s s'->StrsAre vs ss'->ss'.Perm ss->R vs s'):wpAny (model P w) A (collect (.ref a)) R E s:=by
 obtain⟨o,es,ep,t,ho,_⟩:=id T;have la:a<s.heap.objs.size:=z8 ho;unfold collect;refine ZZ (wpAny_runValue (Za entry_proto_collect' ?_));rw[Zv PySem.F.plain_proto_collect _];refine ZZ (m:=newList []) (ZR (wpAny_pure ⟨Zc PySem.F.plain_list_iadd _,Za entry_list_iadd' ?_⟩));rw[Zv PySem.F.plain_list_iadd _];have hS₁:(s.heap.push { cls:=.type "list",data:=.seq ([]:List Value).toArray }).get? s.heap.objs.size=some { cls:=.type "list",data:=.seq #[] }:=z7 _ rfl;have key:=uN (A:=A) (s:={ s with heap:=s.heap.push { cls:=.type "list",data:=.seq ([]:List Value).toArray } }) (res:=.ref s.heap.objs.size)
  (R:=λ(q:Result) (s':Shared)=>∃Yt c' ss',q=.ok (.ret (.ref s.heap.objs.size))/\Rm s s'/\s'.heap.get? s.heap.objs.size=some { cls:=.type "list",dict:=none,data:=.seq Yt c',slots:=#[] }/\StrsAre Yt.toList ss'/\ss'.Perm ss)
  (T.keep λo e=>z0 _ e) hh (Yz la) hS₁ hz
  (λs' Yt c' hk h1 h2 hS' hv=>⟨Yt,c',hv.choose,rfl,⟨λb o e=>hk b o (v6 (z8 e)) (z0 _ e),h1,h2⟩,hS',hv.choose_spec.1,hv.choose_spec.2⟩)
 refine XZ key (λXe s' x=>?_) λe s' x=>?_
 ·cases Xe with
  | done f =>
   obtain⟨Yt,c',ss',e,fw,hS',hv,hp⟩:=x;cases e;exact ZZ (m:=load s.heap.objs.size) (wpAny_load hS' (wpAny_pure (h s' _ ss' fw hv hp)))
  | again c₁ =>
   refine⟨x.1,Xo x.2 λq s₂ y=>?_⟩
   obtain⟨Yt,c',ss',rfl,fw,hS',hv,hp⟩:=y;exact ZZ (m:=load s.heap.objs.size) (wpAny_load hS' (wpAny_pure (h s₂ _ ss' fw hv hp)))
 ·obtain ⟨_,_,_,e',_⟩:=x
  cases e'
end
end L2
namespace L2
open PySem PySem.Spec PyProof.Rows PySem.W PySem.Calls
variable {a b x:Str}{l ss:List Str}
def V6 (a b:Str):Prop:=ltCps b.cps.toList a.cps.toList=false
def Nt:V6 a b↔a.cps.toList<=b.cps.toList:=by
 unfold V6;rw[ltCps_eq,decide_eq_false_iff_not];exact List.not_lt
def zj{c:Str} (h:V6 a b) (k:V6 b c):V6 a c:=Nt.mpr (List.le_trans (Nt.mp h) (Nt.mp k))
def xc(h:V6 a b) (k:V6 b a):a=b:=by
 have e:=List.le_antisymm (Nt.mp h) (Nt.mp k);obtain⟨⟨l⟩⟩:=a;obtain⟨⟨m⟩⟩:=b;simp only at e;rw[e]
def wm (a b:Str):V6 a b\/V6 b a:=by
 rw[Nt,Nt];exact List.le_total _ _
theorem yW:∀(l:List Str) (p:Str),risingS p l=true->(∀x∈l,V6 p x)/\l.Pairwise V6
 | [],_,_=>⟨λx h=>(u0 h).elim,.nil⟩
 | y::l,p,h=>by
  unfold risingS at h;rw[t4,Bool.not_eq_true'] at h;obtain⟨h1,h2⟩:=yW l y h.2;exact⟨λx hx=>by
   rcases y0.mp hx with rfl|hx
   ·exact h.1
   ·exact zj h.1 (h1 x hx),.cons h1 h2⟩
def vi(h:sortedS l=true):l.Pairwise V6:=by
 cases l with
 | nil=>exact .nil
 | cons x l=>obtain⟨h1,h2⟩:=yW l x h;exact .cons h1 h2
theorem yF:∀{l m:List Str},l.Perm m->l.Pairwise V6->m.Pairwise V6->l=m
 | [],m,p,_,_=>(List.Perm.nil_eq p)
 | x::l,m,p,hl,hm=>by
  cases m with
  | nil=>exact absurd p.length_eq (by simp)
  | cons y m =>
   have e:x=y:=by
    have hx:x∈y::m:=p.mem_iff.mp z6;have hy:y∈x::l:=p.mem_iff.mpr z6;rcases y0.mp hx with e|hx
    ·exact e
    ·rcases y0.mp hy with e | hy
     ·exact e.symm
     ·exact xc ((List.pairwise_cons.mp hl).1 y hy) ((List.pairwise_cons.mp hm).1 x hx)
   subst e;rw[yF p.cons_inv (List.pairwise_cons.mp hl).2 (List.pairwise_cons.mp hm).2]
noncomputable def T6 (x:Str):List Str->List Str
 | []=>[x]
 | y::l=>if ltCps y.cps.toList x.cps.toList=true then y::T6 x l else x::y::l
noncomputable def Ym:List Str->List Str
 | []=>[]
 | x::l=>T6 x (Ym l)
theorem Er (x:Str):∀l:List Str,(T6 x l).Perm (x::l)
 | []=>YI _
 | y::l=>by
  unfold T6;split
  ·exact((Er x l).cons y).trans (List.Perm.swap x y l)
  ·exact YI _
theorem JT:∀l:List Str,(Ym l).Perm l
 | []=>YI _
 | x::l=>(Er x _).trans ((JT l).cons x)
set_option tactic.hygienic true in
theorem B0 (x:Str):∀{l:List Str},l.Pairwise V6->(T6 x l).Pairwise V6
 | [],_=>List.pairwise_singleton ..
 | y::l,h=>by
  unfold T6;obtain⟨h1,h2⟩:=List.pairwise_cons.mp h;split
  ·rename_i q
   refine .cons (λz hz=>?_) (B0 x h2)
   rcases y0.mp ((Er x l).mem_iff.mp hz) with rfl|hz
   ·rcases wm y z with t | t
    ·exact t
    ·unfold V6 at t;rw[q] at t;cases t
   ·exact h1 z hz
  ·rename_i q
   have q':V6 x y:=by unfold V6;simpa using q
   exact .cons (λz hz=>by
    rcases y0.mp hz with rfl|hz
    ·exact q'
    ·exact zj q' (h1 z hz)) h
theorem Al:∀l:List Str,(Ym l).Pairwise V6
 | []=>.nil
 | x::l=>B0 x (Al l)
def wz(p:l.Perm ss) (h:sortedS l=true):l=Ym ss:=yF (p.trans (JT ss).symm) (vi h) (Al ss)
def JY:x∈Ym ss↔x∈ss:=(JT ss).mem_iff
def Ea (ss:List Str):(Ym ss).length=ss.length:=(JT ss).length_eq
section
variable {P:Program}{w:World}{A:Around}{E:VP}{s:Shared}
theorem zB{a:Addr}{Q:VP} (h64:ss.length<64)
  (hc:∀(B:Around) (E':VP) (R:List Value->Shared->Prop),B.handled=A.handled->(∀s' vs ss',Rm s s'->StrsAre vs ss'->ss'.Perm ss->R vs s')->wpAny (model P w) B (collect (.ref a)) R E' s)
  (h:∀s' s'' D out n,Rm s s'->Rm s' s''->s'.heap.objs.size<=D->s''.heap.get? D=some (seqObj "list" out n)->StrsAre out.toList (Ym ss)->Q (.ref D) s''):wpAny (model P w) A (call (.builtin "sorted") [.ref a]) Q E s:=by
 refine Calls.call_function_entry kind_sorted plain_sorted entry_sorted (args_sorted1 _) ?_;unfold Builtin.«sorted»;refine ZZ (m:=checkCount "sorted" 1 1 _) (wpAny_pure (ZZ (hc _ _ _ rfl λs' vs ss' fw hv hp=>?_)))
 have hn:vs.length=ss.length:=by
  have:(vs.map strOf).length=ss'.length:=by rw[hv.strs]
  rw[<- hp.length_eq,<- this,v0]
 refine ZZ (wpAny_newList ?_ (by rw[hn,sizeLine_eq];lia))
 have ho:(s'.heap.push (seqObj "list" vs.toArray 0)).get? s'.heap.objs.size=some (seqObj "list" vs.toArray 0):=z7 _ rfl;have z:(s'.heap.push (seqObj "list" vs.toArray 0)).objs.size=s'.heap.objs.size+1:=ZJ ..;refine ZZ (Zx (ZQ slot_list_sort ⟨_,ho,rfl⟩ entry_list_sort (list_sort_treeK strKind_oneLt ho hv.keysOf (λv₁ v₂ YO e=>keyKind_strs (by rw[<- e];exact hv)) (by lia) λst' a1 a2=>⟨_,rfl,?_⟩) (args_list_sort _)))
 refine wpAny_pure ⟨_,rfl,?_⟩;obtain⟨ss2,h1,h2,h3⟩:=sorted_out_str hv a1 a2;obtain⟨n,hD⟩:=sortedHeap_at (out:=(arrOf st').map (·.2)) ho
 refine h s' _ s'.heap.objs.size _ n fw ⟨λb o e=>?_,rfl,rfl⟩ (w4 _) hD ?_
 ·have lt:=z8 e
  have k:=sortedHeap_old (h:=s'.heap.push (seqObj "list" vs.toArray 0)) (a:=s'.heap.objs.size) (b:=b) (vs:=vs) (out:=(arrOf st').map (·.2)) (v6 lt) (by rw[z];exact Yy lt)
  rw[z0 _ e] at k;exact k
 ·rw [<- wz (h2.trans hp) h3]
  exact h1
end
end L2
namespace L2
open PySem PySem.Spec PyProof.Rows PySem.W PySem.Calls
variable {X:Cx}{ZY:LO}{σ:St}{H F' H':Hp}{s s':Shared}{a f q l C I it z i1 i2 l1 l2 a1 a2 C0:Addr}{o o0:OD}{out ys xs Yt:Array Value}{n k i j k' k1 k2 t' n0:Nat}{ss N ps:List Str}{Q E:VP}{K:W.Frag}{xq:XQ}{e value c tg:Expr}{fs fa:Rho->Res (List D)}{p p2 pos pos2 Yw XS pos':Pos}{α:Type}{es:List Expr}{fe fi fv fo:Rho->Res D}{x qual m:Str}{B:Hp×Hp}{ρ ρ' ρ1 ρ2:Rho}{P prog:Program}{w:World}{mg:MG}{base h h':Heap}{st:Stmt}{fd:FuncData}{t tb:Rho->Out}{A:Around}{sts body:List Stmt}{b b1 b2:Bool}{v:V}{d:D}{sl sl':List Sl}{vs:List V}{fT fA:Rho->Res Bool}{ds dds:List D}{y f0 f1 res:Value}{ZO us:List Value}
noncomputable def Io (P:Program) (w:World) (a:Addr) (ss:List Str):HO:=.ext λh=>SetT P w h a ss
theorem zx:∀{vs:List Value}{ss:List Str},StrsAre vs ss->Vals (ss.map V.str) vs
 | _,_,.nil=>.nil
 | _,_,.cons x t h=>.cons ⟨t,rfl⟩ (zx h)
theorem zu:∀{vs:List Value}{ss:List Str},Vals (ss.map V.str) vs->StrsAre vs ss
 | _,[],.nil=>.nil
 | _,_::_,.cons ⟨t,e⟩ h=>by subst e;exact .cons _ t (zu h)
def Inv.alike(I:Inv X ZY σ H s) (e1:s'.heap=s.heap) (e2:s'.os=s.os) (e3:s'.gens=s.gens):Inv X ZY σ H s' :=
 ⟨I.ok,e2.trans I.os,e3 ▸ I.bare,e1 ▸ I.base,e1 ▸ I.loc,e1 ▸ I.cell,I.free,I.freeC,e1 ▸ I.pin,e1 ▸ I.hok,I.len⟩
def Inv.fwd(I:Inv X ZY σ H s) (f:Rm s s'):Inv X ZY σ H s':=(I.kept (h':=s'.heap) (t':=s'.toks) f.1).alike rfl f.2.1 f.2.2
def Inv.laidF{o:HO} (I:Inv X ZY σ H s) (f:Rm s s') (hp:s.heap.objs.size<=a) (new:ObjOk X.prog X.w (Zd H a o) s'.heap a o):Inv X ZY σ (Zd H a o) s' :=
 (I.laid (h':=s'.heap) (t':=s'.toks) f.1 hp new).alike rfl f.2.1 f.2.2
def wS (hc:X.calm=true):YG X (.type "set") (λxs H Q=>∃l ss,xs=[.ref l]/\Wr X.K H l (ss.map V.str)/\ss.length+1<scanBound/\∀p,H p=none->Q (.ref p) (Zd H p (Io X.prog X.w p (Z5 ss)))):=by
 intro ZY s σ H xs us Q I r z9111;obtain⟨l,ss,e,hq,hb,q⟩:=z9111;subst e;obtain⟨u,rfl,ru⟩:=vals1 r;cases ru;obtain⟨ZO,rv,hl,hz⟩:=I.list hq;have hv:=zu rv;have hn:ZO.length=ss.length:=by have:=rv.length;simpa using this.symm
 refine wJ (ss:=ss) (items:=ZO.toArray) (I.ok.hd hc) hl.isList (by simpa using hv) (by simpa[hn] using hb) λs₂ ⟨h',tk,e,S,k⟩=>?_
 subst e;have kk:∀b u,s.heap.get? b=some u->h'.get? b=some u:=λb u e=>k b u (z8 e) e
 obtain⟨o,es,ep,t,ho,YO⟩:=id S;exact⟨.ref s.heap.objs.size,_,I.laid (a:=s.heap.objs.size) (o:=Io X.prog X.w s.heap.objs.size (Z5 ss)) kk (w4 _) ⟨S,⟨o,ho⟩,λh1 h2 x y=>x.keep y⟩,rfl,q _ (I.hok.fresh (w4 _))⟩
def zh{s'':Shared}{D:Addr}{Q:VK} (I:Inv X ZY σ H s) (f1:Rm s s') (f2:Rm s' s'') (hD:s'.heap.objs.size<=D) (g:s''.heap.get? D=some (seqObj "list" out n)) (hv:StrsAre out.toList ss) (hz:ss.length<=sizeLine)
  (q:∀p,H p=none->Q (.ref p) (Zd H p (.lst (ss.map V.str)))):EP X ZY σ Q (.ref D) s'' :=
 ⟨.ref D,_,(I.fwd f1).laidF (o:=.lst (ss.map V.str)) f2 hD ⟨by simpa using hz,out.toList,n,zx hv,by simpa using g⟩,rfl,q D ((I.fwd f1).hok.fresh hD)⟩
theorem uw (hc:X.calm=true):YG X (.builtin "sorted") (λxs H Q=>∃a ss,xs=[.ref a]/\H a=some (Io X.prog X.w a ss)/\ss.length<64/\∀p,H p=none->Q (.ref p) (Zd H p (.lst ((Ym ss).map V.str)))):=by
 intro ZY s σ H xs us Q I r z9112;obtain⟨a,ss,e,ha,h64,q⟩:=z9112;subst e;obtain⟨u,rfl,ru⟩:=vals1 r;cases ru;have S:SetT X.prog X.w s.heap a ss:=(show ObjOk X.prog X.w H s.heap a (Io X.prog X.w a ss) from I.hok a _ ha).1
 have hz:ss.length<=sizeLine:=by rw[sizeLine_eq];lia
 refine zB h64 (λB E' R hB k=>ua S (hB.trans (I.ok.hd hc)) hz k) λs' s'' D out n f1 f2 hD g hv=>zh I f1 f2 hD g hv (by rw[Ea];exact hz) q
theorem vL (hc:X.calm=true):YG X (.builtin "sorted") (λxs H Q=>∃a kvs ss,xs=[.ref a]/\H a=some (.dK kvs)/\kvs.map (·.1)=ss.map Sum.inr/\ss.length<64/\∀p,H p=none->Q (.ref p) (Zd H p (.lst ((Ym ss).map V.str)))):=by
 intro ZY s σ H xs us Q I r z9113;obtain⟨a,kvs,ss,e,ha,hk,h64,q⟩:=z9113;subst e;obtain⟨u,rfl,ru⟩:=vals1 r;cases ru;obtain⟨_,hS,vs,rk,m⟩:kvs.length<=sizeLine/\(a==sysModules)=false/\∃vs,KV kvs vs/\s.heap.DictOf (Z4 X.prog X.w) a vs:=I.hok a _ ha;obtain⟨ep,m⟩:=m.dictAt;have hz:ss.length<=sizeLine:=by rw[sizeLine_eq];lia
 have ek:vs.map (·.1)=ss.map Sum.inr:=rk.keys.symm.trans hk
 have hn:vs.length=ss.length:=by have:=congrArg List.length ek;simpa using this
 refine zB h64 (λB E' R hB k=>kdu_collect (kdl_dict (kvs:=vs) hS) (hB.trans (I.ok.hd hc)) m (hn ▸ hz) λh' tk Yt hkeep X4=>k _ _ ss ⟨hkeep,rfl,rfl⟩ ?_ (YI _)) λs' s'' D out n f1 f2 hD g hv=>zh I f1 f2 hD g hv (by rw[Ea];exact hz) q
 have hl:Yt.toList.length=ss.length:=by rw[q9,X4.1,hn]
 have key:∀(j:Nat) (v:Value),Yt.toList[j]?=some v->∃x t,ss[j]?=some x/\v=.str x t:=λj v e=>by
  obtain⟨k,y,e1,e2⟩:=X4.2 j v (by rw[<- NJ];exact e)
  have e3:(vs.map (·.1))[j]?=some k:=by rw[w6,e1];rfl
  rw[ek,w6] at e3;cases e4:ss[j]? with
  | none=>rw[e4] at e3;cases e3
  | some x =>
   rw[e4] at e3;cases e3;rcases Rv ((vB X.prog X.w _ _).symm.trans e2) with⟨_,_,e5,_⟩|⟨z,t,e5,e6⟩
   ·cases e5
   ·cases e5;exact⟨_,t,rfl,e6⟩
 have go:∀(vs:List Value) (ss:List Str),vs.length=ss.length->(∀(j:Nat) (v:Value),vs[j]?=some v->∃x t,ss[j]?=some x/\v=.str x t)->StrsAre vs ss:=by
  intro vs;induction vs with
  | nil=>intro ss e _;cases ss with|nil=>exact .nil|cons _ _=>cases e
  | cons v vs ih =>
   intro ss e h;cases ss with
   | nil=>cases e
   | cons x ss =>
    obtain⟨z,t,e1,e2⟩:=h 0 v rfl;cases e1;subst e2;exact .cons _ t (ih ss (by simpa using e) λj v q=>h (j+1) v (by simpa using q))
 exact go _ _ hl key
noncomputable def WH:List D->Option (List Str)
 | []=>some []
 | .str z::ds=>(WH ds).map (z::·)
 | _=>none
theorem zy{F:Hp}:∀{xs:List V}{ds:List D}{ss:List Str},Rps K F xs ds->WH ds=some ss->xs=ss.map V.str/\∀z∈ss,z.length<=sizeLine
 | _,_,_,.nil,e=>by cases e;exact⟨rfl,λ_ h=>(u0 h).elim⟩
 | _,d::ds,ss,.cons h hs,e=>by
  cases h with
  | str hz =>
   unfold WH at e;cases q:WH ds with
   | none=>rw[q] at e;cases e
   | some ts =>
    rw[q] at e;cases e;obtain⟨e1,e2⟩:=zy hs q;rw[e1];exact⟨rfl,λz hz'=>by
     rcases y0.mp hz' with rfl|h
     ·exact hz
     ·exact e2 z h⟩
  | _=>cases e
theorem EL{F:Hp}:∀{ss:List Str},(∀z∈ss,z.length<=sizeLine)->Rps K F (ss.map V.str) (ss.map D.str)
 | [],_=>.nil
 | z::ss,h=>.cons (.str (h z z6)) (EL λy hy=>h y (z5 _ hy))
noncomputable def Cn:D->Res D
 | .lst ds=>match WH ds with
  | some ss=>gd (ss.length<64) (.ok (.lst ((Ym (Z5 ss)).map D.str)))
  | none=>.bad
 | _=>.bad
noncomputable def Xp:List (D×D)->Option (List Str)
 | []=>some []
 | (.str z,_)::ps=>(Xp ps).map (z::·)
 | _=>none
noncomputable def G7:List D->Res D
 | [.dct ps]=>match Xp ps with
  | some ss=>gd (ss.length<64/\∀z∈ss,z.length<=sizeLine) (.ok (.lst ((Ym ss).map D.str)))
  | none=>.bad
 | _=>.bad
theorem yX{F:Hp}:∀{kvs:List (Ys×V)}{ps:List (D×D)}{ss:List Str},Rpk K F kvs ps->Xp ps=some ss->kvs.map (·.1)=ss.map Sum.inr
 | _,_,_,.nil,e=>by cases e;rfl
 | _,_,ss,.cons (k:=k) (ds:=ds) h hs,e=>by
  cases k with
  | inl i=>cases e
  | inr z =>
   unfold Xp kD at e;cases q:Xp ds with
   | none=>simp only[q] at e;cases e
   | some ts =>
    simp only[q] at e;cases e;rw[w9,yX hs q];rfl
noncomputable def Mz(g:D->Res α):List D->Res α
 | [d]=>g d
 | _=>.bad
set_option tactic.hygienic true in
theorem LR (hc:X.calm=true) (hm:X.mg "sorted"=none) (hm2:X.mg "set"=none) (ha:DA X xq [e] fs) (hg:autoParam (Gl X "sorted") aa._auto_1) (hg2:autoParam (Gl X "set") aa._auto_1) :
  DE X xq (.Call (.Name "sorted" p) [.Call (.Name "set" p2) [e] [] pos2] [] pos) (λρ=>(fs ρ).bind λds=>YD (Mz Cn ds)) :=
 DE.of (CG (uw hc) hg hm (by decide +kernel) (Ta (CH (wS hc) hg2 hm2 (by decide +kernel) ha.out (by decide) (by decide) ha.ns) R8) (by decide) (by decide) rfl) λB F ρ σ H Q R q=>X2 R q λds vs F1 H1 s1 R1 p1 q1=>by
  unfold Mz at q1;split at q1
  ·rename_i d
   obtain⟨v,rfl,pv⟩:=Wm p1;unfold Cn at q1;split at q1
   ·rename_i dl
    split at q1
    ·rename_i ss hs
     have q2:(gd (ss.length<64) (Res.ok (D.lst ((Ym (Z5 ss)).map D.str)))).all _ (λ_=>True):=R7 q1
     obtain⟨h64,q3⟩:=SC q2;cases pv with
     | lst hq hr =>
      obtain⟨e1,e2⟩:=zy hr hs;subst e1;have hl:(Z5 ss).length<=ss.length:=by have:=Es ss [];simpa[Z5] using this
      have em:∀z∈Ym (Z5 ss),z.length<=sizeLine:=λz hz=>e2 z (GD.mp (JY.mp hz))
      refine⟨_,ss,rfl,.inl (hq.same R1.fh),by unfold scanBound;lia,λa na=>?_⟩
      refine⟨a,Z5 ss,rfl,WN,by lia,λb nb=>?_⟩
      have f1:=Stp.new (o:=Io X.prog X.w a (Z5 ss)) R1.fh na;have f2:=Stp.new (o:=.lst ((Ym (Z5 ss)).map V.str)) f1.fh nb;exact q3 _ _ _ ((s1.trans f1).trans f2) (.lst (.inl WN) (EL em))
    ·exact q1.elim
   ·exact q1.elim
  ·exact q1.elim
set_option tactic.hygienic true in
def P4 (hc:X.calm=true):YG X (.builtin "sorted") (So X.K G7):=by
 intro ZY s σ H xs us Q I r z9114;obtain⟨F,ds,fh,ps,q⟩:=z9114;unfold G7 at q;split at q
 ·rename_i kd
  obtain⟨v,rfl,pv⟩:=Wm ps;cases hk:Xp kd with
  | none=>simp only[hk] at q;exact q.elim
  | some ss =>
   simp only[hk] at q;obtain⟨⟨h64,hz⟩,q⟩:=SC q;cases pv with
   | dK ha hr=>exact vL hc ZY s σ H _ us Q I r ⟨_,_,ss,rfl,fh _ _ ha,yX hr hk,h64,λb nb=>q _ _ _ (Stp.new fh nb) (.lst (.inl WN) (EL λz h=>hz z (JY.mp h)))⟩
 ·exact q.elim
mutual
noncomputable def V8:D->Bool
 | .non | .bl _ | .int _ | .str _=>true
 | .lst ds | .tup ds=>TU ds
 | .dct ps=>ps.isEmpty
 | _=>false
noncomputable def TU:List D->Bool
 | []=>true
 | d::ds=>V8 d&&TU ds
end
def xW(i:Nat) (hN:autoParam (X.N[i]?=some x) aa._auto_1) (hv:autoParam (Ut X.env.scope x) ae._auto_1) (hd:autoParam ((x==("__debug__":Str))=false) ac._auto_1) (Xa:autoParam ((x==("__classdict__":Str))=false) ac._auto_1)
  (Xl:autoParam (attributeBase (.Name x p) "clear" X.env (eval (.Name x p) X.env)=eval (.Name x p) X.env) aa._auto_1) (Xn:autoParam ((Yw.endLine==XS.line)=true) aa._auto_1)
  (hsw:autoParam (swapsWith (.Call (.Attribute (.Name x p) "clear" Yw) [] [] XS) none pos.line X.env=pure false) aa._auto_1) :
  DS X xq (.Expr (.Call (.Attribute (.Name x p) "clear" Yw) [] [] XS) pos) (λρ=>(VY ρ i).go ρ λds=>.nx (ρ.set i (some (.own (.l []))))) :=
 DS.of (L7 (Bt Yk PySem.F.slot_list_clear PySem.F.type_list_clear xR (U2 hN hv hd Xa) Xl Xn) hsw) λB F ρ σ H T R q=>by
  obtain⟨ds,e1,q1⟩:=L8 (Wy q.out);obtain⟨l,h,h1,h2,h3,h4,h5⟩:=R.own i _ e1;cases h5 with
  | l hs=>exact⟨.ref l,h1,.inl ⟨rfl,_,.inl (.inl h4)⟩,l,_,rfl,rfl,h4,q1 σ F _ (R.write (e:=e1) h1 (.l .nil))⟩
mutual
noncomputable def Xw:D->Bool
 | .non | .bl _ | .int _ | .str _ | .ty _=>true
 | .tup ds=>Vo ds
 | .ins _ gs=>UM gs
 | _=>false
noncomputable def Vo:List D->Bool
 | []=>true
 | d::ds=>Xw d&&Vo ds
noncomputable def UM:List (Str×D)->Bool
 | []=>true
 | (_,d)::ds=>Xw d&&UM ds
end
section
variable {F:Hp}{T:Addr->Prop}
def NT (F:Hp) (a:Addr):Prop:=(∃xs,Rd F a (.lst xs))\/∃kvs,F a=some (.dK kvs)
open Classical in
noncomputable def OP (F:Hp) (T:Addr->Prop):Hp:=λa=>if T a then none else F a
def Nv(h:¬ T a):OP F T a=F a:=if_neg h
mutual
theorem Rp.hard (hT:∀a,T a->NT F a):∀{v:V}{d:D},Rp K F v d->Xw d=true->Rp K (OP F T) v d
 | _,_,.non,_=>.non
 | _,_,.bl b,_=>.bl b
 | _,_,.int i,_=>.int i
 | _,_,.str h,_=>.str h
 | _,_,.ty T,_=>.ty T
 | _,_,.lst _ _,h=>by simp[Xw] at h
 | _,_,.tup (a:=a) hq hs,h=>by
  refine .tup ?_ (Rps.hard hT hs (by simpa[Xw] using h))
  rcases hq with(q|⟨o,q⟩)|q
  ·refine .inl (.inl ((Nv fun t=>?_).trans q))
   obtain⟨xs,z|⟨o,z⟩⟩|⟨xs,z⟩:=hT a t<;>(rw[q] at z;cases z)
  ·refine .inl (.inr ⟨o,(Nv fun t=>?_).trans q⟩)
   obtain⟨xs,z|⟨o,z⟩⟩|⟨xs,z⟩:=hT a t<;>(rw[q] at z;cases z)
  ·exact .inr q
 | _,_,.dK _ _,h=>by simp[Xw] at h
 | _,_,.ins (a:=a) q hs,h=>by
  refine .ins ((Nv λt=>?_).trans q) (Rpf.hard hT hs (by simpa[Xw] using h))
  obtain⟨xs,z|⟨o,z⟩⟩|⟨xs,z⟩:=hT a t<;>(rw[q] at z;cases z)
 | _,_,.exc _ _ _,h=>by simp[Xw] at h
 | _,_,.dn _ _,h=>by simp[Xw] at h
 | _,_,.hdl _,h=>by simp[Xw] at h
theorem Rps.hard (hT:∀a,T a->NT F a):∀{v:List V}{d:List D},Rps K F v d->Vo d=true->Rps K (OP F T) v d
 | _,_,.nil,_=>.nil
 | _,_,.cons h hs,z=>by
  have z:=OR.mp z;exact .cons (Rp.hard hT h z.1) (Rps.hard hT hs z.2)
theorem Rpf.hard (hT:∀a,T a->NT F a):∀{v:List (Str×V)}{d:List (Str×D)},Rpf K F v d->UM d=true->Rpf K (OP F T) v d
 | _,_,.nil,_=>.nil
 | _,_,.cons h hs,z=>by
  have z:=OR.mp z;exact .cons (Rp.hard hT h z.1) (Rpf.hard hT hs z.2)
end
end
noncomputable def Sk (ρ:Rho):Bool:=ρ.all fun
 | some (.own (.l _))=>true
 | some (.own (.d _))=>true
 | some (.own _)=>false
 | _=>true
def Yl (ρ:Rho) (σ:St) (a:Addr):Prop:=∃(i:Nat) (o:OD),ρ[i]?=some (some (.own o))/\σ[i]?=some (some (.ref a))
open Classical in
def Rel.frz2{F:Hp} (r:Rel K B ρ σ F H):∃F',Same F F'/\Rel K B (L2.frz ρ) σ F' H/\∀a,F a=none->F' a≠none->Yl ρ σ a:=by
 let F':Hp:=λa=>if Yl ρ σ a then H a else F a
 have hT:∀a,Yl ρ σ a->F a=none/\B.2 a=none:=λa ⟨i,o,e,q⟩=>by
  obtain⟨b,h,h1,h2,h3,_⟩:=r.own i o e;rw[q] at h1;cases h1;exact⟨h2,h3⟩
 have e1:Same F F':=λa o e=>by
  show(if Yl ρ σ a then H a else F a)=some o
  by_cases q:Yl ρ σ a
  ·rw[(hT a q).1] at e;cases e
  ·rw[if_neg q];exact e
 have e2:Same F' H:=λa o e=>by
  have e':(if Yl ρ σ a then H a else F a)=some o:=e
  by_cases q:Yl ρ σ a
  ·rw[if_pos q] at e';exact e'
  ·rw[if_neg q] at e';exact r.fh a o e'
 have hZ:∀a,Yl ρ σ a->∀x u,H a≠some (.frz x u):=λa ⟨i,o,e,q⟩ x u z=>by
  obtain⟨b,h,h1,h2,h3,h4,h5⟩:=r.own i o e;rw[q] at h1;cases h1;rw[h4] at z;exact h5.nz x u (ZS z)
 refine⟨F',e1,⟨⟨r.st.ff.trans e1,e2,r.st.hh,λa q z=>?_,λa x u q=>?_⟩,?_,?_,?_,?_⟩,λa n q=>?_⟩
 ·show (if Yl ρ σ a then H a else F a)=none
  by_cases t:Yl ρ σ a
  ·exact absurd (hT a t).2 z
  ·rw[if_neg t];exact r.st.no a q z
 ·have q:(if Yl ρ σ a then H a else F a)=some (.frz x u):=q
  by_cases t:Yl ρ σ a
  ·rw[if_pos t] at q;exact absurd q (hZ a t x u)
  ·rw[if_neg t] at q;exact r.st.nz a x u q
 ·rw[r.len];unfold L2.frz;simp
 ·intro i d e
  obtain⟨y,h1,h2⟩:=La e;cases y with
  | val d'=>cases h2;obtain⟨v,q1,q2⟩:=r.val i d h1;exact⟨v,q1,q2.same e1⟩
  | own o =>
   cases h2;obtain⟨a,h,q1,q2,q3,q4,q5⟩:=r.own i o h1;have t:Yl ρ σ a:=⟨i,o,h1,q1⟩;exact⟨.ref a,q1,Ro.rp (Ro.same e1 q5) (show(if Yl ρ σ a then H a else F a)=some h by rw[if_pos t];exact q4)⟩
 ·intro i o e
  obtain⟨y,h1,h2⟩:=La e;cases y<;>cases h2
 ·intro i j o u a e
  obtain⟨y,h1,h2⟩:=La e;cases y<;>cases h2
 ·by_cases t:Yl ρ σ a
  ·exact t
  ·exact absurd (show(if Yl ρ σ a then H a else F a)=none by rw[if_neg t];exact n) q
noncomputable def Ug (ρ:Rho) (d:D):Res D:=if Sk ρ=true/\Xw d=true then .ok d else .bad
theorem DE.hard (h:DE X xq e fe):DE X xq e (λρ=>(fe (frz ρ)).bind (Ug ρ)) :=
 DE.of h.out λB F ρ σ H Q R q=>by
  obtain⟨F1,e1,R1,ow⟩:=R.frz2;refine⟨B,F1,frz ρ,R1,Res.all_mono (Res.all_bind.mp q) (λd q v F' H' s p=>?_) λ_ e=>e.frz⟩
  unfold Ug at q;by_cases z:Sk ρ=true/\Xw d=true
  ·rw [if_pos z] at q
   have hT:∀a,Yl ρ σ a->F a=none/\NT F' a:=λa ⟨i,o,e,qa⟩=>by
    obtain⟨b,hh,h1,h2,h3,h4,h5⟩:=R.own i o e;rw[qa] at h1;cases h1;refine⟨h2,?_⟩;have ho:=Ku.mp z.1 _ (ZP e);cases o with
    | l ds =>
     obtain⟨v,k1,k2⟩:=R1.val i (.lst ds) (by unfold frz;rw[w6,e];rfl)
     rw[qa] at k1;cases k1;cases k2 with
     | lst hq hs=>exact .inl ⟨_,hq.same s.ff⟩
    | d ps =>
     obtain⟨v,k1,k2⟩:=R1.val i (.dct ps) (by unfold frz;rw[w6,e];rfl)
     rw[qa] at k1;cases k1;cases k2 with
     | dK hq hs=>exact .inr ⟨_,s.ff _ _ hq⟩
    | _=>cases ho
   refine q v (OP F' (Yl ρ σ)) H' ⟨λa o ea=>?_,λa o ea=>?_,s.hh,λa n m=>?_,λa x u ea=>?_⟩ (p.hard (λa t=>(hT a t).2) z.2)
   ·by_cases t:Yl ρ σ a
    ·rw[(hT a t).1] at ea;cases ea
    ·rw[Nv t];exact s.ff a o (e1 a o ea)
   ·by_cases t:Yl ρ σ a
    ·unfold OP at ea;rw[if_pos t] at ea;cases ea
    ·rw[Nv t] at ea;exact s.fh a o ea
   ·by_cases t:Yl ρ σ a
    ·unfold OP;rw[if_pos t]
    ·rw [Nv t]
     exact s.no a (XD λk=>t (ow a n k)) m
   ·by_cases t:Yl ρ σ a
    ·unfold OP at ea;rw[if_pos t] at ea;cases ea
    ·rw [Nv t] at ea
     have e9:=s.nz a x u ea;cases z9:F a with
     | none=>exact absurd (ow a z9 (by rw[e9];simp)) t
     | some o9=>rw[e1 a o9 z9] at e9;exact e9
  ·rw[if_neg z] at q;exact q.elim
noncomputable def Zq (n m:Nat) (t:Rho->Out) (ds:List D):Res D:=if ds.length=m then YD (Ul (t (ZV n ds))) else .bad
def Fun.okT(F:Fun K x qual st f fd) (S:FnScope N ps (ZX st))
  (Xm:∀(Zm:Value) (A:Around) (outer:List Env) (s:Shared) (H:Hp) (E:XK),Room k (A.deeper (envOfC qual (ZX st) s.heap.objs.size f Zm))->DB (VC Z0 P w K mg base N qual (ZX st) f Zm A outer s H E).nox XW (Z3 st) t) :
  FnOk P w K mg base Z0 (k+1) f fd ps (Zt K (Zq N.length ps.length t)):=by
 refine F.okD S (λds d h=>?_) λZm A outer s H E hr=>⟨t,Xm Zm A outer s H E hr,λds d h=>?_⟩
 ·unfold Zq at h
  split at h
  ·assumption
  ·cases h
 ·unfold Zq at h
  split at h
  ·cases q:Ul (t (ZV N.length ds)) with
   | ok d'=>rw[q] at h;exact h
   | err x=>rw[q] at h;cases h
   | bad=>rw[q] at h;cases h
  ·cases h
def Ji (hu:X.A.units+200<cLine) (ew:autoParam (X.w=w) aa._auto_1):Y0 X (compareOp .In) (rD X.K (TF w false)):=by subst ew;exact Jh hu
def Pc(ew:autoParam (X.w=w) aa._auto_1):DN X xq (.Dict [] [] pos) (λ_=>.ok (.n (Xx w) [])):=by subst ew;exact LZ
section
variable {i:Expr}
def Pg (j:Nat) (hu:X.A.units+200<cLine) (hi:DE X xq i fi) (hv:DE X xq value fv) (ew:autoParam (X.w=w) aa._auto_1) (hN:autoParam (X.N[j]?=some x) aa._auto_1) (hvs:autoParam (Ut X.env.scope x) ae._auto_1) (hd:autoParam ((x==("__debug__":Str))=false) ac._auto_1) (Xa:autoParam ((x==("__classdict__":Str))=false) ac._auto_1)
  (hs:autoParam (swapsWith value (some (.Subscript (.Name x p) i pos')) pos.line X.env=pure false) aa._auto_1):DS X xq (.Assign [.Subscript (.Name x p) i pos'] value pos) (Ue w j fi fv):=by subst ew;exact Pf j hu hi hv hN hvs hd Xa hs
end
structure FunD (K:W.Frag) (x qual:Str) (st:Stmt) (f:Addr) (fd:FuncData):Prop where
 ex:∃(oc:Value) (od:Option Addr) (dV kV doc pm:Value) (an:Option Addr) (Zm ct:Value) (osl:Array (Option Value)),
  fd=W.fnOf x qual (Ye st) (Z3 st) (ZX st) dV kV doc pm an Zm ct/\K.lookup f=some ⟨oc,od,.func fd,osl⟩/\W.codeIn K Zm qual=true
def My{j:Addr}{x:Value} (hj:s.heap.IsTupleIter j q i) (hq:s.heap.IsTuple q ys) (hx:ys[i]?=some x)
  (k:∀h',h'.IsTupleIter j q (i+1)->Heap.SameBut j s.heap h'->Q x { s with heap:=h' }):wpAny (model P w) A (Builtin.SmallTypes.nextOf (.ref j)) Q E s:=by
 obtain⟨oj,e1,e2,e3⟩:=id hj;obtain⟨oq,e4,-,n,e5⟩:=hq;unfold Builtin.SmallTypes.nextOf;refine ZZ (ZF (name:=Str.ofString "__next__") hj.typeIs Xu (ZQ Xu hj.typeIs F.entry_tuple_iterator_next ?_ (F.args_tuple_iterator_next_1 _)));show wpAny _ _ (field (.ref j) 0 >>= _) _ _ s;refine ZZ (Zw e1 e3 (x:=.ref q) rfl ?_);show wpAny _ _ (if (Value.ref q==Value.none)=true then _ else _) _ _ s
 rw[if_neg (show ¬ ((Value.ref q==Value.none)=true) from OS)]
 show wpAny _ _ (field (.ref j) 1 >>= _) _ _ s;refine ZZ (Zw e1 e3 (x:=.int i 0) rfl ?_);show wpAny _ _ (seqItems? (.ref q) >>= _) _ _ s;refine ZZ (ZB e4 e5 ?_);simp only[Int.toNat_natCast,hx];exact ZZ (wpAny_setField e1 e3 (by simp) (wpAny_pure ⟨x,rfl,wpAny_pure (k _ ⟨_,t0 _ e1 (Obj.isFreed_of_fields (VI e3 _)),(Obj.cls_mapFields ..).trans e2,by rw[VI e3];simp[rawInt]⟩ (Z1 ..))⟩))
def vz{j:Addr} (hn:A.handled=none) (hj:s.heap.IsTupleIter j q i) (hq:s.heap.IsTuple q ys) (hx:ys[i]?=none)
  (k:∀h' u,Heap.ExtBut j s.heap h'->(∃o,h'.get? u=some o/\o.cls=.type "StopIteration")->E (.ref u) { s with heap:=h' }):wpAny (model P w) A (Builtin.SmallTypes.nextOf (.ref j)) Q E s:=by
 obtain⟨oj,e1,e2,e3⟩:=id hj;obtain⟨oq,e4,-,n,e5⟩:=hq;unfold Builtin.SmallTypes.nextOf;refine ZZ (ZF (name:=Str.ofString "__next__") hj.typeIs Xu (ZQ Xu hj.typeIs F.entry_tuple_iterator_next ?_ (F.args_tuple_iterator_next_1 _)));show wpAny _ _ (field (.ref j) 0 >>= _) _ _ s;refine ZZ (Zw e1 e3 (x:=.ref q) rfl ?_);show wpAny _ _ (if (Value.ref q==Value.none)=true then _ else _) _ _ s
 rw[if_neg (show ¬ ((Value.ref q==Value.none)=true) from OS)]
 show wpAny _ _ (field (.ref j) 1 >>= _) _ _ s;refine ZZ (Zw e1 e3 (x:=.int i 0) rfl ?_);show wpAny _ _ (seqItems? (.ref q) >>= _) _ _ s;refine ZZ (ZB e4 e5 ?_);simp only[Int.toNat_natCast,hx];refine ZZ (YB (ZZ (wpAny_setField e1 e3 (by simp) ?_)))
 show wpAny _ _ (newExc (.type "StopIteration") [] >>= _) _ _ _;refine ZZ ?_;simp only[newExc,newTuple];refine ZZ (ZR (ZZ (m:=firstArgMember _ _) (Z9 (a:=Value.none) (by first|rfl|(simp only[firstArgMember];rfl)) (ZR ?_ (by size_fits)))) (by size_fits))
 simp only[raiseNew];refine ZZ (wpAny_handled ?_)
 first|rw[show A.in1.handled=none from hn] | rw[hn]
 exact ZZ (wpAny_pure (wpAny_throw (k _ _ (((Z1 ..).extBut.push _).push _) ⟨_,z7 _ rfl,rfl⟩)))
def Fx:Manifest.owners.lookup (String.ofList ['d','e','s','r','e','v','e','r'].reverse)=some Manifest.sig_reversed:=by kernel_rfl
def K8:Slot "reversed" "__next__" "reversed.__next__":=.of (owner:="reversed") (n:="__next__") (by rw[Zh,ZM];kernel_rfl) (by decide +kernel) (by decide +kernel) (by decide +kernel) (by first|exact .inl (by decide +kernel)|exact .inr (by decide +kernel)) (by rw[YQ];kernel_rfl)
def AQ:Slot "reversed" "__iter__" "reversed.__iter__":=.of (owner:="reversed") (n:="__iter__") (by rw[Zh,ZM];kernel_rfl) (by decide +kernel) (by decide +kernel) (by decide +kernel) (by first|exact .inl (by decide +kernel)|exact .inr (by decide +kernel)) (by rw[YQ];kernel_rfl)
def QG:Slot "reversed" "__init__" "object.__init__":=.of (owner:="object") (n:="__init__") (by rw[Zh,ZM];kernel_rfl) (by decide +kernel) (by decide +kernel) (by decide +kernel) (by first|exact .inl (by decide +kernel)|exact .inr (by decide +kernel)) (by rw[YQ];kernel_rfl)
def zR:entryFor table "reversed.__next__"=some Builtin.«reversed.__next__»:=entryFor_of_tree (by kernel_rfl)
def zS (a:Value):argsOk "reversed.__next__" ⟨[a],[]⟩:=by
 unfold argsOk;rw[signature?_of (id:="reversed.__next__") (n:=['_','_','t','x','e','n','_','_']) (o:=['d','e','s','r','e','v','e','r']) (by kernel_rfl) Fx];kernel_rfl
def xB (a:Value):argsOk "reversed.__iter__" ⟨[a],[]⟩:=by
 unfold argsOk;rw[signature?_of (id:="reversed.__iter__") (n:=['_','_','r','e','t','i','_','_']) (o:=['d','e','s','r','e','v','e','r']) (by kernel_rfl) Fx];kernel_rfl
def xz:entryFor table "reversed.__iter__"=some Builtin.«dict_keyiterator.__iter__» :=
 entryFor_alias (id':="dict_keyiterator.__iter__") (by kernel_rfl) (by first|rfl|decide +kernel|(unfold String.splitOn;simp +decide [String.splitOnAux])) (by decide +kernel) (by kernel_rfl)
def vn:TypeCalled "reversed" "reversed.__new__" "object.__init__" :=
 ⟨by decide +kernel,by decide +kernel,⟨_,_,F.mro_reversed⟩,F.made_reversed,by decide +kernel,F.sub_reversed_self,QG⟩
def tJ:typeLookup (.type "tuple") "__reversed__"=pure none:=by rw[Zh,ZM];kernel_rfl
def tM:isSubtype (.type "tuple") (.type "dict")=pure false:=by rw[YQ];kernel_rfl
abbrev KW (l:Addr) (i:Int):Obj:={ cls:=.type "reversed",data:=.fields #[.ref l,rawInt i] }
def IsRv (h:Heap) (a l:Addr) (i:Int):Prop:=h.get? a=some (KW l i)
def IsRv.ty{i:Int} (x:IsRv s.heap a l i):s.TypeIs (.ref a) "reversed":=⟨_,x,rfl⟩
def Nb(hL:s.heap.IsTuple l ys) (hz:(ys.size:Int)<2^63)
  (h:∀t,Q (.ref s.heap.objs.size) { s with heap:=s.heap.push (KW l ((ys.size:Int) - 1)),toks:=t }):wpAny (model P w) A (Builtin.«reversed.__new__» ⟨[.type "reversed",.ref l],[]⟩) (λXe s'=>∃v,Xe=.done (.ret v)/\Q v s') E s:=by
 unfold Builtin.«reversed.__new__»;refine ZZ (Z9 (newClass_reversed _) ?_)
 try dsimp only
 refine ZZ (Z9 (a:=()) (by first|rfl|kernel_rfl) (ZZ (Z9 (a:=()) (by first|rfl|kernel_rfl) ?_)))
 try dsimp only
 refine ZZ (Zo hL.typeIs tJ ?_)
 try dsimp only
 refine ZZ ?_;show wpAny _ _ (isInstance (.ref l) (.type "dict") >>= _) _ _ _;refine ZZ (YY (T:="tuple") (b:=false) hL.typeIs tM ?_)
 try dsimp only
 rw[if_neg OS];refine ZZ (Zo hL.typeIs slot_tuple_getitem.lookup ?_);dsimp only;rw[if_pos (by decide)]
 refine wpAny_pure ?_;rw[if_neg (by decide)]
 refine ZZ (len_tuple (show IsTup s.heap l ys from hL) hz (ZZ (Z9 (a:=some (ys.size:Int)) rfl ?_)))
 dsimp only;exact ZZ (m:=Builtin.SmallTypes.newRecord _ _) (show wpAny _ _ (newObj (.type "reversed") (.fields #[.ref l,rawInt ((ys.size:Int) - 1)])) _ _ _ from ZR (wpAny_pure ⟨_,rfl,h _⟩))
def xT (l:Addr) (ys:Array Value):Meets (Builtin.«reversed.__new__» ⟨[.type "reversed",.ref l],[]⟩) (λ_ R s=>s.heap.IsTuple l ys/\(ys.size:Int)<2^63/\∀t,R (.ok (.ret (.ref s.heap.objs.size))) { s with heap:=s.heap.push (KW l ((ys.size:Int) - 1)),toks:=t }) :=
 .of_wp λprog w A R s h=>Nb (Q:=λv s'=>R (.ok (.ret v)) s') h.1 h.2.1 h.2.2
def P5(hL:s.heap.IsTuple l ys) (hz:(ys.size:Int)<2^63)
  (h:∀t,Q (.ref s.heap.objs.size) { s with heap:=s.heap.push (KW l ((ys.size:Int) - 1)),toks:=t }):wpAny (model P w) A (call (.type "reversed") [.ref l]) Q E s:=by
 refine callType_new vn (by decide) (F.typeCall_reversed_1 _) (F.newCall_reversed_1 _) (λobj=>F.args_object_init_2 obj _) F.entry_reversed_new (xT l ys) ⟨hL,hz,λt=>?_⟩
 show _/\_;exact⟨⟨_,z7 _ rfl,rfl⟩,h t⟩
theorem Jg{j:Addr}{x:Value}{Q:Option Value->Shared->Prop} (hj:IsRv s.heap j l (i:Int)) (hl:s.heap.IsTuple l ys) (hz:(ys.size:Int)<2^63) (hx:ys[i]?=some x)
  (k:∀h' t,IsRv h' j l ((i:Int) - 1)->Heap.SameBut j s.heap h'->Q (some x) { s with heap:=h',toks:=t }):wpAny (model P w) A (pyNext (.ref j)) Q E s:=by
 have hi:i<ys.size:=(Array.getElem?_eq_some_iff.mp hx).1;unfold pyNext;refine ZZ (YF (ZF (name:=Str.ofString "__next__") hj.ty K8 (ZQ K8 hj.ty zR ?_ (zS _))));unfold Builtin.«reversed.__next__»;refine ZZ (Z9 (a:=(Value.ref j,[])) rfl ?_)
 try dsimp only
 refine ZZ (Zw hj rfl (x:=.ref l) rfl (ZZ (Zw hj rfl (x:=rawInt (i:Int)) rfl ?_)));show wpAny _ _ (if (i:Int)<0 then _ else _) _ _ s
 rw[if_neg (by lia)]
 refine ZZ (Zo hl.typeIs slot_tuple_getitem.lookup ?_);simp only[Option.isNone_some,u4,if_false];refine ZZ (wpAny_mkInt (ZZ (YF (getItem_tuple (j:=i) (show IsTup s.heap l ys from hl) (by lia) (by lia) (by simp[seqIndex?];lia) hx ?_))))
 dsimp only;refine ZZ (Zw hj rfl (x:=rawInt (i:Int)) rfl ?_);show wpAny _ _ (setField (.ref j) 1 (rawInt ((i:Int) - 1)) >>= _) _ _ _;exact ZZ (Zs hj (by simp) λh2 e2 s2=>wpAny_pure ⟨x,rfl,wpAny_pure (k h2 _ e2 s2)⟩)
def wk{j:Addr}{Q:Option Value->Shared->Prop} (hn:A.handled=none) (hj:IsRv s.heap j l (-1))
  (k:∀h',Heap.ExtBut j s.heap h'->Q none { s with heap:=h' }):wpAny (model P w) A (pyNext (.ref j)) Q E s:=by
 unfold pyNext;refine ZZ (YF (ZF (name:=Str.ofString "__next__") hj.ty K8 (ZQ K8 hj.ty zR ?_ (zS _))));unfold Builtin.«reversed.__next__»;refine ZZ (Z9 (a:=(Value.ref j,[])) rfl ?_)
 try dsimp only
 refine ZZ (Zw hj rfl (x:=.ref l) rfl (ZZ (Zw hj rfl (x:=rawInt (-1)) rfl ?_)));show wpAny _ _ (if (-1:Int)<0 then _ else _) _ _ s
 rw[if_pos (by decide)]
 refine ZZ (YB (ZZ ?_));show wpAny _ _ (setField (.ref j) 1 (rawInt (-1)) >>= λ_=>setField (.ref j) 0 .none) _ _ _
 refine ZZ (Zs hj (by simp) λh2 e2 s2=>Zs e2 (by simp) λh3 e3 s3=>?_)
 refine ZZ ?_;show wpAny _ A.in1 (newExc (.type "StopIteration") [] >>= _) _ _ _;refine ZZ ?_;simp only[newExc,newTuple];refine ZZ (ZR (ZZ (m:=firstArgMember _ _) (Z9 (a:=Value.none) (by first|rfl|(simp only[firstArgMember];rfl)) (ZR ?_ (by size_fits)))) (by size_fits))
 simp only[raiseNew];refine ZZ (wpAny_handled ?_)
 first|rw[show A.in1.handled=none from hn] | rw[hn]
 have x3:Heap.ExtBut j s.heap h3:=λb o hb e=>s3.extBut b o hb (s2.extBut b o hb e)
 refine ZZ (wpAny_pure (wpAny_throw ?_));exact ZZ (YY (T:="StopIteration") (b:=true) ⟨_,z7 _ rfl,rfl⟩ isSubtype_stop (wpAny_pure (k _ ((x3.push _).push _))))
def J3{j:Addr}{i:Int} (hj:IsRv s.heap j l i) (h:Q (.ref j) s):wpAny (model P w) A (pyIter (.ref j)) Q E s:=by
 refine wpAny_pyIter_slot hj.ty AQ (ZQ AQ hj.ty xz ?_ (xB _));show wpAny _ _ (ret (.ref j)) _ _ s;exact wpAny_pure ⟨_,rfl,"reversed",_,hj.ty,K8.lookup,h⟩
inductive UC where
 | rn (es:List D)|er (x:D) (ρ:Rho)|bad
structure qZ (K:W.Frag) (xq:XQ) (B:Hp×Hp) (T:Vd) (o:UC):Prop where
 out:match o with
  | .rn es=>∀a h F' H',Stp B.1 B.2 F' H'->F' a=none->B.2 a=none->H' a=some h->Ro K F' a h (.l es)->T.rt (.ref a) H'
  | .er x ρ=>∀v σ F H,Rel K B ρ σ F H->Rp K F v x->xq v σ H
  | .bad=>False
def J7 (K:W.Frag) (xq:XQ) (f:Rho->UC):TS:=λT σ H=>∃B F ρ,Rel K B ρ σ F H/\qZ K xq B T (f ρ)
structure DRB (X:Cx) (xq:XQ) (sts:List Stmt) (f:Rho->UC):Prop where
 out:PSs X sts (J7 X.K xq f)
section
variable {o:Expr}{fn:Rho->Res OD}{f:Rho->Out}{g:Rho->UC}
noncomputable def QC (fn:Rho->Res OD) (ρ:Rho):UC:=match fn ρ with
 | .ok (.l es)=>.rn es
 | .err x=>.er x (frz ρ)
 | _=>.bad
def BB (he:DN X xq e fn):DRB X xq [.Return (some e) pos] (QC fn) :=
 ⟨Hv λZY s σ H T I z9=>Xt z9 λB F ρ R q=>FC he.out ZY s σ H T I ⟨B,F,ρ,R,by
  have q:=q.out;unfold QC at q;cases h:fn ρ with
  | bad=>rw[h] at q;exact q.elim
  | err x=>rw[h] at q;exact λv F1 H1 R1 p1=>q v σ F1 H1 R1 p1
  | ok o =>
   rw[h] at q;cases o with
   | l ds=>exact λa hh F' H' s n1 n2 e1 r1=>q a hh F' H' (R.st.trans s) n1 (R.st.hh.free n2) e1 r1
   | _=>exact q.elim⟩⟩
noncomputable def Sw (f:Rho->Out) (g:Rho->UC) (ρ:Rho):UC:=match f ρ with
 | .nx ρ1=>g ρ1
 | .er x ρ1=>.er x ρ1
 | _=>.bad
def Fl (h1:DS X xq st f) (h2:DRB X xq sts g):DRB X xq (st::sts) (Sw f g) :=
 ⟨λZY s σ H T I z9=>Xt z9 λB F ρ R q=>Hb h1.out h2.out ZY s σ H T I ⟨B,F,ρ,R,⟨by
  have q1:=q.out;unfold Sw at q1;generalize f ρ=o at q1;cases o with
  | nx ρ1=>exact λσ1 F1 H1 R1=>⟨B,F1,ρ1,R1,⟨q1⟩⟩
  | rt d=>exact q1.elim
  | bk r=>exact q1.elim
  | ct r=>exact q1.elim
  | er x r=>exact q1
  | bad=>exact q1⟩⟩⟩
def DRB.fix (h:DRB X xq sts g):DRB X xq sts (λρ=>g (frz ρ)) :=
 ⟨λZY s σ H T I z9=>Xt z9 λB F ρ R q=>by obtain⟨F1,_,R1⟩:=R.frz;exact h.out ZY s σ H T I ⟨B,F1,frz ρ,R1,q⟩⟩
end
noncomputable def runN (n m:Nat) (t:Rho->UC) (ds:List D):Res (List D):=if ds.length=m then (match t (ZV n ds) with | .rn es=>.ok es | .er x _=>.err x | .bad=>.bad) else .bad
noncomputable def IF:D->D->Res OD
 | .lst xs,.lst ys=>gd (xs.length+ys.length<=sizeLine) (.ok (.l (xs++ys)))
 | _,_=>.bad
section
variable {a b:Expr}{fa fb:Rho->Res D}
def LY (ha:DE X xq a fa) (hb:DE X xq b fb):DN X xq (.BinOp a .Add b pos) (λρ=>(fa ρ).bind λx=>(fb ρ).bind λy=>IF x y) :=
 ⟨λZY s σ H Q I z9=>Xt z9 λB F ρ R q=>Op B9 ha.out hb.out ZY s σ H Q I (Yd R q λd v F1 H1 s1 R1 p1 q1=>Yd R1 q1 λd2 v2 F2 H2 s2 R2 p2 q2=>by
  have p1':=p1.same s2.ff;cases p1' with
  | lst hx rx' =>
   cases p2 with
   | lst hy ry' =>
    obtain⟨hz,q3⟩:=SC q2;exact⟨_,_,_,_,rfl,rfl,hx.same R2.fh,hy.same R2.fh,by rw[rx'.length,ry'.length];exact hz,λp n=>q3 p _ F2 _ ((s1.trans s2).trans (Stp.only R2.fh (W5 n))) (R2.fh.free n) ((s1.trans s2).hh.free n) WN (.l (rx'.append ry'))⟩
   | _=>exact q2.elim
  | _=>exact q2.elim)⟩
end
theorem AR{F:Hp}:∀{xs:List V}{ds:List D} (j:Nat),Rps K F xs ds->Rp K F v d->Rps K F (xs.set j v) (ds.set j d)
 | _,_,_,.nil,_=>.nil
 | _,_,0,.cons _ hs,h=>.cons h hs
 | _,_,j+1,.cons h0 hs,h=>.cons h0 (AR j hs h)
noncomputable def yw:Sl->Option D
 | .val d=>some d
 | .own _=>none
noncomputable def Td (ρ:Rho):List (Option (Option D)):=ρ.map (Option.map yw)
def OK (ρ:Rho) (i:Nat):(Td ρ)[i]?=(ρ[i]?).map (Option.map yw):=by unfold Td;rw[w6]
def K7(h:Td ρ'=Td ρ)  (e:ρ[i]?=some (some (.own o))):∃o',ρ'[i]?=some (some (.own o')):=by
 have z:(Td ρ')[i]?=(Td ρ)[i]?:=by rw[h]
 rw[OK,OK,e] at z;cases q:ρ'[i]? with
 | none=>rw[q] at z;cases z
 | some y =>
  rw[q] at z;cases y with
  | none=>cases z
  | some s =>
   cases s with
   | val d=>cases z
   | own o'=>exact⟨o',rfl⟩
def NotOwn (ρ:Rho) (σ:St) (b:Addr):Prop:=∀(i:Nat) o,ρ[i]?=some (some (.own o))->σ[i]?≠some (some (.ref b))
def NotOwn.of{b:Addr} (h:Td ρ'=Td ρ) (n:NotOwn ρ σ b):NotOwn ρ' σ b:=λi o e=>by obtain⟨o',e'⟩:=K7 h.symm e;exact n i o' e'
structure Mv (K:W.Frag) (B:Hp×Hp) (ρ:Rho) (σ:St) (F H:Hp) (ρ':Rho) (F' H':Hp):Prop where
 rel:Rel K B ρ' σ F' H'
 sh:Td ρ'=Td ρ
 ff:Same F F'
 hh:∀b o,NotOwn ρ σ b->H b=some o->H' b=some o
 no:∀b,F b=none->H b≠none->F' b=none
section
variable {F F1 H1 F2 H2:Hp}
theorem Mv.refl (R:Rel K B ρ σ F H):Mv K B ρ σ F H ρ F H:=⟨R,rfl,Same.refl F,λ_ _ _ e=>e,λ_ n _=>n⟩
theorem Mv.step (m:Mv K B ρ σ F H ρ1 F1 H1) (s:Stp F1 H1 F2 H2):Mv K B ρ σ F H ρ1 F2 H2 where
 rel:=m.rel.step s
 sh:=m.sh
 ff:=m.ff.trans s.ff
 hh b o n e:=s.hh b o (m.hh b o n e)
 no b n e:=by
  refine s.no b (m.no b n e) ?_;by_cases q:NotOwn ρ σ b
  ·cases z:H b with
   | none=>exact absurd z e
   | some o=>rw[m.hh b o q z];simp
  ·unfold NotOwn at q
   simp only[Classical.not_forall] at q;obtain⟨i,o,e1,e2⟩:=q;obtain⟨o',e3⟩:=K7 m.sh e1;obtain⟨a,h,p1,p2,p3,p4,p5⟩:=m.rel.own i o' e3;have e2:σ[i]?=some (some (.ref b)):=Classical.not_not.mp e2;rw[e2] at p1;cases p1;rw[p4];simp
def Mv.of (R:Rel K B ρ σ F H) (s:Stp F H F' H'):Mv K B ρ σ F H ρ F' H':=(Mv.refl R).step s
def Mv.dom (m:Mv K B ρ σ F H ρ1 F1 H1) {b:Addr} (e:H b≠none):H1 b≠none:=by
 by_cases q:NotOwn ρ σ b
 ·cases z:H b with
  | none=>exact absurd z e
  | some o=>rw[m.hh b o q z];simp
 ·unfold NotOwn at q
  simp only[Classical.not_forall] at q;obtain⟨i,o,e1,e2⟩:=q;obtain⟨o',e3⟩:=K7 m.sh e1;obtain⟨a,h,p1,p2,p3,p4,p5⟩:=m.rel.own i o' e3;have e2:σ[i]?=some (some (.ref b)):=Classical.not_not.mp e2;rw[e2] at p1;cases p1;rw[p4];simp
def Mv.free (m:Mv K B ρ σ F H ρ1 F1 H1) {b:Addr} (e:H1 b=none):H b=none:=by
 cases z:H b with
 | none=>rfl
 | some o=>exact absurd e (m.dom (by rw[z];simp))
theorem Mv.trans (x:Mv K B ρ σ F H ρ1 F1 H1) (y:Mv K B ρ1 σ F1 H1 ρ2 F2 H2):Mv K B ρ σ F H ρ2 F2 H2 :=
 ⟨y.rel,y.sh.trans x.sh,x.ff.trans y.ff,λb o n e=>y.hh b o (n.of x.sh) (x.hh b o n e),λb n e=>y.no b (x.no b n e) (x.dom e)⟩
end
def Oi (K:W.Frag) (f:Rho->Res (D×Rho)):TE:=λσ H Q=>∃B F ρ,Rel K B ρ σ F H /\
 (f ρ).all (λr=>∀v F' H',Mv K B ρ σ F H r.2 F' H'->Rp K F' v r.1->Q v H') (λ_=>False)
def Mu (K:W.Frag) (f:Rho->Res (OD×Rho)):TE:=λσ H Q=>∃B F ρ,Rel K B ρ σ F H /\
 (f ρ).all (λr=>∀a h F' H',Mv K B ρ σ F H r.2 F' H'->F' a=none->H a=none->H' a=some h->Ro K F' a h r.1->Q (.ref a) H') (λ_=>False)
inductive Ag where
 | v (d:D)|o (j:Nat)
inductive Agr (K:W.Frag) (F:Hp) (σ:St):List V->List Ag->Prop
 | nil:Agr K F σ [] []
 | v {x:V}{d:D}{xs:List V}{as:List Ag}:Rp K F x d->Agr K F σ xs as->Agr K F σ (x::xs) (.v d::as)
 | o {x:V}{j:Nat}{xs:List V}{as:List Ag}:σ[j]?=some (some x)->Agr K F σ xs as->Agr K F σ (x::xs) (.o j::as)
def Sd (K:W.Frag) (f:Rho->Res (List Ag×Rho)):TA:=λσ H Q=>∃B F ρ,Rel K B ρ σ F H /\
 (f ρ).all (λr=>∀vs F' H',Mv K B ρ σ F H r.2 F' H'->Agr K F' σ vs r.1->Q vs H') (λ_=>False)
structure DX (X:Cx) (e:Expr) (f:Rho->Res (D×Rho)):Prop where
 out:PE X e (Oi X.K f)
structure DXN (X:Cx) (e:Expr) (f:Rho->Res (OD×Rho)):Prop where
 out:PE X e (Mu X.K f)
structure Lw (X:Cx) (es:List Expr) (f:Rho->Res (List Ag×Rho)):Prop where
 out:PA X es (Sd X.K f)
 ns:es.all Zk=true
section
variable {F F2 H2:Hp}
def QJ{fa:Rho->Res (D×Rho)}{g:D×Rho->Res α}{P:α->Prop}{T:VK} (R:Rel K B ρ σ F H) (h:((fa ρ).bind g).all P (λ_=>False))
  (k:∀r v F' H',Mv K B ρ σ F H r.2 F' H'->Rp K F' v r.1->(g r).all P (λ_=>False)->T v H'):Oi K fa σ H T :=
 ⟨B,F,ρ,R,Res.all_mono (Res.all_bind.mp h) (λr h' v F' H' m p=>k r v F' H' m p h') (λ_ e=>e)⟩
def To{fa:Rho->Res (List Ag×Rho)}{g:List Ag×Rho->Res α}{P:α->Prop}{T:List V->Hp->Prop} (R:Rel K B ρ σ F H) (h:((fa ρ).bind g).all P (λ_=>False))
  (k:∀r v F' H',Mv K B ρ σ F H r.2 F' H'->Agr K F' σ v r.1->(g r).all P (λ_=>False)->T v H'):Sd K fa σ H T :=
 ⟨B,F,ρ,R,Res.all_mono (Res.all_bind.mp h) (λr h' v F' H' m p=>k r v F' H' m p h') (λ_ e=>e)⟩
def IR {r:Res D}{Q:VK} (m:Mv K B ρ σ F H ρ2 F2 H2) (h:((YD r).bind λd=>.ok (d,ρ2)).all (λr:D×Rho=>∀v F' H',Mv K B ρ σ F H r.2 F' H'->Rp K F' v r.1->Q v H') (λ_=>False)) :
  r.all (λd=>∀v F' H',Stp F2 H2 F' H'->Rp K F' v d->Q v H') (λ_=>False):=by
 cases r with
 | ok d=>exact λv F' H' s p=>h v F' H' (m.step s) p
 | err x=>exact h
 | bad=>exact h
end
section
variable {a b:Expr}{fa fb fx:Rho->Res (D×Rho)}{fs:Rho->Res (List Ag×Rho)}
def DX.of {t:TE} (h:PE X e t) (k:∀B F ρ σ H Q,Rel X.K B ρ σ F H->(fx ρ).all (λr=>∀v F' H',Mv X.K B ρ σ F H r.2 F' H'->Rp X.K F' v r.1->Q v H') (λ_=>False)->t σ H Q):DX X e fx :=
 ⟨λZY s σ H Q I z9=>Xt z9 λB F ρ R q=>h ZY s σ H Q I (k B F ρ σ H Q R q)⟩
def WO (h:DE X xq e fe):DX X e (λρ=>(YD (fe ρ)).bind λd=>.ok (d,ρ)) :=
 DX.of h.out λB F ρ σ H Q R q=>⟨B,F,ρ,R,R7 (Res.all_mono (Res.all_bind.mp q) (λd q v F' H' s p=>q v F' H' (Mv.of R s) p) λ_ z=>z)⟩
def SJ {g:D->D->Res D} (ho:Ly X (rD X.K g)) (ha:DX X a fa) (hb:DX X b fb) (hs:autoParam (UD b) ar._auto_1):DX X (.Subscript a b pos) (λρ=>(fa ρ).bind λx=>(fb x.2).bind λy=>(YD (g x.1 y.1)).bind λd=>.ok (d,y.2)) :=
 DX.of (Oo ho ha.out hb.out hs) λB F ρ σ H Q R q=>QJ R q λx v F1 H1 m1 p1 q1=>QJ m1.rel q1 λy v2 F2 H2 m2 p2 q2 =>
  ⟨F2,x.1,y.1,m2.rel.fh,p1.same m2.ff,p2,IR (m1.trans m2) q2⟩
def Rz:Lw X [] (λρ=>.ok ([],ρ)):=⟨λpos ZY s σ H Q I z9=>Xt z9 λB F ρ R q=>R8 pos ZY s σ H Q I (q [] F H (Mv.refl R) .nil),rfl⟩
def Vj (ha:DX X e fx) (hr:Lw X es fs) (hs:autoParam (Zk e=true) aa._auto_1):Lw X (e::es) (λρ=>(fx ρ).bind λd=>(fs d.2).bind λr=>.ok (.v d.1::r.1,r.2)) :=
 ⟨λpos ZY s σ H Q I z9=>Xt z9 λB F ρ R q=>Ta ha.out hr.out hs pos ZY s σ H Q I (QJ R q λd v F1 H1 m1 p1 q1=>To m1.rel q1 λr vs F2 H2 m2 p2 q2 =>
  q2 (v::vs) F2 H2 (m1.trans m2) (.v (p1.same m2.ff) p2)),by rw[t9,hs,hr.ns];rfl⟩
noncomputable def WV (ρ:Rho) (j:Nat):Bool:=match ρ[j]? with
 | some (some (.own _))=>true
 | _=>false
set_option tactic.hygienic true in
def zl(h:WV ρ j=true):∃o,ρ[j]?=some (some (.own o)):=by
 unfold WV at h;split at h
 ·rename_i o e;exact⟨o,e⟩
 ·cases h
def SA (j:Nat) (hr:Lw X es fs) (hN:autoParam (X.N[j]?=some x) aa._auto_1) (hv:autoParam (Ut X.env.scope x) ae._auto_1) (hd:autoParam ((x==("__debug__":Str))=false) ac._auto_1)
  (Xa:autoParam ((x==("__classdict__":Str))=false) ac._auto_1):Lw X (.Name x pos::es) (λρ=>if WV ρ j=true then (fs ρ).bind λr=>.ok (.o j::r.1,r.2) else .bad) :=
 ⟨λpos ZY s σ H Q I z9=>Xt z9 λB F ρ R q=>Ta (U2 hN hv hd Xa) hr.out rfl pos ZY s σ H Q I (by
  dsimp only at q;by_cases w:WV ρ j=true
  ·rw [if_pos w] at q
   obtain⟨o,e⟩:=zl w;obtain⟨a,h,p1,p2⟩:=R.own j o e;exact⟨.ref a,p1,To R q λr vs F2 H2 m2 g2 q2=>q2 (.ref a::vs) F2 H2 m2 (.o p1 g2)⟩
  ·rw[if_neg w] at q;exact q.elim),by rw[t9,hr.ns];rfl⟩
noncomputable def KF:List Ag->Res (List D)
 | []=>.ok []
 | .v d::as=>(KF as).bind λds=>.ok (d::ds)
 | _=>.bad
theorem Bf{F:Hp}:∀{vs:List V}{as:List Ag}{ds:List D},Agr K F σ vs as->KF as=.ok ds->Rps K F vs ds
 | _,_,_,.nil,e=>by cases e;exact .nil
 | _,_,_,.v (as:=as) h hs,e=>by
  rw[KF] at e;cases q:KF as with
  | ok es=>rw[q] at e;cases e;exact .cons h (Bf hs q)
  | err x=>rw[q] at e;cases e
  | bad=>rw[q] at e;cases e
 | _,_,_,.o _ _,e=>by cases e
end
section
variable {Yg elt:Expr}{fe:Rho->Res (D×Rho)}{fi:Rho->Res (List D×Rho)}{scope:Scope}
def Mv.keep{F:Hp}{hh:HO} (R:Rel K B ρ σ F H) (m:Mv K B ρ σ F H ρ1 F' H') (n1:F' a=none) (n2:H a=none) (e1:H' a=some hh) (z9:FX hh):Mv K B ρ σ F H ρ1 (Zd F' a hh) H':=by
 have sf:Same F' (Zd F' a hh):=W5 n1;have un:∀{b:Addr},b≠a->F' b=none->Zd F' a hh b=none:=λz n=>by unfold Zd;rw[if_neg z];exact n
 refine⟨⟨⟨m.rel.st.ff.trans sf,λb u x=>?_,m.rel.st.hh,λb x y=>un (λz=>?_) (m.rel.st.no b x y),Lf z9 m.rel.st.nz⟩,m.rel.len,λj d e=>?_,λj o e=>?_,m.rel.dis⟩,m.sh,m.ff.trans sf,m.hh,λb n e=>un (λz=>e (z ▸ n2)) (m.no b n e)⟩
 ·unfold Zd at x
  by_cases z:b=a
  ·rw[if_pos z] at x;cases x;subst z;exact e1
  ·rw[if_neg z] at x;exact m.rel.st.fh b u x
 ·subst z;exact y (R.st.hh.free n2)
 ·obtain⟨v,p1,p2⟩:=m.rel.val j d e;exact⟨v,p1,p2.same sf⟩
 ·obtain ⟨b,h,p1,p2,p3,p4,p5⟩:=m.rel.own j o e
  obtain⟨o',e'⟩:=K7 m.sh.symm e;obtain⟨c,h',g1,g2,g3,g4,g5⟩:=R.own j o' e';rw[p1] at g1;cases g1;exact⟨b,h,p1,un (λz=>by subst z;rw[n2] at g4;cases g4) p2,p3,p4,Ro.same sf p5⟩
def DXN.de{f:Rho->Res (OD×Rho)} (h:DXN X e f):DX X e (λρ=>(f ρ).bind λr=>.ok (r.1.toD,r.2)) :=
 DX.of h.out λB F ρ σ H Q R q=>⟨B,F,ρ,R,Res.all_mono (Res.all_bind.mp q) (λr q1 a hh F' H' m n1 n2 e1 r1=>q1 _ _ _ (m.keep R n1 n2 e1 r1.nz) ((Ro.same (W5 n1) r1).rp WN)) λ_ z=>z⟩
end
def Uv (K:W.Frag) (g:List Sl->Res (D×List Sl)):Sp:=λvs H Q E=>∃(F hb:Hp) (sl:List Sl),Rel K (F,hb) (sl.map some) (vs.map some) F H/\(∀b o,NotOwn (sl.map some) (vs.map some) b->H b=some o->hb b=some o) /\
 (g sl).all (λr=>∀v F' H',Mv K (F,hb) (sl.map some) (vs.map some) F H (r.2.map some) F' H'->Rp K F' v r.1->Q v H') (λ_=>False)
noncomputable def unp:OD->OD
 | .p _ o=>o
 | o=>o
noncomputable def W1 (o0 o:OD):OD:=match o0 with
 | .p a _=>.p a o
 | _=>o
theorem Ro.unp{F:Hp}{h:HO} (r:Ro K F a h o):Ro K F a h (L2.unp o):=by
 cases r with
 | p r=>exact r
 | l r=>exact .l r
 | d r=>exact .d r
 | i r=>exact .i r
 | n r=>exact .n r
def Ro.rep{F:Hp}{h h':HO} (r0:Ro K F a h' o0) (r:Ro K F' a h o):Ro K F' a h (W1 o0 o):=by
 cases r0 with
 | p _=>exact .p r
 | l _=>exact r
 | d _=>exact r
 | i _=>exact r
 | n _=>exact r
noncomputable def ZK (ρ:Rho):List Ag->Res (List Sl)
 | []=>.ok []
 | .v d::as=>(ZK ρ as).bind λs=>.ok (.val d::s)
 | .o j::as=>match ρ[j]? with
  | some (some (.own o))=>(ZK ρ as).bind λs=>.ok (.own (unp o)::s)
  | _=>.bad
noncomputable def W8:List Ag->List Nat
 | []=>[]
 | .v _::as=>W8 as
 | .o j::as=>j::W8 as
noncomputable def Wn (ρ:Rho) (as:List Ag):Res (List Sl):=gd (W8 as).Nodup (ZK ρ as)
noncomputable def Yo:List Ag->List Sl->Rho->Rho
 | .o j::as,.own o::ss,ρ=>Yo as ss (match ρ[j]? with
  | some (some (.own o0))=>ρ.set j (some (.own (W1 o0 o)))
  | _=>ρ)
 | _::as,_::ss,ρ=>Yo as ss ρ
 | _,_,ρ=>ρ
theorem Fu:∀{as:List Ag}{sl:List Sl}{i:Nat}{d:D},ZK ρ as=.ok sl->sl[i]?=some (.val d)->as[i]?=some (.v d)
 | [],sl,i,d,h,e=>by cases h;cases e
 | .v d'::as,sl,i,d,h,e=>by
  rw[ZK] at h;cases q:ZK ρ as with
  | ok s =>
   rw[q] at h;cases h;cases i with
   | zero=>simp at e;simp[e]
   | succ i=>simpa using Fu q (by simpa using e)
  | err x=>rw[q] at h;cases h
  | bad=>rw[q] at h;cases h
 | .o j::as,sl,i,d,h,e=>by
  rw[ZK] at h;split at h
  ·cases q:ZK ρ as with
   | ok s =>
    rw[q] at h;cases h;cases i with
    | zero=>simp at e
    | succ i=>simpa using Fu q (by simpa using e)
   | err x=>rw[q] at h;cases h
   | bad=>rw[q] at h;cases h
  ·cases h
set_option tactic.hygienic true in
theorem Lg:∀{as:List Ag}{sl:List Sl}{i:Nat}{o:OD},ZK ρ as=.ok sl->sl[i]?=some (.own o)->∃j o0,as[i]?=some (.o j)/\ρ[j]?=some (some (.own o0))/\o=unp o0
 | [],sl,i,d,h,e=>by cases h;cases e
 | .v d'::as,sl,i,o,h,e=>by
  rw[ZK] at h;cases q:ZK ρ as with
  | ok s =>
   rw[q] at h;cases h;cases i with
   | zero=>simp at e
   | succ i=>simpa using Lg q (by simpa using e)
  | err x=>rw[q] at h;cases h
  | bad=>rw[q] at h;cases h
 | .o j::as,sl,i,o,h,e=>by
  rw[ZK] at h;split at h
  ·rename_i o0 e0
   cases q:ZK ρ as with
   | ok s =>
    rw[q] at h;cases h;cases i with
    | zero=>simp at e;exact⟨j,o0,by simp,e0,e.symm⟩
    | succ i=>simpa using Lg q (by simpa using e)
   | err x=>rw[q] at h;cases h
   | bad=>rw[q] at h;cases h
  ·cases h
set_option tactic.hygienic true in
theorem HJ:∀{as:List Ag}{sl:List Sl}{i j:Nat},ZK ρ as=.ok sl->as[i]?=some (.o j)->∃o0,sl[i]?=some (.own (unp o0))/\ρ[j]?=some (some (.own o0))
 | [],sl,i,d,h,e=>by cases e
 | .v d'::as,sl,i,j,h,e=>by
  rw[ZK] at h;cases q:ZK ρ as with
  | ok s =>
   rw[q] at h;cases h;cases i with
   | zero=>simp at e
   | succ i=>simpa using HJ q (by simpa using e)
  | err x=>rw[q] at h;cases h
  | bad=>rw[q] at h;cases h
 | .o j'::as,sl,i,j,h,e=>by
  rw[ZK] at h;split at h
  ·rename_i o0 e0
   cases q:ZK ρ as with
   | ok s =>
    rw[q] at h;cases h;cases i with
    | zero=>simp at e;subst e;exact⟨o0,by simp,e0⟩
    | succ i=>simpa using HJ q (by simpa using e)
   | err x=>rw[q] at h;cases h
   | bad=>rw[q] at h;cases h
  ·cases h
theorem Fv:∀{as:List Ag}{sl:List Sl},ZK ρ as=.ok sl->sl.length=as.length
 | [],sl,h=>by cases h;rfl
 | .v d'::as,sl,h=>by
  rw[ZK] at h;cases q:ZK ρ as with
  | ok s=>rw[q] at h;cases h;simp[Fv q]
  | err x=>rw[q] at h;cases h
  | bad=>rw[q] at h;cases h
 | .o j::as,sl,h=>by
  rw[ZK] at h;split at h
  ·cases q:ZK ρ as with
   | ok s=>rw[q] at h;cases h;simp[Fv q]
   | err x=>rw[q] at h;cases h
   | bad=>rw[q] at h;cases h
  ·cases h
theorem Kd:∀{as:List Ag}{j:Nat},j∈W8 as↔Ag.o j∈as
 | [],j=>by simp[W8]
 | .v d::as,j=>by simp[W8,Kd (as:=as)]
 | .o i::as,j=>by simp[W8,Kd (as:=as)]
theorem Fq:∀{as:List Ag}{i i' j:Nat},(W8 as).Nodup->as[i]?=some (Ag.o j)->as[i']?=some (Ag.o j)->i=i'
 | [],_,_,_,_,e,_=>by cases e
 | .v d::as,i,i',j,n,e,e'=>by
  cases i with
  | zero=>simp at e
  | succ i =>
   cases i' with
   | zero=>simp at e'
   | succ i'=>exact congrArg (·+1) (Fq (as:=as) n (by simpa using e) (by simpa using e'))
 | .o k::as,i,i',j,n,e,e'=>by
  have n:=OT.mp n;have nm:∀t,as[t]?=some (Ag.o j)->j≠k:=λt h z=>n.1 (by subst z;exact Kd.mpr (ZP h))
  cases i with
  | zero =>
   simp at e;cases i' with
   | zero=>rfl
   | succ i'=>exact absurd e.symm (nm i' (by simpa using e'))
  | succ i =>
   cases i' with
   | zero=>simp at e';exact absurd e'.symm (nm i (by simpa using e))
   | succ i'=>exact congrArg (·+1) (Fq (as:=as) n.2 (by simpa using e) (by simpa using e'))
theorem K0:∀{as:List Ag}{ss:List Sl}{ρ:Rho},Ag.o j∉as->(Yo as ss ρ)[j]?=ρ[j]?
 | [],_,_,_=>by simp[Yo]
 | _::_,[],_,_=>by simp[Yo]
 | .v d::as,s::ss,ρ,h=>by rw[Yo];exact K0 (λm=>h (z5 _ m));exact λ_ _ e=>by cases e
 | .o i::as,.val d::ss,ρ,h=>by rw[Yo];exact K0 (λm=>h (z5 _ m));exact λ_ _ _ e=>by cases e
 | .o i::as,.own o::ss,ρ,h=>by
  rw[Yo,K0 (λm=>h (z5 _ m))]
  split
  ·exact Va λe=>h (by simp[e])
  ·rfl
theorem Hu:∀{as:List Ag}{ss:List Sl}{ρ:Rho}{i:Nat},(W8 as).Nodup->as[i]?=some (Ag.o j)->ss[i]?=some (.own o)->ρ[j]?=some (some (.own o0))->(Yo as ss ρ)[j]?=some (some (.own (W1 o0 o)))
 | [],_,_,_,_,e,_,_=>by cases e
 | _::_,[],_,_,_,_,e,_=>by cases e
 | .v d::as,s::ss,ρ,i,n,e,e',q=>by
  cases i with
  | zero=>simp at e
  | succ i=>rw[Yo];exact Hu (as:=as) n (by simpa using e) (by simpa using e') q;exact λ_ _ e=>by cases e
 | .o k::as,.val d::ss,ρ,i,n,e,e',q=>by
  have n:=OT.mp n;cases i with
  | zero=>simp at e'
  | succ i=>rw[Yo];exact Hu (as:=as) n.2 (by simpa using e) (by simpa using e') q;exact λ_ _ _ e=>by cases e
 | .o k::as,.own u::ss,ρ,i,n,e,e',q=>by
  have n:=OT.mp n;cases i with
  | zero =>
   simp at e e';subst e e';rw[Yo,K0 (λm=>n.1 (Kd.mpr m)),q]
   exact Li (x0.mp q).1
  | succ i =>
   have hk:j≠k:=λz=>n.1 (by subst z;exact Kd.mpr (ZP (by simpa using e)))
   rw[Yo];refine Hu (as:=as) n.2 (by simpa using e) (by simpa using e') ?_
   split
   ·rw[Va hk];exact q
   ·exact q
theorem Ha:∀{as:List Ag}{ss:List Sl}{ρ:Rho},(Yo as ss ρ).length=ρ.length
 | [],_,_=>by simp[Yo]
 | _::_,[],_=>by simp[Yo]
 | .v d::as,s::ss,ρ=>by rw[Yo];exact Ha;exact λ_ _ e=>by cases e
 | .o i::as,.val d::ss,ρ=>by rw[Yo];exact Ha;exact λ_ _ _ e=>by cases e
 | .o i::as,.own o::ss,ρ=>by
  rw[Yo,Ha]
  split<;>simp
theorem Agr.val{F:Hp}:∀{vs:List V}{as:List Ag}{i:Nat}{d:D},Agr K F σ vs as->as[i]?=some (.v d)->∃x,vs[i]?=some x/\Rp K F x d
 | _,_,i,d,.nil,e=>by cases e
 | _,_,0,d,.v h hs,e=>by simp at e;subst e;exact⟨_,rfl,h⟩
 | _,_,i+1,d,.v h hs,e=>by simpa using hs.val (by simpa using e)
 | _,_,0,d,.o h hs,e=>by simp at e
 | _,_,i+1,d,.o h hs,e=>by simpa using hs.val (by simpa using e)
theorem Agr.own{F:Hp}:∀{vs:List V}{as:List Ag}{i j:Nat},Agr K F σ vs as->as[i]?=some (Ag.o j)->∃x,vs[i]?=some x/\σ[j]?=some (some x)
 | _,_,i,d,.nil,e=>by cases e
 | _,_,0,d,.v h hs,e=>by simp at e
 | _,_,i+1,d,.v h hs,e=>by simpa using hs.own (by simpa using e)
 | _,_,0,d,.o h hs,e=>by simp at e;subst e;exact⟨_,rfl,h⟩
 | _,_,i+1,d,.o h hs,e=>by simpa using hs.own (by simpa using e)
theorem Agr.length{F:Hp}:∀{vs:List V}{as:List Ag},Agr K F σ vs as->vs.length=as.length
 | _,_,.nil=>rfl
 | _,_,.v _ hs=>congrArg (·+1) hs.length
 | _,_,.o _ hs=>congrArg (·+1) hs.length
def map_some{l:List α}{x:α}:(l.map some)[i]?=some (some x)↔l[i]?=some x:=by
 rw[w6];cases l[i]?<;>simp
section
variable {F:Hp}{as:List Ag}
open Classical in
noncomputable def Wt (σ:St) (as:List Ag) (H:Hp):Hp:=λb=>if ∃j,Ag.o j∈as/\σ[j]?=some (some (.ref b)) then none else H b
def Rel.hand (R:Rel K B ρ σ F H) (h:ZK ρ as=.ok sl) (nd:(W8 as).Nodup) (ag:Agr K F σ vs as):Rel K (F,Wt σ as H) (sl.map some) (vs.map some) F H where
 st:=⟨Same.refl F,R.fh,λb o e=>by
  have e:Wt σ as H b=some o:=e;unfold Wt at e;by_cases z:∃j,Ag.o j∈as/\σ[j]?=some (some (.ref b))
  ·rw[if_pos z] at e;cases e
  ·rw[if_neg z] at e;exact e,λ_ n _=>n,λ_ _ _ q=>q⟩
 len:=by rw[v0,v0,ag.length,Fv h]
 val i d e:=by
  obtain⟨x,h1,h2⟩:=ag.val (Fu h (map_some.mp e));exact⟨x,map_some.mpr h1,h2⟩
 own i o e:=by
  obtain⟨j,o0,h1,h2,rfl⟩:=Lg h (map_some.mp e);obtain⟨x,h3,h4⟩:=ag.own h1;obtain⟨a,hh,p1,p2,p3,p4,p5⟩:=R.own j o0 h2;rw[p1] at h4;cases h4;refine⟨a,hh,map_some.mpr h3,p2,?_,p4,p5.unp⟩;show Wt σ as H a=none;unfold Wt;exact if_pos ⟨j,ZP h1,p1⟩
 dis i i' o u a e e' q q':=by
  obtain⟨j,o0,h1,h2,rfl⟩:=Lg h (map_some.mp e);obtain⟨j',o0',h1',h2',rfl⟩:=Lg h (map_some.mp e');obtain⟨x,h3,h4⟩:=ag.own h1;obtain⟨x',h3',h4'⟩:=ag.own h1';rw[map_some.mp q] at h3;cases h3;rw[map_some.mp q'] at h3';cases h3'
  have:=R.dis j j' o0 o0' a h2 h2' h4 h4'
  subst this;exact Fq nd h1 h1'
def zn (R:Rel K B ρ σ F H) (h:ZK ρ as=.ok sl) (ag:Agr K F σ vs as):∀b o,NotOwn (sl.map some) (vs.map some) b->H b=some o->Wt σ as H b=some o:=λb o n e=>by
 unfold Wt;rw[if_neg]
 ·exact e
 ·rintro ⟨j,m,q⟩
  obtain⟨t,ht,z⟩:=List.mem_iff_getElem.mp m;have z:as[t]?=some (Ag.o j):=by rw[<- z];simp[ht]
  obtain⟨o0,h1,h2⟩:=HJ h z;obtain⟨x,h3,h4⟩:=ag.own z;rw[q] at h4;cases h4;exact n t _ (map_some.mpr h1) (map_some.mpr h3)
def GX (h:ZK ρ as=.ok sl) (nd:(W8 as).Nodup) (sh:Td (sl'.map some)=Td (sl.map some)) (j:Nat):(Ag.o j∉as/\(Yo as sl' ρ)[j]?=ρ[j]?)\/∃(t:Nat) (o0 o':OD),as[t]?=some (Ag.o j)/\ρ[j]?=some (some (.own o0))/\sl'[t]?=some (Sl.own o')/\(Yo as sl' ρ)[j]?=some (some (.own (W1 o0 o'))):=by
 by_cases m:Ag.o j∈as
 ·obtain ⟨t,ht,z⟩:=List.mem_iff_getElem.mp m
  have z:as[t]?=some (Ag.o j):=by rw[<- z];simp[ht]
  obtain⟨o0,h1,h2⟩:=HJ h z;obtain⟨o',h3⟩:=K7 sh (map_some.mpr h1);have h3:=map_some.mp h3;exact .inr ⟨t,o0,o',z,h2,h3,Hu nd z h3 h2⟩
 ·exact .inl ⟨m,K0 m⟩
def Mv.call (R:Rel K B ρ σ F H) (h:ZK ρ as=.ok sl) (nd:(W8 as).Nodup) (ag:Agr K F σ vs as) (m:Mv K (F,Wt σ as H) (sl.map some) (vs.map some) F H (sl'.map some) F' H'):Mv K B ρ σ F H (Yo as sl' ρ) F' H':=by
 have nw:∀{b:Addr},(∀(j:Nat) o,Ag.o j∈as->ρ[j]?=some (some (.own o))->σ[j]?≠some (some (.ref b)))->NotOwn (sl.map some) (vs.map some) b:=λn x o e z=>by
  obtain⟨j,o0,h1,h2,rfl⟩:=Lg h (map_some.mp e);obtain⟨y,h3,h4⟩:=ag.own h1;rw[map_some.mp z] at h3;cases h3;exact n j o0 (ZP h1) h2 h4
 have own0:∀{j:Nat}{o:OD},(Yo as sl' ρ)[j]?=some (some (.own o))->∃o0,ρ[j]?=some (some (.own o0)):=λ{j o} e=>by
  rcases GX h nd m.sh j with⟨_,q⟩|⟨t,o0,o',_,q,_⟩
  ·rw[q] at e;exact⟨o,e⟩
  ·exact⟨o0,q⟩
 refine⟨⟨⟨R.st.ff.trans m.ff,m.rel.fh,λb o e=>?_,λb n e=>?_,λa x u q=>R.st.nz a x u (m.rel.st.nz a x u q)⟩,by rw[Ha];exact R.len,λj u e=>?_,λj o e=>?_,λj j' o u a e e'=>?_⟩,?_,m.ff,λb o n e=>m.hh b o (nw λj o _ e=>n j o e) e,m.no⟩
 ·refine m.hh b o (nw fun j o' _ e' z=>?_) (R.st.hh b o e)
  obtain⟨a,hh,p1,p2,p3,_⟩:=R.own j o' e';rw[z] at p1;cases p1;rw[p3] at e;cases e
 ·exact m.no b (R.st.no b n e) (JW R.st.hh e)
 ·rcases GX h nd m.sh j with ⟨_,q⟩ | ⟨t,o0,o',_,_,_,q⟩
  ·rw [q] at e
   obtain⟨v,p1,p2⟩:=R.val j u e;exact⟨v,p1,p2.same m.ff⟩
  ·rw[q] at e;cases e
 ·rcases GX h nd m.sh j with ⟨hj,q⟩ | ⟨t,o0,o',h1,h2,h3,q⟩
  ·rw [q] at e
   obtain⟨a,hh,p1,p2,p3,p4,p5⟩:=R.own j o e;refine⟨a,hh,p1,m.no a p2 (by rw[p4];simp),p3,m.hh a hh (nw λj' o' mj e' z=>?_) p4,Ro.same m.ff p5⟩
   have:=R.dis j j' o o' a e e' p1 z
   exact hj (this ▸ mj)
  ·rw [q] at e;cases e
   obtain⟨a,hh,p1,p2,p3,p4,p5⟩:=R.own j o0 h2;obtain⟨x,h4,h5⟩:=ag.own h1;rw[p1] at h5;cases h5;obtain⟨a',hh',g1,g2,g3,g4,g5⟩:=m.rel.own t o' (map_some.mpr h3);rw[map_some.mpr h4] at g1;cases g1;exact⟨a,hh',p1,g2,p3,g4,p5.rep g5⟩
 ·obtain ⟨o1,e1⟩:=own0 e
  obtain⟨o2,e2⟩:=own0 e';exact R.dis j j' o1 o2 a e1 e2
 ·apply Xb
  intro j;rw[OK,OK];rcases GX h nd m.sh j with⟨_,q⟩|⟨t,o0,o',_,q1,_,q⟩
  ·rw[q]
  ·rw[q,q1];rfl
end
section
variable {a b:Expr}{fx:Rho->Res (D×Rho)}{fs:Rho->Res (List Ag×Rho)}
def UY{g:List Sl->Res (D×List Sl)} (h:Callee P w K mg base k x ps (Uv K g)) (hr:Room k' X.A) (ha:Lw X (e::es) fs) (hk:autoParam (k<=k') ac._auto_1) (hg:autoParam (Gl X x) aa._auto_1)
  (eP:autoParam (X.prog=P) aa._auto_1) (ew:autoParam (X.w=w) aa._auto_1) (eK:autoParam (X.K=K) aa._auto_1) (em:autoParam (X.mg=mg) aa._auto_1) (eb:autoParam (X.base=base) aa._auto_1) (WJ:autoParam ((x==("__debug__":Str))=false) ac._auto_1) :
  DX X (.Call (.Name x p) (e::es) [] pos) (λρ=>(fs ρ).bind λr=>(YD (Wn r.2 r.1)).bind λsl=>(YD (g sl)).bind λu=>.ok (u.1,Yo r.1 u.2 r.2)) :=
 DX.of (HM h hr hk ha.out hg eP ew eK em eb WJ ha.ns) λB F ρ σ H Q R q=>To R q λr vs F1 H1 m1 p1 q1=>by
  subst eK;cases w1:Wn r.2 r.1 with
  | err x=>rw[w1] at q1;exact q1.elim
  | bad=>rw[w1] at q1;exact q1.elim
  | ok sl =>
   rw[w1] at q1;have w2:(W8 r.1).Nodup/\ZK r.2 r.1=.ok sl:=by
    unfold Wn gd at w1;split at w1
    ·exact⟨by assumption,w1⟩
    ·cases w1
   refine⟨F1,Wt σ r.1 H1,sl,by rw[ZI];exact m1.rel.hand w2.2 w2.1 p1,by rw[ZI];exact zn m1.rel w2.2 p1,?_⟩
   have q2:((YD (g sl)).bind _).all _ _:=q1;cases w3:g sl with
   | err x=>rw[w3] at q2;exact q2.elim
   | bad=>rw[w3] at q2;exact q2.elim
   | ok u =>
    rw[w3] at q2;intro v F' H' m p;rw[ZI] at m;exact q2 v F' H' (m1.trans (Mv.call m1.rel w2.2 w2.1 p1 m)) p
def SE(hN:X.N.Nodup) (he:DX X e fx) (hi:autoParam (X.N.findIdx? (λy=>y==x)=some i) aa._auto_1) (hx:autoParam (Loc X.env.scope x) ah._auto_1) (hs:autoParam (swapsWith e (some (.Name x pos')) pos.line X.env=pure false) aa._auto_1)
  (hf:autoParam (X.fn x=true\/X.env.scope.names.lookup x=some .local) ai._auto_1):DS X xq (.Assign [.Name x pos'] e pos) (λρ=>(YD (fx ρ)).go ρ λr=>.nx (r.2.set i (some (.val r.1)))) :=
 DS.of (N1 hN he.out hi hx hs hf) λB F ρ σ H T R q=>⟨B,F,ρ,R,R7 (Res.all_mono (Wy q.out) (λr q v F' H' m p=>q _ F' H' (m.rel.set p)) λ_ z=>z)⟩
def xV (he:DX X e fx) (hs:autoParam (swapsWith e none pos.line X.env=pure false) aa._auto_1):DS X xq (.Expr e pos) (λρ=>(YD (fx ρ)).go ρ λr=>.nx r.2) :=
 DS.of (L7 he.out hs) λB F ρ σ H T R q=>⟨B,F,ρ,R,R7 (Res.all_mono (Wy q.out) (λr q v F' H' m p=>q σ F' H' m.rel) λ_ z=>z)⟩
end
inductive XN where
 | rm (d:D) (ρ:Rho)|bad
structure FY (K:W.Frag) (B:Hp×Hp) (T:Vd) (o:XN):Prop where
 out:match o with
  | .rm d ρ=>∀v σ F H,Rel K B ρ σ F H->Rp K F v d->T.rt v H
  | .bad=>False
def liftM (K:W.Frag) (f:Rho->XN):TS:=λT σ H=>∃B F ρ,Rel K B ρ σ F H/\FY K B T (f ρ)
structure OW (X:Cx) (sts:List Stmt) (f:Rho->XN):Prop where
 out:PSs X sts (liftM X.K f)
noncomputable def Res.gm(r:Res α) (k:α->XN):XN:=match r with
 | .ok a=>k a
 | _=>.bad
@[simp] theorem NB(a:α) (k:α->XN):(Res.ok a).gm k=k a:=rfl
@[simp] theorem Cr(k:α->XN):(Res.bad:Res α).gm k=.bad:=rfl
@[simp] theorem Ct(x:D) (k:α->XN):(Res.err x:Res α).gm k=.bad:=rfl
noncomputable def Vy (o:Out) (g:Rho->XN):XN:=match o with
 | .nx ρ=>g ρ
 | _=>.bad
@[simp] theorem Nq (ρ:Rho) (g:Rho->XN):Vy (.nx ρ) g=g ρ:=rfl
section
variable {fx:Rho->Res (D×Rho)}{f:Rho->Out}{g ga:Rho->XN}
def Bz{r:Res α}{k:α->XN}{T:Vd}{E:D->Prop} (h:FY K B T (r.gm k)):r.all (λa=>FY K B T (k a)) E:=by
 cases r with
 | ok a=>exact h
 | err x=>exact(show False from h.out).elim
 | bad=>exact(show False from h.out).elim
def Sz (he:DX X e fx):OW X [.Return (some e) pos] (λρ=>(fx ρ).gm λr=>.rm r.1 r.2) :=
 ⟨Hv λZY s σ H T I z9=>Xt z9 λB F ρ R q=>FC he.out ZY s σ H T I ⟨B,F,ρ,R,Res.all_mono (Bz q) (λr k v F' H' m p=>k.out v σ F' H' m.rel p) λ_ z=>z⟩⟩
def U9 (h1:DS X XW st f) (h2:OW X sts g):OW X (st::sts) (λρ=>Vy (f ρ) g) :=
 ⟨λZY s σ H T I z9=>Xt z9 λB F ρ R q=>Hb h1.out h2.out ZY s σ H T I ⟨B,F,ρ,R,⟨by
  dsimp only at q;generalize f ρ=o at q;cases o with
  | nx ρ1=>exact λσ1 F1 H1 R1=>⟨B,F1,ρ1,R1,q⟩
  | rt d=>exact(show False from q.out).elim
  | bk r=>exact(show False from q.out).elim
  | ct r=>exact(show False from q.out).elim
  | er x r=>exact(show False from q.out).elim
  | bad=>exact(show False from q.out).elim⟩⟩⟩
def OO {a:List Stmt} (hc:DT X XW c fT) (ha:OW X a ga) (hb:OW X sts g):OW X (.If c a [] pos::sts) (λρ=>(fT (frz ρ)).gm λk=>if k=true then ga ρ else g ρ) :=
 ⟨λZY s σ H T I z9=>Xt z9 λB F ρ R q=>Hb (Sn hc.out ha.out EU) hb.out ZY s σ H T I ⟨B,F,ρ,R,Res.all_mono (Bz (E:=λ_=>False) q) (λk q H' s=>by
  cases k with
  | true =>
   rw[if_pos rfl] at q |-
   exact⟨B,F,ρ,R.step s,⟨by
    have q:=q.out;generalize ga ρ=o at q |-
    cases o with
    | rm d ρ'=>exact q
    | bad=>exact q⟩⟩
  | false =>
   rw[if_neg (by decide)] at q |-
   exact⟨B,F,ρ,R.step s,q⟩) λ_ z=>z.elim⟩⟩
end
noncomputable def Xr (A:Nat->Addr):Nat->List Sl->Rho
 | _,[]=>[]
 | i,.val d::r=>some (.val d)::Xr A (i+1) r
 | i,.own o::r=>some (.own (.p (A i) o))::Xr A (i+1) r
noncomputable def W7 (A:Nat->Addr):Nat->List Sl->Rho->Res (List Sl)
 | _,[],_=>.ok []
 | i,.val d::r,ρ=>(W7 A (i+1) r ρ).bind λs=>.ok (.val d::s)
 | i,.own _::r,ρ=>match ρ[i]? with
  | some (some (.own (.p a o)))=>if a=A i then (W7 A (i+1) r ρ).bind λs=>.ok (.own o::s) else .bad
  | _=>.bad
noncomputable def UR (n m:Nat) (t:Rho->XN) (A:Nat->Addr) (sl:List Sl):Res (D×List Sl) :=
 if sl.length=m then (match t (Xr A 0 sl++List.replicate (n - sl.length) none) with
  | .rm d ρ=>(W7 A 0 sl ρ).bind λs=>.ok (d,s)
  | .bad=>.bad) else .bad
open Classical in
noncomputable def gM (n m:Nat) (t:Rho->XN) (sl:List Sl):Res (D×List Sl):=if h:∃r,∀A,UR n m t A sl=.ok r then .ok h.choose else .bad
def RU{m:Nat}{t:Rho->XN}{r:D×List Sl} (h:∀A,UR n m t A sl=.ok r):gM n m t sl=.ok r:=by
 have e:∃r,∀A,UR n m t A sl=.ok r:=⟨r,h⟩;unfold gM;rw[dif_pos e]
 have:=e.choose_spec (λ_=>0)
 rw[h] at this;rw[Res.ok.inj this]
theorem EO (A:Nat->Addr):∀(sl:List Sl) (k i:Nat),(Xr A k sl)[i]?=(sl[i]?).map λs=>some (match s with | .val d=>.val d | .own o=>.own (.p (A (k+i)) o))
 | [],k,i=>by simp[Xr]
 | .val d::r,k,0=>by simp[Xr]
 | .own o::r,k,0=>by simp[Xr]
 | .val d::r,k,i+1=>by
  simp only[Xr,FR];rw[EO A r (k+1) i,show k+1+i=k+(i+1) by lia]
 | .own o::r,k,i+1=>by
  simp only[Xr,FR];rw[EO A r (k+1) i,show k+1+i=k+(i+1) by lia]
theorem EN (A:Nat->Addr):∀(sl:List Sl) (k:Nat),(Xr A k sl).length=sl.length
 | [],k=>rfl
 | .val d::r,k=>by simp[Xr,EN A r]
 | .own o::r,k=>by simp[Xr,EN A r]
set_option tactic.hygienic true in
theorem Fa{A:Nat->Addr}:∀{sl sl':List Sl}{k i:Nat},W7 A k sl ρ=.ok sl'->match sl[i]? with
  | some (.val d)=>sl'[i]?=some (.val d)
  | some (.own _)=>∃o',sl'[i]?=some (.own o')/\ρ[k+i]?=some (some (.own (.p (A (k+i)) o')))
  | none=>sl'[i]?=none
 | [],sl',k,i,h=>by cases h;simp
 | .val d::r,sl',k,i,h=>by
  rw[W7] at h;cases q:W7 A (k+1) r ρ with
  | ok s =>
   rw[q] at h;cases h;cases i with
   | zero=>simp
   | succ i =>
    have:=Fa (i:=i) q
    simpa[show k+1+i=k+(i+1) by lia] using this
  | err x=>rw[q] at h;cases h
  | bad=>rw[q] at h;cases h
 | .own o::r,sl',k,i,h=>by
  rw[W7] at h;split at h
  ·rename_i a o' e
   split at h
   ·rename_i ea
    cases q:W7 A (k+1) r ρ with
    | ok s =>
     rw[q] at h;cases h;cases i with
     | zero=>simp;subst ea;exact e
     | succ i =>
      have:=Fa (i:=i) q
      simpa[show k+1+i=k+(i+1) by lia] using this
    | err x=>rw[q] at h;cases h
    | bad=>rw[q] at h;cases h
   ·cases h
  ·cases h
def GU{x:V} (h:vs[i]?=some x):(start N vs)[i]?=some (some x):=by
 unfold L2.start;rw[Lp (by have:=(x0.mp h).1;simpa using this),w6,h];rfl
def GT{A:Nat->Addr}{s:Sl} (h:(Xr A 0 sl++List.replicate n none)[i]?=some (some s)):(∃d,sl[i]?=some (.val d)/\s=.val d)\/∃o,sl[i]?=some (.own o)/\s=.own (.p (A i) o):=by
 rw[Ls] at h;split at h
 ·rw [EO,Nat.zero_add] at h
  cases q:sl[i]? with
  | none=>rw[q] at h;cases h
  | some u =>
   rw[q] at h;cases u with
   | val d=>cases h;exact .inl ⟨d,rfl,rfl⟩
   | own o=>cases h;exact .inr ⟨o,rfl,rfl⟩
 ·rw [t8] at h
  split at h<;>cases h
def Rel.begin{F hb:Hp}{A:Nat->Addr} (R:Rel K (F,hb) (sl.map some) (vs.map some) F H) (hA:∀(i:Nat) a,vs[i]?=some (.ref a)->A i=a):Rel K (F,hb) (Xr A 0 sl++List.replicate (N.length - sl.length) none) (start N vs) F H where
 st:=R.st
 len:=by
  have:=R.len
  simp only[v0] at this;unfold L2.start;simp[EN,this]
 val i d e:=by
  rcases GT e with⟨d',h1,h2⟩|⟨o,h1,h2⟩
  ·cases h2
   obtain⟨v,p1,p2⟩:=R.val i d (map_some.mpr h1);exact⟨v,GU (map_some.mp p1),p2⟩
  ·cases h2
 own i o e:=by
  rcases GT e with⟨d',h1,h2⟩|⟨o',h1,h2⟩
  ·cases h2
  ·cases h2
   obtain⟨a,h,p1,p2,p3,p4,p5⟩:=R.own i o' (map_some.mpr h1)
   have:=hA i a (map_some.mp p1)
   subst this;exact⟨_,h,GU (map_some.mp p1),p2,p3,p4,.p p5⟩
 dis i j o u a e e' q q':=by
  rcases GT e with⟨d',h1,h2⟩|⟨o1,h1,h2⟩
  ·cases h2
  ·rcases GT e' with ⟨d',h1',h2'⟩ | ⟨o2,h1',h2'⟩
   ·cases h2'
   ·obtain ⟨a1,_,p1,_⟩:=R.own i o1 (map_some.mpr h1)
    obtain⟨a2,_,p2,_⟩:=R.own j o2 (map_some.mpr h1');have g1:=GU (N:=N) (map_some.mp p1);have g2:=GU (N:=N) (map_some.mp p2);rw[q] at g1;rw[q'] at g2;cases g1;cases g2;exact R.dis i j o1 o2 a (map_some.mpr h1) (map_some.mpr h1') p1 p2
theorem Mv.leave{F hb:Hp}{A:Nat->Addr} (R:Rel K (F,hb) (sl.map some) (vs.map some) F H) (hb1:∀b o,NotOwn (sl.map some) (vs.map some) b->H b=some o->hb b=some o) (hA:∀(i:Nat) a,vs[i]?=some (.ref a)->A i=a)
  (h:W7 A 0 sl ρ=.ok sl') (R':Rel K (F,hb) ρ σ F' H'):Mv K (F,hb) (sl.map some) (vs.map some) F H (sl'.map some) F' H':=by
 have hg:=λi=>Fa (i:=i) h
 have own1:∀{i:Nat}{o':OD},sl'[i]?=some (.own o')->∃o a,sl[i]?=some (.own o)/\vs[i]?=some (.ref a)/\ρ[i]?=some (some (.own (.p a o'))):=λ{i o'} e=>by
  have:=hg i
  cases q:sl[i]? with
  | none=>rw[q] at this;rw[e] at this;cases this
  | some u =>
   rw[q] at this;cases u with
   | val d=>rw[e] at this;cases this
   | own o =>
    obtain⟨o2,h1,h2⟩:=this;rw[e] at h1;cases h1;rw[Nat.zero_add] at h2;obtain⟨a,_,p1,_⟩:=R.own i o (map_some.mpr q);exact⟨o,a,rfl,map_some.mp p1,by rw[hA i a (map_some.mp p1)] at h2;exact h2⟩
 have ro:∀{i:Nat}{o':OD},sl'[i]?=some (.own o')->∃a h,vs[i]?=some (.ref a)/\F' a=none/\hb a=none/\H' a=some h/\Ro K F' a h o':=λ{i o'} e=>by
  obtain⟨o,a,q1,q2,q3⟩:=own1 e;obtain⟨a',h',p1,p2,p3,p4,p5⟩:=R'.own i _ q3;cases p5 with
  | p p5=>exact⟨a,h',q2,p2,p3,p4,p5⟩
 have ln:sl'.length=sl.length:=by
  refine Nat.le_antisymm (Nat.not_lt.mp λz=>?_) (Nat.not_lt.mp λz=>?_)
  ·have:=hg sl.length
   rw[HV (w4 _)] at this;rw[List.getElem?_eq_none_iff] at this;lia
  ·have:=hg sl'.length
   rw[y9 z] at this;cases q:sl[sl'.length] with
   | val d=>rw[q] at this;simp at this
   | own o=>rw[q] at this;simp at this
 refine⟨⟨R'.st,by have:=R.len;simp only[v0] at this |-;rw[this,ln],λi d e=>?_,λi o e=>?_,λi j o u a e e' q q'=>?_⟩,?_,R'.st.ff,λb o n e=>R'.st.hh b o (hb1 b o n e),λb n e=>?_⟩
 ·have e:=map_some.mp e
  have:=hg i
  cases q:sl[i]? with
  | none=>rw[q,e] at this;cases this
  | some u =>
   rw[q] at this;cases u with
   | val d' =>
    rw[e] at this;cases this;obtain⟨v,p1,p2⟩:=R.val i d (map_some.mpr q);exact⟨v,p1,p2.same R'.st.ff⟩
   | own o=>obtain⟨o2,h1,_⟩:=this;rw[e] at h1;cases h1
 ·obtain ⟨a,h,p1,p2⟩:=ro (map_some.mp e)
  exact⟨a,h,map_some.mpr p1,p2⟩
 ·obtain ⟨o1,_,h1,_⟩:=own1 (map_some.mp e)
  obtain⟨o2,_,h2,_⟩:=own1 (map_some.mp e');exact R.dis i j o1 o2 a (map_some.mpr h1) (map_some.mpr h2) q q'
 ·apply Xb
  intro i;rw[OK,OK,w6,w6]
  have:=hg i
  cases q:sl[i]? with
  | none=>rw[q] at this;rw[this]
  | some u =>
   rw[q] at this;cases u with
   | val d=>rw[this]
   | own o=>obtain⟨o2,h1,_⟩:=this;rw[h1];rfl
 ·by_cases z:NotOwn (sl.map some) (vs.map some) b
  ·cases w:H b with
   | none=>exact absurd w e
   | some o=>exact R'.st.no b n (by rw[show(F,hb).2 b=some o from hb1 b o z w];simp)
  ·unfold NotOwn at z
   simp only[Classical.not_forall] at z;obtain⟨i,o,e1,e2⟩:=z;have e2:=Classical.not_not.mp e2
   have:=hg i
   rw[map_some.mp e1] at this;obtain⟨o2,h1,_⟩:=this;obtain⟨a,h,p1,p2,_⟩:=ro h1;rw[map_some.mp e2] at p1;cases p1;exact p2
set_option tactic.hygienic true in
def Fun.okM{t:Rho->XN} (F:Fun K x qual st f fd) (S:FnScope N ps (ZX st))
  (Xm:∀(Zm:Value) (A:Around) (outer:List Env) (s:Shared) (H:Hp) (E:XK),Room k (A.deeper (envOfC qual (ZX st) s.heap.objs.size f Zm))->OW (VC Z0 P w K mg base N qual (ZX st) f Zm A outer s H E).nox (Z3 st) t) :
  FnOk P w K mg base Z0 (k+1) f fd ps (Uv K (gM N.length ps.length t)):=by
 have ex:∀{sl:List Sl}{Q:D×List Sl->Prop},(gM N.length ps.length t sl).all Q (λ_=>False)->∃r,(∀A,UR N.length ps.length t A sl=.ok r)/\Q r:=λ{sl Q} q=>by
  unfold gM at q;split at q
  ·rename_i h;exact⟨_,h.choose_spec,q⟩
  ·exact q.elim
 refine F.ok S (λvs H Q E ⟨G,hb,sl,R,h1,q⟩=>?_) λZm A outer s H vs Q E hr ⟨G,hb,sl,R,h1,q⟩=>?_
 ·obtain ⟨r,hr,_⟩:=ex q
  have:=hr λ_=>0
  unfold UR at this;split at this
  ·have l:=R.len
   simp only[v0] at l;rw[l];assumption
  ·cases this
 ·obtain ⟨r,hr',q⟩:=ex q
  let A0:Nat->Addr:=λi=>match vs[i]? with
   | some (.ref a)=>a
   | _=>0
  have hA:∀(i:Nat) a,vs[i]?=some (.ref a)->A0 i=a:=λi a e=>by
   show(match vs[i]? with|some (.ref a)=>a|_=>0)=a
   rw[e]
  have hz:=hr' A0;refine⟨_,(Xm Zm A outer s H E hr).out,(G,hb),G,_,R.begin hA,⟨?_⟩⟩;unfold UR at hz;split at hz
  ·generalize t (Xr A0 0 sl++List.replicate (N.length - sl.length) none)=o at hz
   cases o with
   | bad=>cases hz
   | rm d ρ =>
    dsimp only at hz;cases hu:W7 A0 0 sl ρ with
    | bad=>rw[hu] at hz;cases hz
    | err x=>rw[hu] at hz;cases hz
    | ok sl' =>
     rw[hu] at hz;cases hz;exact λv σ F' H' R' pv=>q v F' H' (Mv.leave R h1 hA hu R') pv
  ·cases hz
noncomputable def TL (ρ:Rho) (i:Nat):Res (Addr×List D):=match ρ[i]? with
 | some (some (.own (.p a (.l ds))))=>.ok (a,ds)
 | _=>.bad
set_option tactic.hygienic true in
def Pu{P:Addr×List D->Prop}{E:D->Prop} (h:(TL ρ i).all P E):∃a ds,ρ[i]?=some (some (.own (.p a (.l ds))))/\P (a,ds):=by
 unfold TL at h;split at h
 ·rename_i a d e;exact⟨a,d,e,h⟩
 ·exact h.elim
section
variable {i:Expr}
noncomputable def TV (ρ:Rho) (j:Nat) (a:Addr) (ds:List D) (d:D):D->Out
 | .int k=>match T7 ds.length k with
  | some n=>.nx (ρ.set j (some (.own (.p a (.l (ds.set n d))))))
  | none=>.bad
 | _=>.bad
def ED(j:Nat) (hi:DE X xq i fi) (hv:DE X xq value fv) (hN:autoParam (X.N[j]?=some x) aa._auto_1) (hvs:autoParam (Ut X.env.scope x) ae._auto_1) (hd:autoParam ((x==("__debug__":Str))=false) ac._auto_1) (Xa:autoParam ((x==("__classdict__":Str))=false) ac._auto_1)
  (hs:autoParam (swapsWithSole [.Subscript (.Name x p) i pos'] value pos.line X.env=pure false) aa._auto_1) (hw:autoParam (swappedStores [.Subscript (.Name x p) i pos'] value X.env=pure none) aa._auto_1)
  (ha:autoParam (∀ v,assign (.Subscript (.Name x p) i pos') X.env v=(do
   let ov <- holding [v] (eval (.Name x p) X.env)
   let iv <- holding [v,ov] (eval i X.env)
   standAt pos'
   holding [v,ov,iv] (setItem ov iv v)
   release [v,ov,iv] [])) af._auto_1)
  (h1:autoParam ((assignEach [.Subscript (.Name x p) i pos'] X.env).map (·.2)=[assign (.Subscript (.Name x p) i pos') X.env]) aa._auto_1) :
  DS X xq (.Assign [.Subscript (.Name x p) i pos'] value pos) (λρ=>(fv (frz ρ)).go ρ λd=>(TL ρ j).go ρ λds=>(fi ρ).go ρ λk=>if WQ d=true then TV ρ j ds.1 ds.2 d k else .bad) :=
 DS.of (MZ hv.out (MR (U2 hN hvs hd Xa) hi.out wE ha) hs hw h1) λB F ρ σ H T R q=>by
  obtain⟨F0,ef,R0⟩:=R.frz;refine⟨B,F0,frz ρ,R0,Res.all_mono (Wy q.out) (λd q1 v F1 H1 st pv=>?_) λ_ z=>(XG z).frz⟩
  have R1:=R.step (Stp.only R.fh st.hh);obtain⟨ap,ds,eo,q2⟩:=Pu (Wy q1);obtain⟨a,h,g1,g2,g3,g4,g5⟩:=R1.own j _ eo;refine⟨.ref a,g1,B,F,ρ,R1,Res.all_mono (Wy q2) (λk q3 y F3 H3 st3 py=>?_) λ_ z=>XG z⟩
  have R3:=R1.step st3;obtain⟨a',h',k1,k2,k3,k4,k5⟩:=R3.own j _ eo;rw[g1] at k1;cases k1;by_cases hf:WQ d=true
  ·have q4:(if WQ d=true then TV ρ j ap ds d k else Out.bad).all _ _ _ _ _:=q3
   rw[if_pos hf] at q4;cases k5 with
   | p k5 =>
   cases k5 with
   | l hr =>
    cases py with
    | int n =>
     unfold TV at q4;dsimp only at q4;cases e:T7 ds.length n with
     | none=>rw[e] at q4;exact q4.elim
     | some m =>
      rw[e] at q4;exact⟨_,_,n,m,rfl,rfl,k4,by rw[hr.length];exact e,q4 σ F3 _ (R3.write (e:=eo) g1 (.p (.l (AR m hr (pv.flat hf)))))⟩
    | _=>exact q4.elim
  ·have q4:(if WQ d=true then TV ρ j ap ds d k else Out.bad).all _ _ _ _ _:=q3
   rw[if_neg hf] at q4;exact q4.elim
end
noncomputable def YR (fT:Rho->Res Bool) (tb:Rho->Out):Nat->Rho->Out
 | 0,_=>.bad
 | n+1,ρ=>(fT (frz ρ)).go ρ λb=>if b=true then (match tb ρ with
  | .nx ρ2=>YR fT tb n ρ2
  | .ct ρ2=>YR fT tb n ρ2
  | .bk ρ2=>.nx ρ2
  | o=>o) else .nx ρ
def VZ:Out->Prop
 | .bad=>False
 | _=>True
open Classical in
noncomputable def wD (fT:Rho->Res Bool) (tb:Rho->Out) (ρ:Rho):Out:=if h:∃n,VZ (YR fT tb n ρ) then YR fT tb h.choose ρ else .bad
theorem GO:∀{n:Nat}{ρ:Rho},VZ (YR fT tb n ρ)->∀{m:Nat},n<=m->YR fT tb m ρ=YR fT tb n ρ
 | 0,ρ,h,m,_=>h.elim
 | n+1,ρ,h,0,hm=>absurd hm (by lia)
 | n+1,ρ,h,m+1,hm=>by
  rw[YR] at h;rw[YR,YR];cases e:fT (frz ρ) with
  | bad=>rfl
  | err x=>rfl
  | ok b =>
   rw[e] at h;cases b with
   | false=>rfl
   | true =>
    simp only[go_ok,if_true] at h |-
    cases q:tb ρ with
    | nx ρ2=>rw[q] at h;exact GO h (by lia)
    | ct ρ2=>rw[q] at h;exact GO h (by lia)
    | _=>rfl
def Ks{o:Out} (e:YR fT tb n ρ=o) (h:VZ o):wD fT tb ρ=o:=by
 have ex:∃n,VZ (YR fT tb n ρ):=⟨n,by rw[e];exact h⟩
 unfold wD;rw[dif_pos ex];have h1:=ex.choose_spec;rcases Nat.le_total ex.choose n with c|c
 ·rw[<- GO h1 c,e]
 ·rw[GO (by rw[e];exact h:VZ (YR fT tb n ρ)) c,e]
def EC (hc:DT X xq c fT) (hb:DB X xq body tb) (hp:autoParam (PassesOwn (model X.prog X.w) X.A X.env X.xe) ao._auto_1):DS X xq (.While c body [] pos) (wD fT tb) :=
 DS.of (xG hp hc.out hb.out) λB F ρ σ H T R q=>by
  obtain⟨n,q⟩:∃n,OkS X.K xq B T (YR fT tb n ρ):=by
   unfold wD at q;split at q
   ·exact⟨_,q⟩
   ·exact q.out.elim
  refine⟨λm σ' H'=>∃ρ' F',Rel X.K B ρ' σ' F' H'/\OkS X.K xq B T (YR fT tb m ρ'),⟨n,ρ,F,R,q⟩,?_⟩
  rintro m σ1 H1 ⟨ρ1,F1,R1,q1⟩;cases m with
  | zero=>exact q1.out.elim
  | succ m =>
   have q1:=q1.out;rw[YR] at q1;refine⟨B,F1,ρ1,R1,Res.all_mono (Wy q1) (λb q2 H2 s2=>?_) λ_ z=>XG z⟩
   have R2:=R1.step s2;cases b with
   | false=>exact q2 σ1 F1 H2 R2
   | true =>
    rw[if_pos rfl] at q2;show ∃N:St->Hp->Prop,_/\_;refine⟨λσ' H'=>∃ρ' F',Rel X.K B ρ' σ' F' H'/\OkS X.K xq B T (YR fT tb m ρ'),λσ' H' p=>⟨m,YJ m,p⟩,B,F1,ρ1,R2,⟨?_⟩⟩
    generalize tb ρ1=o at q2;cases o with
    | nx ρ2=>exact λσ4 F4 H4 R4=>⟨ρ2,F4,R4,⟨q2⟩⟩
    | ct ρ2=>exact λσ4 F4 H4 R4=>⟨ρ2,F4,R4,⟨q2⟩⟩
    | bk ρ2=>exact q2
    | rt d=>exact q2
    | er x r=>exact q2
    | bad=>exact q2
noncomputable def RW (ρ:Rho) (i:Nat):Res ((List D->OD)×List D):=match ρ[i]? with
 | some (some (.own (.l ds)))=>.ok (OD.l,ds)
 | some (some (.own (.p a (.l ds))))=>.ok (λes=>.p a (.l es),ds)
 | _=>.bad
set_option tactic.hygienic true in
def Pw{F:Hp}{P:(List D->OD)×List D->Prop}{E:D->Prop} (R:Rel K B ρ σ F H) (h:(RW ρ i).all P E) :
  ∃o a xs ds mk,ρ[i]?=some (some (.own o))/\σ[i]?=some (some (.ref a))/\H a=some (.lst xs)/\Rps K F xs ds/\(∀ys es F',Rps K F' ys es->Ro K F' a (.lst ys) (mk es))/\P (mk,ds):=by
 unfold RW at h;split at h
 ·rename_i ds e
  obtain⟨a,h',p1,p2,p3,p4,p5⟩:=R.own i _ e;cases p5 with
  | l r=>exact⟨_,a,_,ds,_,e,p1,p4,r,λys es F' q=>.l q,h⟩
 ·rename_i a0 ds e
  obtain⟨a,h',p1,p2,p3,p4,p5⟩:=R.own i _ e;cases p5 with
  | p p5 =>
   cases p5 with
   | l r=>exact⟨_,_,_,ds,_,e,p1,p4,r,λys es F' q=>.p (.l q),h⟩
 ·exact h.elim
theorem Mv.write{F:Hp}{h':HO}{o':OD} (R:Rel K B ρ σ F H) (e:ρ[i]?=some (some (.own o))) (hs:σ[i]?=some (some (.ref a))) (h4:Ro K F a h' o') :
  Mv K B ρ σ F H (ρ.set i (some (.own o'))) F (Zd H a h'):=by
 refine⟨R.write e hs h4,?_,Same.refl F,λb u n q=>?_,λb n _=>n⟩
 ·apply Xb
  intro j;rw[OK,OK];by_cases c:j=i
  ·subst c;rw[Li (x0.mp e).1,e];rfl
  ·rw[Va c]
 ·rw[Xd (λz=>by subst z;exact n i o e hs)];exact q
def ug{F:Hp}{xs:List V} (r:Rps K F xs ds) (h:ds.getLast?=some d):∃y,xs[xs.length - 1]?=some y/\Rp K F y d:=by
 rw[List.getLast?_eq_getElem?] at h;rw[r.length];exact r.get h
def tS{F:Hp}{xs:List V} (r:Rps K F xs ds):Rps K F xs.dropLast ds.dropLast:=by
 rw[List.dropLast_eq_take,List.dropLast_eq_take,r.length];exact r.take _
noncomputable def Sm (ρ:Rho) (i:Nat) (w:(List D->OD)×List D):Res (D×Rho):=match w.2.getLast? with
 | some d=>.ok (d,ρ.set i (some (.own (w.1 w.2.dropLast))))
 | none=>.bad
section
set_option tactic.hygienic true in
def HI (i:Nat) (hN:autoParam (X.N[i]?=some x) aa._auto_1) (hv:autoParam (Ut X.env.scope x) ae._auto_1) (hd:autoParam ((x==("__debug__":Str))=false) ac._auto_1) (Xa:autoParam ((x==("__classdict__":Str))=false) ac._auto_1)
  (Xl:autoParam (attributeBase (.Name x p) "pop" X.env (eval (.Name x p) X.env)=eval (.Name x p) X.env) aa._auto_1) (Xn:autoParam ((Yw.endLine==XS.line)=true) aa._auto_1) :
  DX X (.Call (.Attribute (.Name x p) "pop" Yw) [] [] XS) (λρ=>(RW ρ i).bind (Sm ρ i)) :=
 DX.of (Bt Yk PySem.F.slot_list_pop PySem.F.type_list_pop Mx (U2 hN hv hd Xa) Xl Xn) λB F ρ σ H Q R q=>by
  obtain⟨o,a,xs,ds,mk,e1,e2,e3,r,hmk,q1⟩:=Pw R (Res.all_bind.mp q);unfold Sm at q1;dsimp only at q1;split at q1
  ·rename_i d hl
   obtain⟨y,hy,py⟩:=ug r hl;exact⟨.ref a,e2,.inl ⟨rfl,_,.inl (.inl e3)⟩,a,xs,y,rfl,rfl,e3,hy,q1 y F _ (Mv.write R e1 e2 (hmk _ _ F (tS r))) py⟩
  ·exact q1.elim
end
noncomputable def TJ (Cs:List Addr) (f:Str):D->Res D
 | .ins C gs=>if C∈Cs then (match gs.lookup f with|some d=>.ok d|none=>.bad) else .bad
 | _=>.bad
section
variable {o:Expr}{f:Str}{Cs:List Addr}
def W4(c:∀C∈Cs,Cls K C/\NoAttr K C f) (ho:DE X xq o fo) (eK:autoParam (X.K=K) aa._auto_1) (hb:autoParam (attributeBase o f X.env (eval o X.env)=eval o X.env) aa._auto_1):DE X xq (.Attribute o f pos) (λρ=>(fo ρ).bind (TJ Cs f)):=by
 subst eK;refine DE.of (FF ho.out hb) λB F ρ σ H Q R q=>Yd R q λd v F1 H1 s1 R1 p1 q1=>?_
 cases p1 with
 | @ins a C dx gs0 gs h1 h2 =>
  unfold TJ at q1;dsimp only at q1;by_cases hc:C∈Cs
  ·rw [if_pos hc] at q1
   cases hl:gs.lookup f with
   | none=>rw[hl] at q1;exact q1.elim
   | some d =>
    rw[hl] at q1;obtain⟨v,hv,pv⟩:=h2.lookup hl;exact⟨a,C,dx,gs0,v,rfl,R1.fh _ _ h1,(c C hc).1,(c C hc).2,hv,q1 v F1 H1 s1 pv⟩
  ·rw[if_neg hc] at q1;exact q1.elim
 | _=>exact q1.elim
noncomputable def Tj (Cs:List Addr) (m:Str) (x:D):Res (Addr×D):=match x with
 | .ins C gs=>if C∈Cs/\gs.lookup m=none then .ok (C,x) else .bad
 | _=>.bad
def By{F:Hp}{P:Addr×D->Prop}{E:D->Prop} (p:Rp K F v d) (h:(Tj Cs m d).all P E):∃C a dx fs,C∈Cs/\v=.ref a/\F a=some (.ins C dx fs)/\fs.lookup m=none/\P (C,d):=by
 cases p with
 | @ins a C dx fs gs h1 h2 =>
  unfold Tj at h;dsimp only at h;by_cases hc:C∈Cs/\gs.lookup m=none
  ·rw [if_pos hc] at h
   exact⟨C,a,dx,fs,hc.1,rfl,h1,E8 h2 hc.2,h⟩
  ·rw[if_neg hc] at h;exact h.elim
 | _=>exact h.elim
end
def QX{t:String} (h:UU d=some t):t∈["NoneType","bool","int","str","list","tuple","dict"]:=by
 cases d<;>simp only[UU,Option.some.injEq,reduceCtorEq] at h<;>subst h<;>decide
structure Ig (K:W.Frag) (C:Addr):Prop where
 cl:Cls K C
 ha:W.findIn K (.ref C) "__class__"=some (some (.builtin "object.__class__"))
 hn:W.specialIn K (.builtin "object.__class__") "__get__"=some (some (.builtin "getset_descriptor.__get__"))
 ht:W.takesIn K (.builtin "object.__class__")=some true
 hm:W.mroIn K C (.type "object")=some true
structure OX (K:W.Frag) (C:Addr) (ti tx:List (Addr×Bool)):Prop where
 i:∀p∈ti,Ig K p.1/\W.kitOne K (.ref p.1) (.ref C)=some p.2
 x:∀p∈tx,(∃f,C9 K p.1 f)/\W.kitOne K (.ref p.1) (.ref C)=some p.2
 b:∀T∈["NoneType","bool","int","str","list","tuple","dict"],W.kitOne K (.type T) (.ref C)=some false
noncomputable def WS (t:List (Addr×Bool)) (C:Addr):Res D:=match t.lookup C with
 | some b=>.ok (.bl b)
 | none=>.bad
noncomputable def U6 (ti tx:List (Addr×Bool)) (d:D):Res D:=match d with
 | .ins C _=>WS ti C
 | .exc _ _=>.bad
 | d=>match UU d with
  | some _=>.ok (.bl false)
  | none=>.bad
def uB{t:List (Addr×Bool)} (h:t.lookup C=some b):(C,b)∈t:=by
 induction t with
 | nil=>cases h
 | cons p r ih =>
  obtain⟨k,v⟩:=p;rw[u5] at h;by_cases q:(C==k)=true
  ·rw [q] at h
   cases h;rw[beq_iff_eq.mp q];exact z6
  ·rw [Bool.eq_false_iff.mpr q] at h
   exact z5 _ (ih h)
def CJ (K:W.Frag) (C:Addr) (ti tx:List (Addr×Bool)):List V->Hp->VK->Prop:=λxs H Q=>∃v F d b,xs=[v,.ref C]/\Same F H/\Rp K F v d/\U6 ti tx d=.ok (.bl b)/\Q (.bl b) H
section
variable {c:Str}{pc:Pos}{ti tx:List (Addr×Bool)}
def Mf{y:D} (h:U6 ti tx d=.ok y):∃b,y=.bl b:=by
 unfold U6 WS at h;split at h
 ·split at h<;>cases h;exact⟨_,rfl⟩
 ·cases h
 ·split at h<;>cases h;exact⟨_,rfl⟩
def PJ{y:D}:U6 ti tx d≠.err y:=by
 intro h;unfold U6 WS at h;split at h
 ·split at h<;>cases h
 ·cases h
 ·split at h<;>cases h
def wZ{t:List (Addr×Bool)} (h:WS t C=.ok (.bl b)):(C,b)∈t:=by
 unfold WS at h;cases q:t.lookup C with
 | none=>rw[q] at h;cases h
 | some b'=>rw[q] at h;cases h;exact uB q
set_option tactic.hygienic true in
def IB (h:OX X.K C ti tx):YG X (.builtin "isinstance") (CJ X.K C ti tx):=by
 intro ZY s σ H xs us Q I r z9120;obtain⟨v,F,d,b,exs,fh,pv,hd,q⟩:=z9120;subst exs;obtain⟨u,u',rfl,ru,ru'⟩:=vals2 r;cases (show u'=Value.ref C from ru')
 have Xe:∀tk,∃v H',Inv X ZY σ H' { s with toks:=tk }/\RelV v (.bool b)/\Q v H':=λtk=>⟨.bl b,H,I.tok _,rfl,q⟩
 cases ht:UU d with
 | some t =>
  obtain⟨Hh,Z,hh,ne⟩:=Bv I ru fh pv ht;have eb:b=false:=by
   cases d<;>simp only[UU,reduceCtorEq] at ht<;>(unfold U6 at hd;simp only[UU] at hd;cases hd;rfl)
  subst eb;exact Y8 Z I.kIn hh (h.b t (QX ht)) ne λtk=>Xe tk
 | none =>
  cases pv with
  | @ins a C' dx fs gs h1 h2 =>
   cases (show u=Value.ref a from ru)
   obtain⟨K1,e⟩:=h.i _ (wZ (show WS ti C'=.ok (.bl b) from hd))
   exact OG I (show RelV (.ref a) (.ref a) from rfl) (.ins (fh _ _ h1) K1.cl K1.ha K1.hn K1.ht K1.hm) e Xe
  | exc _ _ _=>simp only[U6,UU] at hd;cases hd
  | ty T=>simp only[U6,UU] at hd;cases hd
  | dn _ _=>simp only[U6,UU] at hd;cases hd
  | hdl _=>simp only[U6,UU] at hd;cases hd
  | _=>cases ht
def NC(h:OX K C ti tx) (hC:mg c=some (.ref C)) (hm:mg x=none) (hv:bootBuiltins x=some (.builtin "isinstance")) (ha:DE X xq e fe) (eK:autoParam (X.K=K) aa._auto_1) (em:autoParam (X.mg=mg) aa._auto_1) (hs:autoParam (Zk e=true) aa._auto_1) (hg:autoParam (Gl X x) aa._auto_1) (hgc:autoParam (Gl X c) aa._auto_1)
  (hn:autoParam (x≠"__name__") ac._auto_1) (WJ:autoParam ((x==("__debug__":Str))=false) ac._auto_1) (hdc:autoParam ((c==("__debug__":Str))=false) ac._auto_1) :
  DE X xq (.Call (.Name x p) [e,.Name c pc] [] pos) (λρ=>(fe ρ).bind (U6 ti tx)):=by
 subst eK em;refine DE.of (CG (IB h) hg hm hv (Ta ha.out (Ta (B8 hgc hC (show RelV (.ref C) (.ref C) from rfl) hdc) R8) hs) hn WJ (by simp only[t9,hs];rfl)) λB F ρ σ H Q R q=>Yd R q λd v F1 H1 s1 R1 p1 q1=>?_
 cases hd:U6 ti tx d with
 | bad=>rw[hd] at q1;exact q1.elim
 | err y=>exact absurd hd PJ
 | ok y =>
  rw[hd] at q1;obtain⟨b,rfl⟩:=Mf hd;exact⟨v,F1,d,b,rfl,R1.fh,p1,hd,q1 _ _ _ s1 (.bl b)⟩
end
noncomputable def X7:List D->Option (List Int)
 | []=>some []
 | .int i::r=>(X7 r).map (i::·)
 | _=>none
noncomputable def Pq:List D->Res D
 | [.lst ds]=>match X7 ds with
  | some is=>.ok (.int is.sum)
  | none=>.bad
 | _=>.bad
section
variable {F:Hp}
set_option tactic.hygienic true in
theorem E9:∀{ds:List D}{is:List Int}{xs:List V}{us:List Value},X7 ds=some is->Rps K F xs ds->Vals xs us->us.length=is.length/\∀(i:Nat) (v:Value),us[i]?=some v->∃t,v=Value.int (is.getD i 0) t
 | [],_,_,_,e,p,r=>by cases e;cases p;cases r;exact⟨rfl,λi v h=>by simp at h⟩
 | d::ds,is,_,_,e,p,r=>by
  cases d<;>simp only[X7,reduceCtorEq] at e
  rename_i n;cases q:X7 ds with
  | none=>rw[q] at e;cases e
  | some is' =>
   rw[q] at e;cases e;cases p with
   | cons p1 p2 =>
    cases p1;cases r with
    | cons r1 r2 =>
     obtain⟨t,rfl⟩:=r1;obtain⟨l1,l2⟩:=E9 q p2 r2;refine⟨by simp[l1],λi v h=>?_⟩
     cases i with
     | zero=>simp only[List.getElem?_cons_zero,Option.some.injEq] at h;exact⟨t,by rw[<- h];rfl⟩
     | succ i=>rw[FR] at h;obtain⟨t,ht⟩:=l2 i v h;exact⟨t,by rw[ht];rfl⟩
theorem zE (is:List Int):∀n,n<=is.length->preSum (λi=>is.getD i 0) n=(is.take n).sum
 | 0,_=>by simp[preSum]
 | n+1,h=>by
  rw[preSum,zE is n (by lia),List.take_add_one,List.sum_append]
  congr 1;rw[List.getD_eq_getElem?_getD,y9 (by lia)]
  simp
set_option tactic.hygienic true in
def IE (hc:X.calm=true):YG X (.builtin "sum") (So X.K Pq):=by
 intro ZY s σ H xs us Q I r z9121;obtain⟨F,ds,fh,ps,q⟩:=z9121;unfold Pq at q;split at q
 ·rename_i ds
  obtain⟨v,rfl,pv⟩:=Wm ps;cases pv with
  | @lst l zs _ hq hs =>
   cases hb:X7 ds with
   | none=>simp only[hb] at q;exact q.elim
   | some is =>
    simp only[hb] at q;obtain⟨u,rfl,ru⟩:=vals1 r;cases (show u=Value.ref l from ru)
    obtain⟨z,ZO,n,rv,hl,e⟩:=I.lstR (hq.same fh);obtain⟨l1,l2⟩:=E9 hb hs rv;have hL:s.heap.IsList l ZO.toArray:=⟨_,e,rfl,n,rfl⟩;have WA:l<s.heap.objs.size:=z8 e;refine call_sum_walkAnyS (XE hL ⟨_,_,_,_,_,_,_,λi=>is.getD i 0,rfl,(Walks.list (A:=X.A.in1) (I.ok.hd hc) s.heap.objs.size l (v6 WA) ZO.toArray).toS,⟨⟨_,z7 _ rfl,rfl,rfl⟩,hL.push _⟩,λb hb=>?_,λi v h=>l2 i v (by simpa using h),λs' t' m=>?_⟩)
    ·show b<(s.heap.push _).objs.size
     rw[ZJ];rcases y0.mp hb with rfl|hb
     ·exact YJ _
     ·rcases y0.mp hb with rfl | hb
      ·exact Yy WA
      ·cases hb
    ·obtain ⟨h',g',d',tk',os'⟩:=s'
     obtain⟨m1,m2,m3,m4,m5⟩:=m;cases m2;cases m3;cases m4;have I2:Inv X ZY σ H { s with heap:=h',toks:=tk' }:=I.kept λb o eb=>m1 b o (λhm=>by
      rcases y0.mp hm with e1|hm
      ·exact absurd (e1 ▸ z8 eb) (t6 _)
      ·cases hm) (z0 _ eb)
     refine⟨.int is.sum,H,I2,⟨t',?_⟩,q _ F H (Stp.refl fh) (.int _)⟩;rw[zE is _ (by simp[l1])]
     simp[l1]
 ·exact q.elim
end
def PV (a v:Value):argsOk "max" ⟨[a],[(Str.ofString "default",v)]⟩:=by unfold argsOk;kernel_rfl
section
variable {R:Result->Shared->Prop}{fp wr:List Addr}{P:Nat->Value->Prop}{St:Nat->Heap->Prop}{kw:List (Str×Value)}
theorem PY (W:Walks prog w A.in1 I fp wr n P St) (bt:Nat->Nat->Bool) (hcmp:CmpOf prog w A.in1 .Gt P bt) (S:Addr) (hSf:S∉fp) :
  ∀(k j:Nat) (s:Shared) (vb:Value) (c:Nat),n - (j+1)=k->j+1<=n->St (j+1) s.heap->P (argBest bt j) vb ->
  s.heap.get? S=some { cls:=.type "list",dict:=none,data:=.seq #[vb,vb] c,slots:=#[] } ->
  (∀v h' tk,P (argBest bt (n - 1)) v->(∀b o,b∉wr->b≠S->s.heap.get? b=some o->h'.get? b=some o)->R (.ok (.ret v)) { s with heap:=h',toks:=tk }) ->
  codeAny (model prog w) A (.builtin "max.loop" ⟨[.ref I,.none,.ref S],kw⟩) R s:=by
 have hSw:S∉wr:=λh=>hSf (W.sub _ h)
 have hname:(toString "max"++toString ".loop":String)="max.loop":=by decide
 intro k;induction k with
 | zero =>
  intro j s vb c hk hj WY hPb hS hR;have hin:j+1=n:=by lia
  refine Za F.entry_max_loop ?_;rw[Zv Y7 _];show wpAny _ A.in1 (seqItems? (.ref S) >>= _) _ _ s;refine ZZ (ZB hS rfl ?_);show wpAny _ A.in1 (tryCatch (pyNext (.ref I)) _ >>= _) _ _ s;refine ZZ (VJ (W.done s _ _ (hin ▸ WY) λh' tk hk'=>?_))
  have hS':=hk' S _ hSw hS;show wpAny _ A.in1 (updateSeq S (λ_=>#[]) >>= _) _ _ _
  refine ZZ ?_;refine Zi hS' rfl (ZZ (Xv (wpAny_pure ?_)));refine hR vb _ tk (by rw[<- hin];exact hPb) λb o hbw hbS e=>(v9 _ _ (YN hbS)).trans (hk' b o hbw e)
 | succ k ih =>
  intro j s vb c hk hj WY hPb hS hR;have WA:j+1<n:=by lia
  refine Za F.entry_max_loop ?_;rw[Zv Y7 _];show wpAny _ A.in1 (seqItems? (.ref S) >>= _) _ _ s;refine ZZ (ZB hS rfl ?_);show wpAny _ A.in1 (tryCatch (pyNext (.ref I)) _ >>= _) _ _ s;refine ZZ (VJ (W.item (j+1) s _ _ WA WY λv h' tk hP hst' hk'=>?_))
  have hS':=hk' S _ hSw hS;show wpAny _ A.in1 (tryCatch (holding [v,v] (richCompare .Gt v vb >>= _)) _ >>= _) _ _ _;refine ZZ (VJ (Zx (ZZ (hcmp (j+1) (argBest bt j) v vb _ _ _ hP hPb ?_))));refine ZZ (Zx (Ze ?_));refine ZZ (Xv (wpAny_pure ?_));cases hb:bt (j+1) (argBest bt j) with
  | true =>
   simp only[if_true];refine ZZ ?_;refine Zi hS' rfl (ZZ (Xv ?_));rw[hname];refine wpAny_pure ⟨Zc Y7 _,ih (j+1) _ v _ (by lia) WA (W.frame _ _ _ hst' λb hbf o e=>?_) (by simp only[argBest,hb,if_true];exact hP) (t0 _ hS' rfl)
    λv' h'' tk'' hP' hk''=>?_⟩
   ·exact(v9 _ _ (λh:S=b=>hSf (by rw[h];exact hbf))).trans e
   ·exact hR v' h'' tk'' hP' λb o hbw hbS e=>hk'' b o hbw hbS ((v9 _ _ (YN hbS)).trans (hk' b o hbw e))
  | false =>
   simp only[u4,if_false];refine ZZ (Xv ?_);rw[hname];refine wpAny_pure ⟨Zc Y7 _,ih (j+1) _ vb c (by lia) WA hst' (by simp only[argBest,hb,u4,if_false];exact hPb) hS' λv' h'' tk'' hP' hk''=>?_⟩
   exact hR v' h'' tk'' hP' λb o hbw hbS e=>hk'' b o hbw hbS (hk' b o hbw e)
theorem wV(W:Walks prog w A.in1 I fp wr n P St) (bt:Nat->Nat->Bool) (hcmp:CmpOf prog w A.in1 .Gt P bt) (S:Addr) (hSf:S∉fp) {c:Nat}{nm:Str}{dv:Value} (WY:St 0 s.heap)
  (hS:s.heap.get? S=some { cls:=.type "list",dict:=none,data:=.seq #[] c,slots:=#[] })
  (hR:∀v h' tk,(if n=0 then v=dv else P (argBest bt (n - 1)) v)->(∀b o,b∉wr->b≠S->s.heap.get? b=some o->h'.get? b=some o)->R (.ok (.ret v)) { s with heap:=h',toks:=tk }) :
  codeAny (model prog w) A (.builtin "max.loop" ⟨[.ref I,.none,.ref S],[(nm,dv)]⟩) R s:=by
 have hSw:S∉wr:=λh=>hSf (W.sub _ h)
 have hname:(toString "max"++toString ".loop":String)="max.loop":=by decide
 refine Za F.entry_max_loop ?_;rw[Zv Y7 _];show wpAny _ A.in1 (seqItems? (.ref S) >>= _) _ _ s;refine ZZ (ZB hS rfl ?_);show wpAny _ A.in1 (tryCatch (pyNext (.ref I)) _ >>= _) _ _ s;by_cases hn:n=0
 ·refine ZZ (VJ (W.done s _ _ (by rw [hn];exact WY) fun h' tk hk'=>?_))
  refine ZZ (YB (wpAny_pure ?_));exact hR dv h' tk (by rw[if_pos hn]) λb o hbw _ e=>hk' b o hbw e
 ·refine ZZ (VJ (W.item 0 s _ _ (by lia) WY fun v h' tk hP hst' hk'=>?_))
  have hS':=hk' S _ hSw hS;show wpAny _ A.in1 (updateSeq S (λ_=>#[v,v]) >>= _) _ _ _
  refine ZZ ?_;refine Zi hS' rfl ?_;rw[hname];refine wpAny_pure ⟨Zc Y7 _,PY W bt hcmp S hSf _ 0 _ v _ rfl (by lia) (W.frame _ _ _ hst' λb hbf o e=>?_) hP (t0 _ hS' rfl) λv' h'' tk'' hP' hk''=>?_⟩
  ·exact(v9 _ _ (λh:S=b=>hSf (by rw[h];exact hbf))).trans e
  ·exact hR v' h'' tk'' (by rw[if_neg hn];exact hP') λb o hbw hbS e=>hk'' b o hbw hbS ((v9 _ _ (YN hbS)).trans (hk' b o hbw e))
end
def PX{c:Nat}{is:List Int}{dv:Value} (hh:A.handled=none) (e:s.heap.get? l=some { cls:=.type "list",data:=.seq ZO.toArray c }) (l1:ZO.length=is.length)
  (l2:∀(i:Nat) (v:Value),ZO[i]?=some v->∃t,v=Value.int (is.getD i 0) t)
  (h:∀v h' tk,(if is.length=0 then v=dv else ∃t,v=.int (is.getD (argBest (λi j=>decide (is.getD i 0 > is.getD j 0)) (is.length - 1)) 0) t)->(∀b o,s.heap.get? b=some o->h'.get? b=some o)->Q v { s with heap:=h',toks:=tk }) :
  wpAny (model prog w) A (call (.builtin "max") [.ref l] [(Str.ofString "default",dv)]) Q E s:=by
 have hname:(toString "max"++toString ".loop":String)="max.loop":=by decide
 have hL:s.heap.IsList l ZO.toArray:=⟨_,e,rfl,c,rfl⟩;have WA:l<s.heap.objs.size:=z8 e;refine PyProof.Rows.kmk_tree PySem.F.kind_max PySem.F.plain_max PySem.F.entry_max (PV _ _) ?_;show wpAny _ A.in1 (Builtin.Builtins.bindParams "max" ["key","default"] 0 ⟨[],[(Str.ofString "default",dv)]⟩ >>= _) _ _ s;refine ZZ (Z9 (show Builtin.Builtins.bindParams "max" ["key","default"] 0 ⟨[],[(Str.ofString "default",dv)]⟩=pure [none,some dv] from rfl) ?_)
 refine ZZ (wpAny_pure ?_);refine ZZ (XE hL ?_);refine ZZ (ZR ?_);have hS:(s.heap.push { cls:=.type "list_iterator",data:=.fields #[.ref l,.int 0 0] }).objs.size=s.heap.objs.size+1:=ZJ ..;rw[hname];have W:=Walks.list (prog:=prog) (w:=w) (A:=A.in1) hh s.heap.objs.size l (v6 WA) ZO.toArray;refine wpAny_pure ⟨Zc Y7 _,wV W (λi j=>decide (is.getD i 0 > is.getD j 0)) (CmpOf.ints_gt _ λi v h=>l2 i v (by simpa using h)) _ (λhm=>?_) (W.frame _ _ _ ⟨⟨_,z7 _ rfl,rfl,rfl⟩,hL.push _⟩ λb _ o e=>z0 _ e) (z7 _ rfl) λv h' tk hv hk=>?_⟩
 ·rw [hS] at hm
  rcases y0.mp hm with q|hm
  ·exact absurd q (Yz (YJ _))
  ·rcases y0.mp hm with q | hm
   ·exact absurd q (Yz (Yy WA))
   ·cases hm
 ·refine h v h' tk ?_ fun b o eb=>hk b o (fun hm=>?_) ?_ (z0 _ (z0 _ eb))
  ·have hz:ZO.toArray.size=is.length:=by simp [l1]
   rw[hz] at hv;by_cases q:is.length=0
   ·rw[if_pos q] at hv |-;exact hv
   ·rw[if_neg q] at hv |-;exact l2 _ _ (by simpa using hv)
  ·rcases y0.mp hm with q | hm
   ·exact absurd (q ▸ z8 eb) (t6 _)
   ·cases hm
  ·rw [hS]
   exact v6 (Yy (z8 eb))
noncomputable def SN (a b:Int):Int:=if b > a then b else a
noncomputable def We:D->D->Res D
 | .lst ds,d=>match X7 ds with
  | some []=>.ok d
  | some (i::r)=>.ok (.int (r.foldl SN i))
  | none=>.bad
 | _,_=>.bad
theorem zM (i:Int) (r:List Int):∀k,k<=r.length->(i::r).getD (argBest (λa b=>decide ((i::r).getD a 0 > (i::r).getD b 0)) k) 0=(r.take k).foldl SN i
 | 0,_=>by simp[argBest]
 | k+1,h=>by
  have ih:=zM i r k (by lia)
  have e:r.take (k+1)=r.take k++[r.getD k 0]:=by
   rw[List.take_add_one,List.getD_eq_getElem?_getD,y9 (by lia)]
   rfl
  rw[e,List.foldl_append];generalize (r.take k).foldl SN i=m at ih |-
  show _=SN m (r.getD k 0);unfold argBest;have e2:(i::r).getD (k+1) 0=r.getD k 0:=rfl;by_cases q:r.getD k 0 > m
  ·rw[if_pos (by rw[decide_eq_true_eq,ih,e2];exact q),e2,SN,if_pos q]
  ·rw[if_neg (by rw[decide_eq_true_eq,ih,e2];exact q),ih,SN,if_neg q]
section
variable {de:Expr}{fd:Rho->Res D}{kp:Pos}
def LN (hc:X.calm=true) (hm:X.mg x=none) (hv:bootBuiltins x=some (.builtin "max")) (ha:DE X xq e fe) (hd:DE X xq de fd) (hs:autoParam (Zk e=true) aa._auto_1) (hg:autoParam (Gl X x) aa._auto_1) (hn:autoParam (x≠"__name__") ac._auto_1) (WJ:autoParam ((x==("__debug__":Str))=false) ac._auto_1) :
  DE X xq (.Call (.Name x p) [e] [⟨some "default",de,kp⟩] pos) (λρ=>(fe ρ).bind λa=>(fd ρ).bind λb=>YD (We a b)):=⟨λZY s σ H Q I z9=>Xt z9 λB F ρ R q=>by
 refine YA (SU I hg hm hv ?_ hn WJ);have PA1:=Ta ha.out (R8 (X:=X)) hs;refine callWith_kw (Z2 (PA1 pos ZY s σ H (λvs H1=>∃v F1 d1,vs=[v]/\Stp F H F1 H1/\Rel X.K B ρ σ F1 H1/\Rp X.K F1 v d1/\((fd ρ).bind λb=>YD (We d1 b)).all (λd=>∀v F' H',Stp F H F' H'->Rp X.K F' v d->Q v H') (ErrK X.K xq B ρ σ)) I (Yd R q λd v F1 H1 s1 R1 p1 q1=>⟨v,F1,d,rfl,s1,R1,p1,q1⟩)) λus s1 ⟨vs,H1,I1,r1,v,F1,d1,ev,st1,R1,p1,q1⟩=>?_) ?_ ?_
 ·subst ev
  obtain⟨u,rfl,ru⟩:=vals1 r1;refine kws_cons (Z2 (hd.out ZY s1 σ H1 (λv2 H2=>∃F2 d2,Stp F1 H1 F2 H2/\Rp X.K F2 v2 d2/\(YD (We d1 d2)).all (λd=>∀v F' H',Stp F H F' H'->Rp X.K F' v d->Q v H') (ErrK X.K xq B ρ σ)) I1 (Yd R1 q1 λd v F2 H2 s2 R2 p2 q2=>⟨F2,d,s2,p2,q2⟩)) λu2 s2 ⟨v2,H2,I2,r2,F2,d2,st2,p2,q2⟩=>kws_nil ?_)
  show wpAny _ _ (call (.builtin "max") [u] [(Str.ofString "default",u2)]) _ _ _;have st:=st1.trans st2;cases d1 with
  | lst ds =>
   cases p1 with
   | @lst l zs _ hq hs =>
    cases (show u=Value.ref l from ru)
    obtain⟨z,ZO,n,rv,hl,el⟩:=I2.lstR ((hq.same st2.ff).same st2.fh);cases hb:X7 ds with
    | none=>simp only[We,hb,YD] at q2;exact q2.elim
    | some is =>
     obtain⟨l1,l2⟩:=E9 hb hs rv;refine PX (I2.ok.hd hc) el l1 l2 λw h' tk hw k=>?_
     cases is with
     | nil =>
      simp only[We,hb,YD] at q2;cases (show w=u2 from by simpa using hw)
      exact⟨v2,H2,I2.kept k,r2,q2 _ _ _ st p2⟩
     | cons i r =>
      simp only[We,hb,YD] at q2;rw[if_neg (by simp)] at hw
      obtain⟨t,rfl⟩:=hw;have eb:=zM i r r.length (w4 _);rw[List.take_length] at eb;refine⟨.int (r.foldl SN i),H2,I2.kept k,⟨t,?_⟩,q2 _ F2 H2 st (.int _)⟩;rw[<- eb];rfl
  | _=>simp only[We,YD] at q2;exact q2.elim
 ·rw [Vi hs]
  rfl
 ·rw [Vi hs]
  rfl⟩
end
def ZIt (b:Bool) (h:Heap) (i l:Addr) (k:Nat):Prop:=if b then h.IsTupleIter i l k else h.IsListIter i l k
def ZSq (b:Bool) (h:Heap) (l:Addr) (xs:Array Value):Prop:=if b then h.IsTuple l xs else h.IsList l xs
section
variable {i c:Addr}
theorem ZIt.at (x:ZIt b h i l k) (e:∀o,h.get? i=some o->h'.get? i=some o):ZIt b h' i l k:=by
 cases b
 ·exact Heap.IsListIter.at x e
 ·exact Heap.IsTupleIter.at x e
theorem ZSq.at (x:ZSq b h l xs) (e:∀o,h.get? l=some o->h'.get? l=some o):ZSq b h' l xs:=by
 cases b
 ·exact Heap.IsList.at x e
 ·obtain⟨o,a,r⟩:=(show h.IsTuple l xs from x);exact⟨o,e o a,r⟩
def ZIt.extBut (x:ZIt b h i l k) (hs:Heap.ExtBut c h h') (n:i≠c):ZIt b h' i l k:=x.at λo e=>hs _ _ n e
def ZSq.extBut (x:ZSq b h l xs) (hs:Heap.ExtBut c h h') (n:l≠c):ZSq b h' l xs:=x.at λo e=>hs _ _ n e
def ZIt.lt (x:ZIt b h i l k):i<h.objs.size:=by
 cases b
 ·obtain⟨_,e,_⟩:=(show h.IsListIter i l k from x);exact z8 e
 ·obtain⟨_,e,_⟩:=(show h.IsTupleIter i l k from x);exact z8 e
def ZSq.lt (x:ZSq b h l xs):l<h.objs.size:=by
 cases b
 ·obtain⟨_,e,_⟩:=(show h.IsList l xs from x);exact z8 e
 ·obtain⟨_,e,_⟩:=(show h.IsTuple l xs from x);exact z8 e
end
abbrev ZG (h:Heap) (z TI TO:Addr) (f0 f1:Value):Prop :=
 h.get? z=some { cls:=.type "zip",dict:=none,data:=.fields #[f0,f1,.bool false,.ref TI,.ref TO],slots:=#[] }
def Ib (f:Value):Prop:=f=.none\/∃a,f=rawInt a
def wq{Q:Option Obj->Shared->Prop}{M:Model} (h:Q (s.heap.get? a) s):wpAny M A (loadIfAlive a) Q E s:=λΓ p _=>by
 unfold loadIfAlive;rw[Sem.wp_loadIfAlive];exact wpAny_pure (M:=M) (A:=A) (E:=E) h Γ p ‹_›
def Lj{items:Array Value}{x:Value} (hit:ZIt b s.heap it l i) (hl:ZSq b s.heap l items) (hx:items[i]?=some x)
  (hQ:∀h',ZIt b h' it l (i+1)->Heap.SameBut it s.heap h'->Q x { s with heap:=h' }):wpAny (model prog w) A (Builtin.SmallTypes.nextOf (.ref it)) Q E s:=by
 cases b
 ·exact wpAny_nextOf_list_item hit hl hx hQ
 ·exact My hit hl hx hQ
def HK{items:Array Value} (hh:A.handled=none) (hit:ZIt b s.heap it l i) (hl:ZSq b s.heap l items) (hx:items[i]?=none)
  (hE:∀h' e,Heap.ExtBut it s.heap h'->(∃o,h'.get? e=some o/\o.cls=.type "StopIteration")->E (.ref e) { s with heap:=h' }):wpAny (model prog w) A (Builtin.SmallTypes.nextOf (.ref it)) Q E s:=by
 cases b
 ·exact wpAny_nextOf_list_end hh hit hl hx hE
 ·exact vz hh hit hl hx hE
def BL{TI TO:Addr}{Q:Bool->Shared->Prop} (hz:ZG s.heap z TI TO f0 f1) (hf:Ib f0)
  (hQ:∀b h' f1',ZG h' z TI TO f0 f1'->Heap.SameBut z s.heap h'->Q b { s with heap:=h' }):wpAny (model prog w) A (Builtin.SmallTypes.ownedTupleIsFree (.ref z)) Q E s:=by
 have hr:Heap.SameBut z s.heap s.heap:=⟨rfl,λ_ _=>rfl⟩
 unfold Builtin.SmallTypes.ownedTupleIsFree;refine ZZ (Zw hz rfl (x:=f0) rfl ?_);rcases hf with rfl|⟨a,rfl⟩
 ·exact wpAny_pure (hQ true s.heap f1 hz hr)
 ·show wpAny _ _ (loadIfAlive _ >>= _) _ _ _
  refine ZZ (wq ?_);cases hg:s.heap.get? (Int.toNat a) with
  | none=>exact wpAny_pure (hQ true s.heap f1 hz hr)
  | some o =>
   show wpAny _ _ (field (.ref z) 1 >>= _) _ _ _;refine ZZ (Zw hz rfl (x:=f1) rfl ?_);by_cases q:(f1 != .bool true)=true
   ·rw [if_pos q]
    refine ZZ (Zs hz (by simp) λh₁ hz₁ hs₁=>wpAny_pure (hQ false h₁ _ hz₁ hs₁))
   ·rw [if_neg q]
    exact ZZ (wpAny_pure (wpAny_pure (hQ false s.heap f1 hz hr)))
def Rj{TI TO:Addr}{x a b:Value} (D:ZipApart z TI TO i1 i2 l1 l2)
  (hz:ZG s.heap z TI TO f0 f1) (hf:Ib f0) (hTI:IsPair s.heap TI (.ref i1) (.ref i2)) (hTO:IsPair s.heap TO a b)
  (h1:ZIt b1 s.heap i1 l1 k1) (h2:ZIt b2 s.heap i2 l2 k2) (hl1:ZSq b1 s.heap l1 xs) (hl2:ZSq b2 s.heap l2 ys) (hx:xs[k1]?=some x) (hy:ys[k2]?=some y)
  (hQ:∀ h' f0' f1',ZG h' z TI TO f0' f1'->Ib f0'->(∃ a b,IsPair h' TO a b)->ZIt b1 h' i1 l1 (k1+1)->ZIt b2 h' i2 l2 (k2+1)->IsPair h' s.heap.objs.size x y->h'.objs.size=s.heap.objs.size+1 ->
   (∀c o,c≠z->c≠TO->c≠i1->c≠i2->s.heap.get? c=some o->h'.get? c=some o)->Q (.ref s.heap.objs.size) { s with heap:=h' }) :
  wpAny (model prog w) A (Builtin.«zip.__next__» ⟨[.ref z],[]⟩) (λXe s'=>∃v,Xe=.done (.ret v)/\Q v s') E s:=by
 show wpAny _ _ (field (.ref z) 2 >>= _) _ _ _;refine ZZ (Zw hz rfl (x:=.bool false) rfl ?_);show wpAny _ _ (field (.ref z) 3 >>= _) _ _ _;refine ZZ (Zw hz rfl (x:=.ref TI) rfl ?_);refine ZZ (ZB hTI rfl ?_);show wpAny _ _ (Builtin.SmallTypes.ownedTupleIsFree (.ref z) >>= _) _ _ _;refine ZZ (BL hz hf λfb h₀ f1' hz₀ hs₀=>?_)
 cases fb with
 | true =>
  simp only[if_true];refine ZZ (YB ?_);refine ZZ (Zw hz₀ rfl (x:=.ref TO) rfl ?_);refine ZZ (Zs hz₀ (by simp) λh₁ hz₁ hs₁'=>?_)
  replace hz₁:ZG h₁ z TI TO .ellipsis f1':=hz₁
  have hs₁:Heap.SameBut z s.heap h₁:=⟨hs₁'.1.trans hs₀.1,λb hb=>(hs₁'.2 b hb).trans (hs₀.2 b hb)⟩
  refine ZZ ?_;simp only[List.zipIdx_cons,List.zipIdx_nil,List.forIn_cons,List.forIn_nil];refine ZZ (ZZ (wpAny_onRaise ?_));show wpAny _ _ (Builtin.SmallTypes.nextOf (.ref i1) >>= _) _ _ _;refine ZZ (Lj (h1.extBut hs₁.extBut D.i1z) (hl1.extBut hs₁.extBut D.l1z) hx λh₂ h1₂ hs₂=>wpAny_pure ?_)
  have hTO₂:IsPair h₂ TO a b:=hs₂.extBut _ _ D.TOi1 (hs₁.extBut _ _ D.TOz hTO);refine ZZ (ZB hTO₂ rfl ?_);refine ZZ (wpAny_updateSeq_pair hTO₂ λh₃ hTO₃ hs₃=>?_)
  replace hTO₃:IsPair h₃ TO x b:=hTO₃
  refine ZZ (Xv (wpAny_pure ?_));refine ZZ (ZZ (wpAny_onRaise ?_));show wpAny _ _ (Builtin.SmallTypes.nextOf (.ref i2) >>= _) _ _ _;refine ZZ (Lj (((h2.extBut hs₁.extBut D.i2z).extBut hs₂.extBut D.i12.symm).extBut hs₃.extBut D.TOi2.symm)
   (((hl2.extBut hs₁.extBut D.l2z).extBut hs₂.extBut D.l2i1).extBut hs₃.extBut D.l2TO) hy λh₄ h2₄ hs₄=>wpAny_pure ?_)
  have hTO₄:IsPair h₄ TO x b:=hs₄.extBut _ _ D.TOi2 hTO₃;refine ZZ (ZB hTO₄ rfl ?_);refine ZZ (wpAny_updateSeq_pair hTO₄ λh₅ hTO₅ hs₅=>?_)
  replace hTO₅:IsPair h₅ TO x y:=hTO₅
  refine ZZ (Xv (wpAny_pure (wpAny_pure ?_)));refine ZZ (ZB hTO₅ rfl ?_);refine ZZ (wpAny_newTuple ?_);have hsz:h₅.objs.size=s.heap.objs.size:=by rw[hs₅.1,hs₄.1,hs₃.1,hs₂.1,hs₁.1]
  have hz₅:ZG h₅ z TI TO .ellipsis f1':=hs₅.extBut _ _ D.TOz.symm (hs₄.extBut _ _ D.i2z.symm (hs₃.extBut _ _ D.TOz.symm (hs₂.extBut _ _ D.i1z.symm hz₁)));have hk₅:∀c o,c≠z->c≠TO->c≠i1->c≠i2->s.heap.get? c=some o->h₅.get? c=some o:=λc o c1 c2 c3 c4 e =>
   hs₅.extBut _ _ c2 (hs₄.extBut _ _ c4 (hs₃.extBut _ _ c2 (hs₂.extBut _ _ c3 (hs₁.extBut _ _ c1 e))))
  have h1₅:ZIt b1 h₅ i1 l1 (k1+1):=((h1₂.extBut hs₃.extBut D.TOi1.symm).extBut hs₄.extBut D.i12).extBut hs₅.extBut D.TOi1.symm;have h2₅:ZIt b2 h₅ i2 l2 (k2+1):=h2₄.extBut hs₅.extBut D.TOi2.symm;have hzlt:z<h₅.objs.size:=z8 hz₅;show wpAny _ _ (Builtin.SmallTypes.ownedTupleHandOut (.ref z) (.ref h₅.objs.size) >>= _) _ _ _;refine ZZ ?_;unfold Builtin.SmallTypes.ownedTupleHandOut;have hz₆:ZG (h₅.push { cls:=.type "tuple",data:=.seq #[x,y] }) z TI TO .ellipsis f1':=z0 _ hz₅;refine ZZ (Zs hz₆ (by simp) λh₇ hz₇ hs₇=>?_)
  replace hz₇:ZG h₇ z TI TO (rawInt h₅.objs.size) f1':=hz₇
  refine Zs hz₇ (by simp) λh₈ hz₈ hs₈=>?_
  replace hz₈:ZG h₈ z TI TO (rawInt h₅.objs.size) (.bool false):=hz₈
  have up:∀c o,c≠z->h₅.get? c=some o->h₈.get? c=some o:=λc o c1 e=>hs₈.extBut _ _ c1 (hs₇.extBut _ _ c1 (z0 _ e))
  have hT₈:IsPair h₈ h₅.objs.size x y:=hs₈.extBut _ _ (Yz hzlt) (hs₇.extBut _ _ (Yz hzlt) (z7 _ rfl));have hz8:h₈.objs.size=h₅.objs.size+1:=by rw[hs₈.1,hs₇.1,ZJ]
  rw[hsz] at hz₈ hT₈ hz8;refine wpAny_pure ⟨_,rfl,?_⟩;show Q (.ref h₅.objs.size) _;rw[hsz];exact hQ h₈ _ _ hz₈ (.inr ⟨_,rfl⟩) ⟨_,_,up _ _ D.TOz hTO₅⟩ (h1₅.at λo e=>up _ o D.i1z e) (h2₅.at λo e=>up _ o D.i2z e) hT₈ hz8 λc o c1 c2 c3 c4 e=>up c o c1 (hk₅ c o c1 c2 c3 c4 e)
 | false =>
  simp only[u4,if_false];refine ZZ ?_;rw[<- Wq];simp only[List.forIn_cons,List.forIn_nil];refine ZZ (ZZ (Zx ?_));show wpAny _ _ (Builtin.SmallTypes.nextOf (.ref i1) >>= _) _ _ _;refine ZZ (Lj (h1.extBut hs₀.extBut D.i1z) (hl1.extBut hs₀.extBut D.l1z) hx λh₂ h1₂ hs₂=>wpAny_pure (wpAny_pure ?_))
  refine ZZ (ZZ (Zx ?_));show wpAny _ _ (Builtin.SmallTypes.nextOf (.ref i2) >>= _) _ _ _;refine ZZ (Lj ((h2.extBut hs₀.extBut D.i2z).extBut hs₂.extBut D.i12.symm) ((hl2.extBut hs₀.extBut D.l2z).extBut hs₂.extBut D.l2i1) hy λh₄ h2₄ hs₄=>wpAny_pure (wpAny_pure ?_))
  refine wpAny_pure ?_;have hsz:h₄.objs.size=s.heap.objs.size:=by rw[hs₄.1,hs₂.1,hs₀.1]
  have hz₄:ZG h₄ z TI TO f0 f1':=hs₄.extBut _ _ D.i2z.symm (hs₂.extBut _ _ D.i1z.symm hz₀);have hTO₄:IsPair h₄ TO a b:=hs₄.extBut _ _ D.TOi2 (hs₂.extBut _ _ D.TOi1 (hs₀.extBut _ _ D.TOz hTO));show wpAny _ _ (newTuple [x,y] >>= _) _ _ _;refine ZZ (wpAny_newTuple (wpAny_pure ⟨_,rfl,?_⟩));show Q (.ref h₄.objs.size) _;have up:∀c o,h₄.get? c=some o->(h₄.push { cls:=.type "tuple",data:=.seq #[x,y] }).get? c=some o:=λc o e=>z0 _ e
  have hT₈:IsPair (h₄.push { cls:=.type "tuple",data:=.seq #[x,y] }) h₄.objs.size x y:=z7 _ rfl;have hz8:(h₄.push { cls:=.type "tuple",data:=.seq #[x,y] }).objs.size=h₄.objs.size+1:=ZJ ..;rw[hsz] at hT₈ hz8 |-
  exact hQ _ _ _ (up _ _ hz₄) hf ⟨_,_,up _ _ hTO₄⟩ (((h1₂.extBut hs₄.extBut D.i12)).at λo e=>up _ o e) (h2₄.at λo e=>up _ o e) hT₈ hz8 λc o c1 c2 c3 c4 e=>up c o (hs₄.extBut _ _ c4 (hs₂.extBut _ _ c3 (hs₀.extBut _ _ c1 e)))
def NM{TI TO:Addr}{a b:Value}{Q:Fin->Shared->Prop} (hh:A.handled=none) (D:ZipApart z TI TO i1 i2 l1 l2)
  (hz:ZG s.heap z TI TO f0 f1) (hf:Ib f0) (hTI:IsPair s.heap TI (.ref i1) (.ref i2)) (hTO:IsPair s.heap TO a b)
  (h1:ZIt b1 s.heap i1 l1 k1) (h2:ZIt b2 s.heap i2 l2 k2) (hl1:ZSq b1 s.heap l1 xs) (hl2:ZSq b2 s.heap l2 ys) (hend:xs[k1]?=none\/ys[k2]?=none)
  (hE:∀h' e,(∀c o,c≠z->c≠TO->c≠i1->c≠i2->s.heap.get? c=some o->h'.get? c=some o)->(∃o,h'.get? e=some o/\o.cls=.type "StopIteration")->E (.ref e) { s with heap:=h' }) :
  wpAny (model prog w) A (Builtin.«zip.__next__» ⟨[.ref z],[]⟩) Q E s:=by
 show wpAny _ _ (field (.ref z) 2 >>= _) _ _ _;refine ZZ (Zw hz rfl (x:=.bool false) rfl ?_);show wpAny _ _ (field (.ref z) 3 >>= _) _ _ _;refine ZZ (Zw hz rfl (x:=.ref TI) rfl ?_);refine ZZ (ZB hTI rfl ?_);show wpAny _ _ (Builtin.SmallTypes.ownedTupleIsFree (.ref z) >>= _) _ _ _;refine ZZ (BL hz hf λfb h₀ f1' hz₀ hs₀=>?_)
 cases fb with
 | true =>
  simp only[if_true];refine ZZ (YB ?_);refine ZZ (Zw hz₀ rfl (x:=.ref TO) rfl ?_);refine ZZ (Zs hz₀ (by simp) λh₁ hz₁ hs₁'=>?_)
  replace hz₁:ZG h₁ z TI TO .ellipsis f1':=hz₁
  have hs₁:Heap.SameBut z s.heap h₁:=⟨hs₁'.1.trans hs₀.1,λb hb=>(hs₁'.2 b hb).trans (hs₀.2 b hb)⟩
  refine ZZ ?_;simp only[List.zipIdx_cons,List.zipIdx_nil,List.forIn_cons,List.forIn_nil];refine ZZ (ZZ (wpAny_onRaise ?_));show wpAny _ _ (Builtin.SmallTypes.nextOf (.ref i1) >>= _) _ _ _;cases hx:xs[k1]? with
  | none =>
   refine ZZ (HK hh (h1.extBut hs₁.extBut D.i1z) (hl1.extBut hs₁.extBut D.l1z) hx λh₂ e hs₂ he=>?_)
   obtain⟨oe,hoe,hce⟩:=he;have hz₂:ZG h₂ z TI TO .ellipsis f1':=hs₂ _ _ D.i1z.symm hz₁;have hez:e≠z:=λx=>by subst x;rw[hz₂] at hoe;cases hoe;simp at hce
   refine Zs hz₂ (by simp) λh₃ _ hs₃=>hE h₃ e (λc o c1 _ c3 _ x=>hs₃.extBut _ _ c1 (hs₂ _ _ c3 (hs₁.extBut _ _ c1 x))) ⟨oe,hs₃.extBut _ _ hez hoe,hce⟩
  | some x =>
   have hy:ys[k2]?=none:=by rcases hend with h|h;rw[hx] at h;cases h;exact h
   refine ZZ (Lj (h1.extBut hs₁.extBut D.i1z) (hl1.extBut hs₁.extBut D.l1z) hx λh₂ h1₂ hs₂=>wpAny_pure ?_)
   have hTO₂:IsPair h₂ TO a b:=hs₂.extBut _ _ D.TOi1 (hs₁.extBut _ _ D.TOz hTO);refine ZZ (ZB hTO₂ rfl ?_);refine ZZ (wpAny_updateSeq_pair hTO₂ λh₃ hTO₃ hs₃=>?_)
   refine ZZ (Xv (wpAny_pure ?_));refine ZZ (ZZ (wpAny_onRaise ?_));show wpAny _ _ (Builtin.SmallTypes.nextOf (.ref i2) >>= _) _ _ _;refine ZZ (HK hh (((h2.extBut hs₁.extBut D.i2z).extBut hs₂.extBut D.i12.symm).extBut hs₃.extBut D.TOi2.symm)
    (((hl2.extBut hs₁.extBut D.l2z).extBut hs₂.extBut D.l2i1).extBut hs₃.extBut D.l2TO) hy λh₄ e hs₄ he=>?_)
   obtain⟨oe,hoe,hce⟩:=he;have hz₄:ZG h₄ z TI TO .ellipsis f1':=hs₄ _ _ D.i2z.symm (hs₃.extBut _ _ D.TOz.symm (hs₂.extBut _ _ D.i1z.symm hz₁));have hez:e≠z:=λx=>by subst x;rw[hz₄] at hoe;cases hoe;simp at hce
   refine Zs hz₄ (by simp) λh₅ _ hs₅=>hE h₅ e (λc o c1 c2 c3 c4 x=>hs₅.extBut _ _ c1 (hs₄ _ _ c4 (hs₃.extBut _ _ c2 (hs₂.extBut _ _ c3 (hs₁.extBut _ _ c1 x))))) ⟨oe,hs₅.extBut _ _ hez hoe,hce⟩
 | false =>
  simp only[u4,if_false];refine ZZ ?_;rw[<- Wq];simp only[List.forIn_cons,List.forIn_nil];refine ZZ (ZZ (Zx ?_));show wpAny _ _ (Builtin.SmallTypes.nextOf (.ref i1) >>= _) _ _ _;cases hx:xs[k1]? with
  | none =>
   exact ZZ (HK hh (h1.extBut hs₀.extBut D.i1z) (hl1.extBut hs₀.extBut D.l1z) hx λh₂ e hs₂ he=>hE h₂ e (λc o c1 _ c3 _ x=>hs₂ _ _ c3 (hs₀.extBut _ _ c1 x)) he)
  | some x =>
   have hy:ys[k2]?=none:=by rcases hend with h|h;rw[hx] at h;cases h;exact h
   refine ZZ (Lj (h1.extBut hs₀.extBut D.i1z) (hl1.extBut hs₀.extBut D.l1z) hx λh₂ h1₂ hs₂=>wpAny_pure (wpAny_pure ?_))
   refine ZZ (ZZ (Zx ?_));show wpAny _ _ (Builtin.SmallTypes.nextOf (.ref i2) >>= _) _ _ _;exact ZZ (HK hh ((h2.extBut hs₀.extBut D.i2z).extBut hs₂.extBut D.i12.symm) ((hl2.extBut hs₀.extBut D.l2z).extBut hs₂.extBut D.l2i1) hy λh₄ e hs₄ he=>hE h₄ e (λc o c1 _ c3 c4 x=>hs₄ _ _ c4 (hs₂.extBut _ _ c3 (hs₀.extBut _ _ c1 x))) he)
section
variable {fp:List Addr}
def Inv.grow(I:Inv X ZY σ H s) (hf:∀b∈fp,VT X ZY H b) (k:∀b o,b∉fp->s.heap.get? b=some o->h'.get? b=some o) (e1:Same H H')
  (e2:∀b o,s.heap.get? b=some o->H b=none->H' b=none) (e3:∀b u,H b=none->H' b=some u->ObjOk X.prog X.w H' h' b u):Inv X ZY σ H' { s with heap:=h',toks:=t' }:=by
 have nin:∀b u,H b=some u->b∉fp:=λb u q z=>by rw[(hf b z).1] at q;cases q
 refine I.call' (ch:=fp) rfl ⟨λb o q n _ hx=>k b o hx q,λb o q n _ hx=>⟨o.slots,k b o hx q⟩,λb o q n _=>e2 b o q n,λb o q hx=>⟨o,k b o hx q⟩,λb xs q=>e1 _ _ q,λb o u q=>e1 _ _ q,λb ps q=>⟨#[],?_⟩⟩ ?_ I.bare λb hb=>?_
 ·rw[e1 _ _ q];simp
 ·intro b u q
  cases hb:H b with
  | none=>exact e3 b u hb q
  | some u' =>
   obtain rfl:u'=u:=by rw[e1 _ _ hb] at q;exact ZS q
   refine(I.hok b u' hb).stay (λc v hc z=>?_) (λc z=>e1 _ _ z) λc xs z=>e1 _ _ z
   rcases hc with rfl|hc
   ·exact k c v (nin c _ hb) z
   ·exact k c v (nin c _ hc) z
 ·obtain ⟨_,f1,_,f3,f4,f5⟩:=hf b hb
  exact⟨f3,f1,f4,f5⟩
end
structure ZSt (b1 b2:Bool) (z TI TO i1 i2 l1 l2:Addr) (k:Nat) (h:Heap):Prop where
 zp:∃f0 f1,ZG h z TI TO f0 f1/\Ib f0
 ti:IsPair h TI (.ref i1) (.ref i2)
 to:∃a b,IsPair h TO a b
 a:ZIt b1 h i1 l1 k
 b:ZIt b2 h i2 l2 k
def ZSt.keep{TI TO:Addr} (x:ZSt b1 b2 z TI TO i1 i2 l1 l2 k h) (e:∀b∈[z,TI,TO,i1,i2],∀o,h.get? b=some o->h'.get? b=some o):ZSt b1 b2 z TI TO i1 i2 l1 l2 k h' :=
 ⟨by obtain⟨f0,f1,p,q⟩:=x.zp;exact⟨f0,f1,e _ (by simp) _ p,q⟩,e _ (by simp) _ x.ti,by obtain⟨a,b,p⟩:=x.to;exact⟨a,b,e _ (by simp) _ p⟩,x.a.at λo q=>e _ (by simp) o q,x.b.at λo q=>e _ (by simp) o q⟩
def AS{TI TO:Addr}{x:Value}{Q:Option Value->Shared->Prop} (D:ZipApart z TI TO i1 i2 l1 l2) (st:ZSt b1 b2 z TI TO i1 i2 l1 l2 k s.heap)
  (hl1:ZSq b1 s.heap l1 xs) (hl2:ZSq b2 s.heap l2 ys) (hx:xs[k]?=some x) (hy:ys[k]?=some y)
  (hQ:∀h',ZSt b1 b2 z TI TO i1 i2 l1 l2 (k+1) h'->IsPair h' s.heap.objs.size x y->(∀c o,c∉[z,TI,TO,i1,i2]->s.heap.get? c=some o->h'.get? c=some o)->Q (some (.ref s.heap.objs.size)) { s with heap:=h' }) :
  wpAny (model prog w) A (pyNext (.ref z)) Q E s:=by
 obtain⟨⟨f0,f1,hz,hf⟩,hTI,⟨a,b,hTO⟩,h1,h2⟩:=st;have hT:s.TypeIs (.ref z) "zip":=⟨_,hz,rfl⟩;unfold pyNext;exact ZZ (YF (ZF (name:=Str.ofString "__next__") hT F.slot_zip_next
  (ZQ F.slot_zip_next hT F.entry_zip_next
   (Rj D hz hf hTI hTO h1 h2 hl1 hl2 hx hy λh' f0' f1' a1 a2 a3 a4 a5 a6 a7 a8=>wpAny_pure (hQ h' ⟨⟨f0',f1',a1,a2⟩,a8 _ _ D.TIz D.TITO D.TIi1 D.TIi2 hTI,a3,a4,a5⟩ a6 λc o hc e=>a8 c o (λq=>hc (by simp[q])) (λq=>hc (by simp[q])) (λq=>hc (by simp[q])) (λq=>hc (by simp[q])) e)) (F.args_zip_next_1 _))))
def BJ{TI TO:Addr}{Q:Option Value->Shared->Prop} (hh:A.handled=none) (D:ZipApart z TI TO i1 i2 l1 l2) (st:ZSt b1 b2 z TI TO i1 i2 l1 l2 k s.heap)
  (hl1:ZSq b1 s.heap l1 xs) (hl2:ZSq b2 s.heap l2 ys) (hend:xs[k]?=none\/ys[k]?=none)
  (hQ:∀h',(∀c o,c∉[z,TI,TO,i1,i2]->s.heap.get? c=some o->h'.get? c=some o)->Q none { s with heap:=h' }):wpAny (model prog w) A (pyNext (.ref z)) Q E s:=by
 obtain⟨⟨f0,f1,hz,hf⟩,hTI,⟨a,b,hTO⟩,h1,h2⟩:=st;have hT:s.TypeIs (.ref z) "zip":=⟨_,hz,rfl⟩;unfold pyNext;refine ZZ (YF (ZF (name:=Str.ofString "__next__") hT F.slot_zip_next
  (ZQ F.slot_zip_next hT F.entry_zip_next (NM hh D hz hf hTI hTO h1 h2 hl1 hl2 hend λh' e hk he=>?_) (F.args_zip_next_1 _))))
 obtain⟨o,ho,hc⟩:=he;refine ZZ (YY (T:="StopIteration") (b:=true) ⟨o,ho,hc⟩ isSubtype_stop ?_);exact wpAny_pure (hQ _ λc o hc e=>hk c o (λq=>hc (by simp[q])) (λq=>hc (by simp[q])) (λq=>hc (by simp[q])) (λq=>hc (by simp[q])) e)
def Kv{x1}{TI TO T:Addr}{Q:Unit->Shared->Prop} (D:ZipApart z TI TO i1 i2 l1 l2) (st:ZSt b1 b2 z TI TO i1 i2 l1 l2 k s.heap)
  (hQ:∀h',ZSt b1 b2 z TI TO i1 i2 l1 l2 k h'->Heap.SameBut z s.heap h'->Q () { s with heap:=h' }):wpAny (model prog w) A (letOwnedTupleGo (.Tuple es x1 pos) (.ref z) (.ref T)) Q E s:=by
 obtain⟨⟨f0,f1,hz,hf⟩,hTI,⟨a,b,hTO⟩,h1,h2⟩:=st;unfold letOwnedTupleGo;refine ZZ (wpAny_load hz ?_);show wpAny _ _ (if (["enumerate","zip","dict_itemiterator","dict_reverseitemiterator","odict_iterator","itertools.zip_longest","itertools.pairwise"].contains "zip" &&
   (#[f0,f1,.bool false,.ref TI,.ref TO]:Array Value)[0]?==some (rawInt T))=true then _ else _) Q E s
 split
 ·refine ZZ (YB ?_)
  show wpAny _ _ (setField (.ref z) 0 .none) Q E s;exact Zs hz (by simp) λh' hz' hs'=>hQ h' ⟨⟨_,_,hz',.inl rfl⟩,hs'.extBut _ _ D.TIz hTI,⟨a,b,hs'.extBut _ _ D.TOz hTO⟩,h1.extBut hs'.extBut D.i1z,h2.extBut hs'.extBut D.i2z⟩ hs'
 ·exact wpAny_pure (hQ s.heap ⟨⟨f0,f1,hz,hf⟩,hTI,⟨a,b,hTO⟩,h1,h2⟩ ⟨rfl,λ_ _=>rfl⟩)
def EX{TI TO:Addr} (st:ZSt b1 b2 z TI TO i1 i2 l1 l2 k s.heap) (h:Q (.ref z) s):wpAny (model prog w) A (pyIter (.ref z)) Q E s:=by
 obtain⟨⟨f0,f1,hz,hf⟩,_⟩:=st;have hT:s.TypeIs (.ref z) "zip":=⟨_,hz,rfl⟩;refine wpAny_pyIter_slot hT F.slot_zip_iter (ZQ F.slot_zip_iter hT F.entry_zip_iter ?_ (F.args_zip_iter_1 _));show wpAny _ _ (ret (.ref z)) _ _ s;exact wpAny_pure ⟨_,rfl,"zip",_,hT,F.slot_zip_next.lookup,h⟩
abbrev J2 (b:Bool) (l:Addr):Obj:={ cls:=.type (if b then "tuple_iterator" else "list_iterator"),data:=.fields #[.ref l,.int 0 0] }
abbrev HY (b1:Bool) (h:Heap) (l1:Addr):Heap:=h.push (J2 b1 l1)
abbrev HZ (b1 b2:Bool) (h:Heap) (l1 l2:Addr):Heap:=(HY b1 h l1).push (J2 b2 l2)
abbrev I0 (b1 b2:Bool) (h:Heap) (l1 l2:Addr):Heap:=(HZ b1 b2 h l1 l2).push { cls:=.type "tuple",data:=.seq #[.ref h.objs.size,.ref (HY b1 h l1).objs.size] }
abbrev Ia (b1 b2:Bool) (h:Heap) (l1 l2:Addr):Heap:=(I0 b1 b2 h l1 l2).push { cls:=.type "tuple",data:=.seq #[.none,.none] }
abbrev Lv (b1 b2:Bool) (h:Heap) (l1 l2:Addr):Heap:=(Ia b1 b2 h l1 l2).push { cls:=.type "zip",data:=.fields #[.none,.bool false,.bool false,.ref (HZ b1 b2 h l1 l2).objs.size,.ref (I0 b1 b2 h l1 l2).objs.size] }
def BU(hl:ZSq b s.heap l xs) (h:Q (.ref s.heap.objs.size) { s with heap:=s.heap.push (J2 b l) }):wpAny (model prog w) A (pyIter (.ref l)) Q E s:=by
 cases b
 ·exact XE hl h
 ·exact wpAny_pyIter_tuple hl h
def xS (b1 b2:Bool) (l1 l2:Addr) (xs ys:Array Value) :
  Meets (Builtin.«zip.__new__» ⟨[.type "zip",.ref l1,.ref l2],[]⟩) (λ_ R s=>ZSq b1 s.heap l1 xs/\ZSq b2 s.heap l2 ys /\
   R (.ok (.ret (.ref (Ia b1 b2 s.heap l1 l2).objs.size))) { s with heap:=Lv b1 b2 s.heap l1 l2 }) :=
 .of_wp λprog w A R s h=>by
  obtain⟨hp,g,d,tk,os⟩:=s;obtain⟨hl1,hl2,h⟩:=h;have hsub:=sub_zip;have hL1:ZSq b1 (Shared.heap ⟨hp,g,d,tk,os⟩) l1 xs:=hl1;have hL2:ZSq b2 (Shared.heap ⟨hp.push (J2 b1 l1),g,d,tk,os⟩) l2 ys:=hl2.at λo e=>z0 _ e
  wp_walk using BU hL1,BU hL2
  exact⟨_,rfl,h⟩
def Bq(hl1:ZSq b1 s.heap l1 xs) (hl2:ZSq b2 s.heap l2 ys)
  (h:∀ h',ZSt b1 b2 (s.heap.objs.size+4) (s.heap.objs.size+2) (s.heap.objs.size+3) s.heap.objs.size (s.heap.objs.size+1) l1 l2 0 h' ->
   (∀c o,s.heap.get? c=some o->h'.get? c=some o)->Q (.ref (s.heap.objs.size+4)) { s with heap:=h' }) :
  wpAny (model prog w) A (call (.type "zip") [.ref l1,.ref l2]) Q E s:=by
 refine callType_new F.called_zip (by decide) (F.typeCall_zip_2 _ _) (F.newCall_zip_2 _ _) (λobj=>F.args_object_init_3 obj _ _) F.entry_zip_new
  (xS b1 b2 l1 l2 xs ys) ⟨hl1,hl2,?_⟩
 have z1:(HY b1 s.heap l1).objs.size=s.heap.objs.size+1:=ZJ ..;have z2:(HZ b1 b2 s.heap l1 l2).objs.size=s.heap.objs.size+2:=by rw[ZJ,z1]
 have z3:(I0 b1 b2 s.heap l1 l2).objs.size=s.heap.objs.size+3:=by rw[ZJ,z2]
 have z4:(Ia b1 b2 s.heap l1 l2).objs.size=s.heap.objs.size+4:=by rw[ZJ,z3]
 have g5:(Lv b1 b2 s.heap l1 l2).get? (Ia b1 b2 s.heap l1 l2).objs.size=some _:=z7 _ rfl;have g4:(Lv b1 b2 s.heap l1 l2).get? (I0 b1 b2 s.heap l1 l2).objs.size=some _:=z0 _ (z7 _ rfl);have g3:(Lv b1 b2 s.heap l1 l2).get? (HZ b1 b2 s.heap l1 l2).objs.size=some _:=z0 _ (z0 _ (z7 _ rfl));have g2:(Lv b1 b2 s.heap l1 l2).get? (HY b1 s.heap l1).objs.size=some _:=z0 _ (z0 _ (z0 _ (z7 _ rfl)));have g1:(Lv b1 b2 s.heap l1 l2).get? s.heap.objs.size=some _:=z0 _ (z0 _ (z0 _ (z0 _ (z7 _ rfl))));show _/\_;rw[z2,z3,z4] at g5;rw[z1,z2] at g3;rw[z3] at g4;rw[z1] at g2;rw[z4];have mk:∀(b:Bool) (h:Heap) (i l:Addr),h.get? i=some (J2 b l)->ZIt b h i l 0:=λb h i l e=>by
  cases b
  ·exact⟨_,e,rfl,rfl⟩
  ·exact⟨_,e,rfl,rfl⟩
 exact⟨⟨_,g5,rfl⟩,h _ ⟨⟨_,_,g5,.inl rfl⟩,g3,⟨_,_,g4⟩,mk _ _ _ _ g1,mk _ _ _ _ g2⟩ λc o x =>
  z0 _ (z0 _ (z0 _ (z0 _ (z0 _ x))))⟩
def V0 (b:Bool) (K:W.Frag) (H:Hp) (a:Addr) (xs:List V):Prop:=if b then UF K H a xs else Wr K H a xs
section
variable {xs ys:List V}
def Inv.sqB (I:Inv X ZY σ H s) (h:V0 b X.K H a xs):∃ZO,Vals xs ZO/\ZSq b s.heap a ZO.toArray:=by
 cases b
 ·obtain ⟨ZO,rv,pl,hz⟩:=I.list h
  exact⟨ZO,rv,pl.isList⟩
 ·obtain ⟨ZO,rv,pl,hz⟩:=I.tuple h
  exact⟨ZO,rv,pl⟩
def Inv.sqB_inj (I:Inv X ZY σ H s) (h:V0 b X.K H a xs) (h':V0 b X.K H a ys):xs=ys:=by
 cases b
 ·exact I.list_inj h h'
 ·exact I.tuple_inj h h'
end
def FU (K:W.Frag) (b1 b2:Bool) (a1 a2:Addr):It :=
 ⟨λi H=>∃xs ys x y,V0 b1 K H a1 xs/\V0 b2 K H a2 ys/\xs[i]?=some x/\ys[i]?=some y,
  λi H v H'=>∃p x y,H p=none/\v=.ref p/\H'=Zd H p (.tup [x,y])/\∀xs ys,V0 b1 K H a1 xs->V0 b2 K H a2 ys->xs[i]?=some x/\ys[i]?=some y,
  λi H=>∃xs ys,V0 b1 K H a1 xs/\V0 b2 K H a2 ys/\(xs.length<=i\/ys.length<=i)⟩
theorem wv{TI TO:Addr} (D:ZipApart z TI TO i1 i2 a1 a2) :
  UH P w K (.Tuple es k pos) (FU K b1 b2 a1 a2) [z,TI,TO,i1,i2] z (λi h=>ZSt b1 b2 z TI TO i1 i2 a1 a2 i h) where
 mem:=by simp
 obj:=λi h st b hb=>by
  obtain⟨⟨f0,f1,hz,hf⟩,hTI,⟨x,y,hTO⟩,h1,h2⟩:=st;have it:∀(b:Bool) (i l:Addr) (k:Nat),ZIt b h i l k->∃o,h.get? i=some o/\∀v,o.data≠.cell v:=λb i l k e=>by
   cases b
   ·obtain⟨o,a,_,c⟩:=(show h.IsListIter i l k from e);exact⟨o,a,λv z=>by rw[c] at z;cases z⟩
   ·obtain⟨o,a,_,c⟩:=(show h.IsTupleIter i l k from e);exact⟨o,a,λv z=>by rw[c] at z;cases z⟩
  simp only[y0,u0,or_false] at hb;rcases hb with rfl|rfl|rfl|rfl|rfl
  ·exact⟨_,hz,λv z=>by cases z⟩
  ·exact⟨_,hTI,λv z=>by cases z⟩
  ·exact⟨_,hTO,λv z=>by cases z⟩
  ·exact it _ _ _ _ h1
  ·exact it _ _ _ _ h2
 keep:=λi h h' st k=>st.keep k
 item:=by
  intro X hP hw hK hc i ZY s σ H E I hf st hg;subst hP hw hK;obtain⟨xs,ys,x,y,q1,q2,hx,hy⟩:=hg;obtain⟨us,rv1,p1⟩:=I.sqB q1;obtain⟨ws,rv2,p2⟩:=I.sqB q2;obtain⟨u,hu,ru⟩:=rv1.get hx;obtain⟨v,hv,rw⟩:=rv2.get hy;refine AS D st p1 p2 (x:=u) (y:=v) (by simpa using hu) (by simpa using hv) λh1 st1 pr k1=>⟨_,rfl,?_⟩
  refine Kv (s:={ s with heap:=h1 }) D st1 λh2 st2 sb=>?_
  have hfr:H s.heap.objs.size=none:=I.hok.fresh (w4 _);have hzl:z<s.heap.objs.size:=by obtain⟨_,_,e,_⟩:=st.zp;exact z8 e
  have pr2:IsPair h2 s.heap.objs.size u v:=sb.extBut _ _ (Yz hzl) pr;have kk:∀c o,c∉[z,TI,TO,i1,i2]->s.heap.get? c=some o->h2.get? c=some o:=λc o hc e=>sb.extBut _ _ (λq=>hc (by simp[q])) (k1 c o hc e)
  have lt:∀b∈[z,TI,TO,i1,i2],b<s.heap.objs.size:=λb hb=>by
   simp only[y0,u0,or_false] at hb;rcases hb with rfl|rfl|rfl|rfl|rfl
   ·exact hzl
   ·exact z8 st.ti
   ·obtain⟨_,_,e⟩:=st.to;exact z8 e
   ·exact st.a.lt
   ·exact st.b.lt
  have I2:Inv X ZY σ (Zd H s.heap.objs.size (.tup [x,y])) { s with heap:=h2,toks:=s.toks }:=I.grow (fp:=[z,TI,TO,i1,i2]) hf kk (W5 hfr) (λb o e n=>by rw[Xd (v6 (z8 e))];exact n) λb w n e=>by
   by_cases hb:b=s.heap.objs.size
   ·subst hb
    rw[WN] at e;cases e;exact⟨by show 2<=sizeLine;decide,[u,v],.cons ru (.cons rw .nil),⟨_,pr2,rfl,_,rfl⟩⟩
   ·rw[Xd hb,n] at e;cases e
  refine⟨.ref s.heap.objs.size,_,I2,rfl,⟨s.heap.objs.size,x,y,hfr,rfl,rfl,λxs' ys' e1 e2=>?_⟩,st2,λb hb=>?_⟩
  ·rw[I.sqB_inj e1 q1,I.sqB_inj e2 q2];exact⟨hx,hy⟩
  ·rw[Xd (v6 (lt b hb))];exact(hf b hb).1
 done:=by
  intro X hP hw hK hc i ZY s σ H E I hf st hg;subst hP hw hK;obtain⟨xs,ys,q1,q2,hx⟩:=hg;obtain⟨us,rv1,p1⟩:=I.sqB q1;obtain⟨ws,rv2,p2⟩:=I.sqB q2;have n1:=rv1.length;have n2:=rv2.length;refine BJ (I.ok.hd hc) D st p1 p2 (by
   rcases hx with h|h
   ·exact .inl (by simp;lia)
   ·exact .inr (by simp;lia)) λh' kk=>⟨rfl,I.grow (t':=s.toks) (fp:=[z,TI,TO,i1,i2]) hf kk (Same.refl H) (λb o e n=>n) λb w n e=>by rw[n] at e;cases e⟩
 self:=λ_ _ _ _ _ st h=>EX st h
def CA (K:W.Frag) (ta:TA):TI:=λσ H R=>ta σ H λvs H1=>∃b1 b2 a1 a2 xs ys,vs=[.ref a1,.ref a2]/\V0 b1 K H1 a1 xs/\V0 b2 K H1 a2 ys/\R (FU K b1 b2 a1 a2) H1
noncomputable def Wi (ds es:List D):List D:=(ds.zip es).map λp=>.tup [p.1,p.2]
noncomputable def Ya:D->Option (List D)
 | .lst ds=>some ds
 | .tup ds=>some ds
 | _=>none
noncomputable def U3:List D->Res (List D)
 | [a,b]=>match Ya a,Ya b with
  | some x,some y=>.ok (Wi x y)
  | _,_=>.bad
 | _=>.bad
def L6{xs:List V} (e:Same H H') (h:V0 b K H a xs):V0 b K H' a xs:=by
 cases b
 ·exact e.seq h
 ·exact e.seqT h
theorem Feed.zip{F:Hp}{xs ys:List V}{es:List D} (h1:V0 b1 K F a1 xs) (h2:V0 b2 K F a2 ys) (r1:Rps K F xs ds) (r2:Rps K F ys es):Feed K F (FU K b1 b2 a1 a2) (Wi ds es) where
 go i H e hi:=by
  have hi':i<xs.length/\i<ys.length:=by
   rw[r1.length,r2.length];unfold Wi at hi;rw[v0,List.length_zip] at hi;lia
  exact⟨xs,ys,xs[i]'hi'.1,ys[i]'hi'.2,L6 e h1,L6 e h2,by simp,by simp⟩
 yld i F1 H x H' d e1 e2 hd y:=by
  obtain⟨p,u,v,hp,rfl,rfl,y⟩:=y;obtain⟨hu,hv⟩:=y xs ys (L6 (e1.trans e2) h1) (L6 (e1.trans e2) h2);have hd2:∃d1 d2,ds[i]?=some d1/\es[i]?=some d2/\d=.tup [d1,d2]:=by
   unfold Wi at hd;rw[w6,Option.map_eq_some_iff] at hd;obtain⟨⟨d1,d2⟩,hz,rfl⟩:=hd;rw[List.getElem?_zip_eq_some] at hz;exact⟨d1,d2,hz.1,hz.2,rfl⟩
  obtain⟨d1,d2,q1,q2,rfl⟩:=hd2;obtain⟨w1,hw1,pw1⟩:=r1.get q1;obtain⟨w2,hw2,pw2⟩:=r2.get q2;rw[hu] at hw1;cases hw1;rw[hv] at hw2;cases hw2;have s:=Stp.new (o:=.tup [u,v]) e2 hp;exact⟨_,s,.tup (.inl (.inl WN)) (.cons (pw1.same (e1.trans s.ff)) (.cons (pw2.same (e1.trans s.ff)) .nil))⟩
 stop i H e hi:=⟨xs,ys,L6 e h1,L6 e h2,by
  rw[r1.length,r2.length];unfold Wi at hi;rw[v0,List.length_zip] at hi
  lia⟩
def Ki{F:Hp} (p:Rp K F v d) (h:Ya d=some ds):∃b a xs,v=.ref a/\(∀H,Same F H->V0 b K H a xs)/\V0 b K F a xs/\Rps K F xs ds:=by
 cases p with
 | @lst a xs _ hq hs=>cases h;exact⟨false,a,xs,rfl,λH e=>.inl (hq.same e),.inl hq,hs⟩
 | @tup a xs _ hq hs=>cases h;exact⟨true,a,xs,rfl,λH e=>e.seqT hq,hq,hs⟩
 | _=>cases h
section
variable {a b:Expr}{ta:TA}{tp:Pos}
def MV (hg:Gl X "zip") (hm:X.mg "zip"=none) (ha:PA X [a,b] ta) (hs:autoParam (([a,b]:List Expr).all Zk=true) aa._auto_1):PI X (.Tuple es k tp) (.Call (.Name "zip" p) [a,b] [] pos) (CA X.K ta):=by
 intro ZY s σ H R I h;refine Call_ (SU I hg hm (show bootBuiltins "zip"=some (.type "zip") by decide +kernel) (ZL (Z2 (ha pos ZY s σ H _ I h) λus s1 ⟨vs,H1,I1,r1,q1⟩=>?_) (Vi (Wh hs).1) (SO (Wh hs).2)))
 obtain⟨b1,b2,a1,a2,xs,ys,e,h1,h2,q⟩:=q1;subst e;obtain⟨u1,u2,rfl,ru1,ru2⟩:=vals2 r1;cases (show u1=Value.ref a1 from ru1)
 cases (show u2=Value.ref a2 from ru2)
 obtain⟨us,rv1,p1⟩:=I1.sqB h1;obtain⟨ws,rv2,p2⟩:=I1.sqB h2;refine Bq p1 p2 λh' st kk=>EX st ?_
 have D:=zipApart_new p1.lt p2.lt;refine⟨s1.heap.objs.size+4,_,_,FU X.K b1 b2 a1 a2,H1,rfl,I1.kept (t':=s1.toks) kk,wv D,st,λc hc=>?_,q⟩
 have hb:s1.heap.objs.size<=c:=by
  simp only[y0,u0,or_false] at hc;rcases hc with rfl|rfl|rfl|rfl|rfl
  ·exact Zb _ _
  ·exact Zb _ _
  ·exact Zb _ _
  ·exact w4 _
  ·exact Zb _ _
 exact I1.fpOk hb (I1.hok.fresh hb)
set_option tactic.hygienic true in
def LV (hm:X.mg "zip"=none) (ha:DA X xq [a,b] fa) (hg:autoParam (Gl X "zip") aa._auto_1):DI X xq (.Tuple es k tp) (.Call (.Name "zip" p) [a,b] [] pos) (λρ=>(fa ρ).bind U3) :=
 ⟨λZY s σ H R I z9=>Xt z9 λB F ρ R' q=>MV hg hm ha.out ha.ns ZY s σ H R I (X2 R' q λds vs F1 H1 s1 R1 p1 q1=>by
  unfold U3 at q1;split at q1
  ·rename_i d e
   obtain⟨v,w,rfl,pv,pw⟩:=TR p1;cases hx:Ya d with
   | none=>rw[hx] at q1;exact q1.elim
   | some x =>
    cases hy:Ya e with
    | none=>rw[hx,hy] at q1;exact q1.elim
    | some y =>
     rw[hx,hy] at q1;obtain⟨b1,a1,xs,rfl,g1,g1',t1⟩:=Ki pv hx;obtain⟨b2,a2,ys,rfl,g2,g2',t2⟩:=Ki pw hy;exact⟨b1,b2,a1,a2,xs,ys,rfl,g1 _ R1.fh,g2 _ R1.fh,q1 _ F1 H1 s1 (Feed.zip g1' g2' t1 t2)⟩
  ·exact q1.elim)⟩
end
def ZAcc (n0:Nat) (fp:List Addr) (xs ys:Array Value) (Yt:Array Value) (h:Heap):Prop :=
 (∀(j:Nat) (v:Value),Yt[j]?=some v->∃T x y,v=.ref T/\IsPair h T x y/\n0<=T/\T∉fp/\xs[j]?=some x/\ys[j]?=some y)/\∀(j j':Nat) (v:Value),Yt[j]?=some v->Yt[j']?=some v->j=j'
def ZAcc.keep{fp:List Addr} (a:ZAcc n0 fp xs ys Yt h) (k:∀b o,b∉fp->h.get? b=some o->h'.get? b=some o):ZAcc n0 fp xs ys Yt h':=⟨λj v e=>by
 obtain⟨T,x,y,e1,e2,e3,e4,e5⟩:=a.1 j v e;exact⟨T,x,y,e1,k _ _ e4 e2,e3,e4,e5⟩,a.2⟩
section
variable {R:Result->Shared->Prop}
theorem Rl{TI TO S:Addr} (hh:A.handled=none) (D:ZipApart z TI TO i1 i2 l1 l2) (hS:S∉[z,TI,TO,i1,i2]) (hl1:l1∉S::[z,TI,TO,i1,i2]) (hl2:l2∉S::[z,TI,TO,i1,i2]) (hn:min xs.size ys.size<=sizeLine) (res:Value) :
  ∀(k i:Nat) (s:Shared) (Yt:Array Value) (c:Nat),min xs.size ys.size - i=k->i<=min xs.size ys.size->n0<=s.heap.objs.size->ZSt b1 b2 z TI TO i1 i2 l1 l2 i s.heap->ZSq b1 s.heap l1 xs->ZSq b2 s.heap l2 ys ->
  s.heap.get? S=some { cls:=.type "list",dict:=none,data:=.seq Yt c,slots:=#[] }->Yt.size=i->ZAcc n0 (S::[z,TI,TO,i1,i2]) xs ys Yt s.heap ->
  (∀ h' acc' c',(∀ b o,b∉S::[z,TI,TO,i1,i2]->s.heap.get? b=some o->h'.get? b=some o)->h'.get? S=some { cls:=.type "list",dict:=none,data:=.seq acc' c',slots:=#[] }->acc'.size=min xs.size ys.size ->
   ZAcc n0 (S::[z,TI,TO,i1,i2]) xs ys acc' h'->R (.ok (.ret res)) { s with heap:=h' }) ->
  codeAny (model prog w) A (.builtin "list.extend.loop" ⟨[.ref S,.ref z,res],[]⟩) R s:=by
 have sub:∀b,b∉S::[z,TI,TO,i1,i2]->b∉[z,TI,TO,i1,i2]:=λb h q=>h (z5 _ q)
 intro k;induction k with
 | zero =>
  intro i s Yt c hk hi h0 WY q1 q2 hs ha hz hR;have hin:i=min xs.size ys.size:=by lia
  refine Za F.entry_extend_loop ?_;rw[Zv Yb _];show wpAny _ A.in1 (pyNext (.ref z) >>= _) _ _ s;refine ZZ (BJ (A:=A.in1) hh D WY q1 q2 (by
   rcases Nat.le_total xs.size ys.size with h|h
   ·exact .inl (by rw[Array.getElem?_eq_none_iff];lia)
   ·exact .inr (by rw[Array.getElem?_eq_none_iff];lia)) λh' kk=>?_)
  exact wpAny_pure (hR h' Yt c (λb o hb e=>kk b o (sub b hb) e) (kk S _ hS hs) (by lia) (hz.keep λb o hb e=>kk b o (sub b hb) e))
 | succ k ih =>
  intro i s Yt c hk hi h0 WY q1 q2 hs ha hz hR;have WA:i<min xs.size ys.size:=by lia
  refine Za F.entry_extend_loop ?_;rw[Zv Yb _];show wpAny _ A.in1 (pyNext (.ref z) >>= _) _ _ s;have hx:xs[i]?=some (xs[i]'(by lia)):=s9 (by lia)
  have hy:ys[i]?=some (ys[i]'(by lia)):=s9 (by lia)
  refine ZZ (AS D WY q1 q2 hx hy λh' st' pr kk=>?_)
  have hs':=kk S _ hS hs;show wpAny _ A.in1 (updateSeq S (·.push (.ref s.heap.objs.size)) >>= _) _ _ _
  refine ZZ ?_;have oth:∀b o,b≠S->h'.get? b=some o->(h'.update S (Obj.mapSeq (·.push (.ref s.heap.objs.size)))).get? b=some o:=λb o hb e=>(v9 _ _ (YN hb)).trans e
  have all:∀b o,b∉S::[z,TI,TO,i1,i2]->s.heap.get? b=some o->(h'.update S (Obj.mapSeq (·.push (.ref s.heap.objs.size)))).get? b=some o:=λb o hb e=>oth b o (λq=>hb (by simp[q])) (kk b o (sub b hb) e)
  have lts:∀b∈S::[z,TI,TO,i1,i2],b<s.heap.objs.size:=λb hb=>by
   simp only[y0,u0,or_false] at hb;rcases hb with rfl|rfl|rfl|rfl|rfl|rfl
   ·exact z8 hs
   ·obtain⟨_,_,e,_⟩:=WY.zp;exact z8 e
   ·exact z8 WY.ti
   ·obtain⟨_,_,e⟩:=WY.to;exact z8 e
   ·exact WY.a.lt
   ·exact WY.b.lt
  have hnew:s.heap.objs.size∉S::[z,TI,TO,i1,i2]:=λhm=>t6 _ (lts _ hm)
  refine Zi hs' rfl (wpAny_pure ⟨Zc Yb _,ih (i+1) _ (Yt.push (.ref s.heap.objs.size)) _ (by lia) WA ?_ (st'.keep λb hb o e=>oth b o (λq=>hS (q ▸ hb)) e) (q1.at λo e=>all _ o hl1 e) (q2.at λo e=>all _ o hl2 e) (t0 _ hs' rfl) (by rw[Array.size_push,ha]) ?_ λh'' acc' c' k2 hS2 ha2 hz2=>?_⟩)
   (by rw[ha];lia) (by show(Yt.push _).size<=sizeLine+1;rw[Array.size_push,ha];lia)
  ·have e1:=z8 (oth _ _ (fun q=>hnew (by simp [q])) pr)
   exact v7 h0 (Wz e1)
  ·have old:∀(j:Nat),Yt[j]?≠some (.ref s.heap.objs.size):=λj e=>by
    obtain⟨T,x,y,e1,e2,_⟩:=hz.1 j _ e;cases e1;exact t6 _ (z8 e2)
   refine⟨λj v e=>?_,λj j' v e e'=>?_⟩
   ·rw [Array.getElem?_push] at e
    by_cases hj:j=Yt.size
    ·rw [if_pos hj] at e
     cases e;rw[hj,ha];exact⟨_,_,_,rfl,oth _ _ (λq=>hnew (by simp[q])) pr,h0,hnew,hx,hy⟩
    ·rw [if_neg hj] at e
     exact(hz.keep all).1 j v e
   ·rw [Array.getElem?_push] at e e'
    by_cases hj:j=Yt.size
    ·by_cases hj':j'=Yt.size
     ·rw[hj,hj']
     ·rw [if_pos hj] at e;rw [if_neg hj'] at e'
      cases e;exact absurd e' (old j')
    ·by_cases hj':j'=Yt.size
     ·rw [if_neg hj] at e;rw [if_pos hj'] at e'
      cases e';exact absurd e (old j)
     ·rw [if_neg hj] at e;rw [if_neg hj'] at e'
      exact hz.2 j j' v e e'
  ·exact hR h'' acc' c' (λb o hb e=>k2 b o hb (all b o hb e)) hS2 ha2 hz2
end
def uE:typeLookup (.type "zip") "__len__"=pure none:=by rw[Zh,ZM];kernel_rfl
def uz:typeLookup (.type "zip") "__length_hint__"=pure none:=by rw[Zh,ZM];kernel_rfl
section
variable {R:Result->Shared->Prop}
def NO{TI TO S:Addr}{c₀:Nat} (hh:A.handled=none) (D:ZipApart z TI TO i1 i2 l1 l2) (hSn:S∉[z,TI,TO,i1,i2]) (hl1:l1∉S::[z,TI,TO,i1,i2]) (hl2:l2∉S::[z,TI,TO,i1,i2]) (hn:min xs.size ys.size<=sizeLine)
  (h0:n0<=s.heap.objs.size) (WY:ZSt b1 b2 z TI TO i1 i2 l1 l2 0 s.heap) (q1:ZSq b1 s.heap l1 xs) (q2:ZSq b2 s.heap l2 ys) (hS:s.heap.get? S=some { cls:=.type "list",data:=.seq #[] c₀ })
  (hR:∀ h' acc' c',(∀ b o,b∉S::[z,TI,TO,i1,i2]->s.heap.get? b=some o->h'.get? b=some o)->h'.get? S=some { cls:=.type "list",dict:=none,data:=.seq acc' c',slots:=#[] }->acc'.size=min xs.size ys.size ->
   ZAcc n0 (S::[z,TI,TO,i1,i2]) xs ys acc' h'->R (.ok (.ret res)) { s with heap:=h' }) :
  wpAny (model prog w) A.in1 (Builtin.List.listExtendWith (.ref S) (.ref z) res)
   (λXe s'=>match Xe with | .done f=>R (.ok f) s' | .again c'=>c'.quiet=true/\codeAny (model prog w) A c' R s') (λe s'=>R (.error e) s') s:=by
 have hSI:S≠z:=λe=>hSn (by simp[e])
 have hT:s.TypeIs (.ref z) "zip":=by obtain⟨_,_,e,_⟩:=WY.zp;exact⟨_,e,rfl⟩
 unfold Builtin.List.listExtendWith;refine ZZ (wpAny_typeOf hT ?_);have h1:Builtin.List.listSameRef (.ref S) (.ref z)=false:=by simp[Builtin.List.listSameRef,hSI]
 have h2:(Value.type "zip"==Value.type "list")=false:=by decide
 have h3:(Value.type "zip"==Value.type "tuple")=false:=by decide
 simp only[h1,h2,h3,Bool.or_false,u4,if_false];refine ZZ (EX WY ?_);refine ZZ (Zx ?_);unfold Builtin.List.listLengthHint;refine ZZ (Zo hT uE ?_);show wpAny _ A.in1 (specialOf (Value.ref z) (Str.ofString "__length_hint__") >>= _) _ _ _;refine ZZ (Zo hT uz ?_);refine wpAny_pure ?_;show wpAny _ A.in1 (rule "list.extend.makes-room" >>= λ_=>Builtin.List.listTouch (.ref S) >>= λ_ =>
  again (.builtin "list.extend.loop" ⟨[.ref S,.ref z,res],[]⟩)) _ _ _
 refine ZZ (YB ?_);refine ZZ ?_;show wpAny _ A.in1 (updateSeq S (·.push .none) >>= λ_=>updateSeq S (·.pop)) _ _ _
 refine ZZ (Zi hS rfl ?_);have hS₂:=t0 (Obj.mapSeq (·.push Value.none)) hS rfl
 refine Zi (hz:=by seq_fits) hS₂ rfl ?_
 have hS₃:=t0 (Obj.mapSeq (·.pop)) hS₂ rfl
 have oth:∀b o,b≠S->s.heap.get? b=some o->((s.heap.update S (Obj.mapSeq (·.push Value.none))).update S (Obj.mapSeq (·.pop))).get? b=some o :=
  λb o hb e=>(v9 _ _ (YN hb)).trans ((v9 _ _ (YN hb)).trans e)
 have hz:((s.heap.update S (Obj.mapSeq (·.push Value.none))).update S (Obj.mapSeq (·.pop))).objs.size=s.heap.objs.size:=by rw[(Z1 ..).1,(Z1 ..).1]
 refine wpAny_pure ⟨Zc Yb _,Rl hh D hSn hl1 hl2 hn res _ 0 _ _ _ rfl (Us _) (by rw[hz];exact h0) (WY.keep λb hb o e=>oth b o (λq=>hSn (q ▸ hb)) e)
  (q1.at λo e=>oth _ o (λq=>hl1 (by simp[q])) e) (q2.at λo e=>oth _ o (λq=>hl2 (by simp[q])) e) hS₃ (by simp) ⟨λj v e=>by simp at e,λj j' v e=>by simp at e⟩ λh' acc' c' k e1 e2 e3=>hR h' acc' c' (λb o hb e=>k b o hb (oth b o (λq=>hb (by simp[q])) e)) e1 e2 e3⟩
def P6{TI TO:Addr} (hh:A.handled=none) (D:ZipApart z TI TO i1 i2 l1 l2) (hn:min xs.size ys.size<=sizeLine)
  (n1:l1∉[z,TI,TO,i1,i2]) (n2:l2∉[z,TI,TO,i1,i2])
  (h0:n0<=s.heap.objs.size) (WY:ZSt b1 b2 z TI TO i1 i2 l1 l2 0 s.heap) (q1:ZSq b1 s.heap l1 xs) (q2:ZSq b2 s.heap l2 ys)
  (hQ:∀ h' acc' c',(∀ b o,b∉[z,TI,TO,i1,i2]->s.heap.get? b=some o->h'.get? b=some o)->h'.get? s.heap.objs.size=some { cls:=.type "list",dict:=none,data:=.seq acc' c',slots:=#[] }->acc'.size=min xs.size ys.size ->
   ZAcc n0 (s.heap.objs.size::[z,TI,TO,i1,i2]) xs ys acc' h'->Q (.ref s.heap.objs.size) { s with heap:=h' }) :
  wpAny (model prog w) A (call (.type "list") [.ref z]) Q E s:=by
 have lts:∀b∈[z,TI,TO,i1,i2],b<s.heap.objs.size:=λb hb=>by
  simp only[y0,u0,or_false] at hb;rcases hb with rfl|rfl|rfl|rfl|rfl
  ·obtain⟨_,_,e,_⟩:=WY.zp;exact z8 e
  ·exact z8 WY.ti
  ·obtain⟨_,_,e⟩:=WY.to;exact z8 e
  ·exact WY.a.lt
  ·exact WY.b.lt
 have hSn:s.heap.objs.size∉[z,TI,TO,i1,i2]:=λhm=>t6 _ (lts _ hm)
 have m1:l1∉s.heap.objs.size::[z,TI,TO,i1,i2]:=λhm=>by
  rcases y0.mp hm with e|e
  ·exact absurd (e ▸ q1.lt) (t6 _)
  ·exact n1 e
 have m2:l2∉s.heap.objs.size::[z,TI,TO,i1,i2]:=λhm=>by
  rcases y0.mp hm with e|e
  ·exact absurd (e ▸ q2.lt) (t6 _)
  ·exact n2 e
 refine callType_codes (Q₁:=λobj s₁=>obj=.ref s.heap.objs.size/\s₁={ s with heap:=s.heap.push { cls:=.type "list",data:=.seq #[] } }) F.called_list (F.typeCall_list_1 _) F.entry_list_init
  (code_list_new _ ⟨rfl,rfl⟩) λobj s₁ h₁=>?_
 obtain⟨rfl,rfl⟩:=h₁;have hS:(s.heap.push { cls:=.type "list",data:=.seq #[] }).get? s.heap.objs.size=some { cls:=.type "list",data:=.seq #[] }:=z7 _ rfl;refine⟨⟨_,hS,rfl⟩,F.args_list_init_2 _ _,?_⟩;show wpAny _ _ (do let old <- Builtin.List.listItems (.ref s.heap.objs.size);Builtin.List.listUpdate (.ref s.heap.objs.size) (λ_=>#[]);letGo old.toList.reverse;Builtin.List.listExtendWith (.ref s.heap.objs.size) (.ref z) .none) _ _ _
 refine ZZ ?_;unfold Builtin.List.listItems;refine ZZ (ZB hS rfl (wpAny_pure ?_));show wpAny _ _ (updateSeq s.heap.objs.size (λ_=>#[]) >>= λ_=>letGo (#[]:Array Value).toList.reverse >>= λ_=>Builtin.List.listExtendWith (.ref s.heap.objs.size) (.ref z) .none) _ _ _
 refine ZZ (Zi hS rfl ?_);have hS₂:=t0 (Obj.mapSeq (λ_=>(#[]:Array Value))) hS rfl
 have oth:∀b o,s.heap.get? b=some o->((s.heap.push { cls:=.type "list",data:=.seq #[] }).update s.heap.objs.size (Obj.mapSeq (λ_=>(#[]:Array Value)))).get? b=some o :=
  λb o e=>(v9 _ _ (Yz (z8 e))).trans (z0 _ e)
 refine ZZ (Xv ?_);have hz:((s.heap.push { cls:=.type "list",data:=.seq #[] }).update s.heap.objs.size (Obj.mapSeq (λ_=>(#[]:Array Value)))).objs.size=s.heap.objs.size+1:=by rw[(Z1 ..).1,ZJ]
 refine NO (A:=A.in1) hh D hSn m1 m2 hn (by rw[hz];exact Nat.le_succ_of_le h0) (WY.keep λb hb o e=>oth b o e) (q1.at λo e=>oth _ o e) (q2.at λo e=>oth _ o e) hS₂ λh' acc' c' k e1 e2 e3=>?_
 exact⟨rfl,hQ h' acc' c' (λb o hb e=>k b o (λhm=>by
  rcases y0.mp hm with q|q
  ·exact absurd (q ▸ z8 e) (t6 _)
  ·exact hb q) (oth b o e)) e1 e2 e3⟩
end
noncomputable def Rs (n:Nat) (T:Nat->Addr) (b:Addr):Option Nat:=(List.range n).find? λj=>T j==b
noncomputable def prs (H:Hp) (n:Nat) (T:Nat->Addr) (xs ys:List V):Hp:=λb=>match Rs n T b with
 | some j=>some (.tup [xs.getD j .non,ys.getD j .non])
 | none=>H b
section
variable {T:Nat->Addr}{b:Addr}{F:Hp}{xs ys:List V}
def Aa (h:Rs n T b=some j):j<n/\T j=b:=by
 unfold Rs at h;have h1:=List.find?_some h;have h2:=List.mem_of_find?_eq_some h;exact⟨NL.mp h2,by simpa using h1⟩
def K3 (h:∀j,j<n->T j≠b):Rs n T b=none:=by
 unfold Rs;rw[List.find?_eq_none];intro j hj;simpa using h j (NL.mp hj)
def Mh (inj:∀i j,i<n->j<n->T i=T j->i=j) (hj:j<n):Rs n T (T j)=some j:=by
 cases h:Rs n T (T j) with
 | none =>
  unfold Rs at h;rw[List.find?_eq_none] at h
  have:=h j (NL.mpr hj)
  simp at this
 | some i=>obtain⟨a,e⟩:=Aa h;rw[inj i j a hj e]
def K2 (h:∀j,j<n->H (T j)=none):Same H (prs H n T xs ys):=λb u e=>by
 unfold prs;rw[K3 λj hj q=>by rw[<- q,h j hj] at e;cases e]
 exact e
def MY (h:∀j,j<n->F (T j)=none) (e:Same F H):Same (prs F n T xs ys) (prs H n T xs ys):=λb u q=>by
 unfold prs at q |-
 cases hi:Rs n T b with
 | some j=>rw[hi] at q;exact q
 | none=>rw[hi] at q;exact e _ _ q
end
section
variable {S c:Nat}{T:Nat->Addr}{xs ys:List V}
abbrev vT (n:Nat) (T:Nat->Addr):List V:=(List.range n).map λj=>V.ref (T j)
theorem BM {T:Nat->Addr}:∀(l:List Nat),Vals (l.map λj=>V.ref (T j)) (l.map λj=>Value.ref (T j))
 | []=>.nil
 | _::l=>.cons rfl (BM l)
def Inv.pairs {S:Addr} (I:Inv X ZY σ H s) (kk:∀b o,s.heap.get? b=some o->h'.get? b=some o) (hS:s.heap.objs.size<=S) (hn:n<=sizeLine)
  (eS:h'.get? S=some { cls:=.type "list",dict:=none,data:=.seq ((List.range n).map λj=>Value.ref (T j)).toArray c,slots:=#[] })
  (hT:∀j,j<n->∃u v,RelV (xs.getD j .non) u/\RelV (ys.getD j .non) v/\IsPair h' (T j) u v/\s.heap.objs.size<=T j/\T j≠S) (inj:∀i j,i<n->j<n->T i=T j->i=j) :
  Inv X ZY σ (Zd (prs H n T xs ys) S (.lst (vT n T))) { s with heap:=h',toks:=t' }:=by
 have fS:H S=none:=I.hok.fresh hS;have fT:∀j,j<n->H (T j)=none:=λj hj=>by obtain⟨_,_,_,_,_,q,_⟩:=hT j hj;exact I.hok.fresh q
 have nS:prs H n T xs ys S=none:=by
  unfold prs;rw[K3 λj hj q=>by obtain⟨_,_,_,_,_,_,e⟩:=hT j hj;exact e q]
  exact fS
 refine I.grow (fp:=[]) (λb hb=>nomatch hb) (λb o _ e=>kk b o e) ((K2 fT).trans (W5 nS)) (λb o e nb=>?_) λb u nb e=>?_
 ·have lb:=z8 e
  rw[Xd (v6 (v5 lb hS))];unfold prs;rw[K3 λj hj q=>by obtain⟨_,_,_,_,_,l,_⟩:=hT j hj;rw[q] at l;exact absurd lb (Nat.not_lt.mpr l)]
  exact nb
 ·by_cases hb:b=S
  ·subst hb
   rw[WN] at e;cases e;exact⟨by rw[v0,HX];exact hn,_,c,BM _,eS⟩
  ·rw [Xd hb] at e
   unfold prs at e;cases hi:Rs n T b with
   | none=>rw[hi,nb] at e;cases e
   | some j =>
    rw[hi] at e;cases e;obtain⟨hj,rfl⟩:=Aa hi;obtain⟨u,v,r1,r2,pr,_⟩:=hT j hj;exact⟨by show 2<=sizeLine;decide,[u,v],.cons r1 (.cons r2 .nil),⟨_,pr,rfl,_,rfl⟩⟩
end
theorem Ot{F:Hp}{T:Nat->Addr}:∀(l:List Nat) (ds:List D),l.length=ds.length->(∀(i j:Nat) d,l[i]?=some j->ds[i]?=some d->Rp K F (.ref (T j)) d)->Rps K F (l.map λj=>V.ref (T j)) ds
 | [],[],_,_=>.nil
 | j::l,d::ds,hl,h=>.cons (h 0 j d rfl rfl) (Ot l ds (by simpa using hl) λi j d e1 e2=>h (i+1) j d (by simpa using e1) (by simpa using e2))
noncomputable def Rk:List D->Res OD:=λds=>(U3 ds).bind λr=>.ok (.l r)
section
variable {a b:Expr}
set_option tactic.hygienic true in
theorem BC (hc:X.calm=true) (hm:X.mg "list"=none) (hm2:X.mg "zip"=none) (ha:DA X xq [a,b] fa) (hg:autoParam (Gl X "list") aa._auto_1) (hg2:autoParam (Gl X "zip") aa._auto_1) :
  DN X xq (.Call (.Name "list" p) [.Call (.Name "zip" p2) [a,b] [] pos2] [] pos) (λρ=>(fa ρ).bind Rk):=⟨λZY s σ H Q I z9=>Xt z9 λB F ρ R q=>by
 refine Call_ (SU I hg hm (show bootBuiltins "list"=some (.type "list") by decide +kernel) (ZL ?_ rfl rfl))
 show wpAny _ _ (spliced ((false,eval (.Call (.Name "zip" p2) [a,b] [] pos2) X.env)::[])) _ _ s;refine Calls.spliced_cons ?_;refine Call_ (SU I hg2 hm2 (show bootBuiltins "zip"=some (.type "zip") by decide +kernel) (ZL (Z2 (ha.out pos2 ZY s σ H (λvs H1=>∃b1 b2 a1 a2 xs ys ds es F1,vs=[.ref a1,.ref a2]/\V0 b1 X.K H1 a1 xs/\V0 b2 X.K H1 a2 ys/\Rps X.K F1 xs ds/\Rps X.K F1 ys es/\Stp F H F1 H1 /\
   (∀a h F' H',Stp F H F' H'->F' a=none->H a=none->H' a=some h->Ro X.K F' a h (.l (Wi ds es))->Q (.ref a) H')) I (X2 R q λds vs F1 H1 s1 R1 p1 q1=>?_)) λus s1 ⟨vs,H1,I1,r1,q1⟩=>?_) (Vi (Wh ha.ns).1) (SO (Wh ha.ns).2)))
 ·unfold Rk U3 at q1
  split at q1
  ·rename_i d e
   obtain⟨v,w,rfl,pv,pw⟩:=TR p1;cases hx:Ya d with
   | none=>rw[hx] at q1;exact q1.elim
   | some x =>
    cases hy:Ya e with
    | none=>rw[hx,hy] at q1;exact q1.elim
    | some y =>
     rw[hx,hy] at q1;obtain⟨b1,a1,xs,rfl,g1,g1',t1⟩:=Ki pv hx;obtain⟨b2,a2,ys,rfl,g2,g2',t2⟩:=Ki pw hy;exact⟨b1,b2,a1,a2,xs,ys,x,y,F1,rfl,g1 _ R1.fh,g2 _ R1.fh,t1,t2,s1,q1⟩
  ·exact q1.elim
 ·obtain ⟨b1,b2,a1,a2,xs,ys,ds,es,F1,e,h1,h2,t1,t2,st1,q⟩:=q1
  subst e;obtain⟨u1,u2,rfl,ru1,ru2⟩:=vals2 r1;cases (show u1=Value.ref a1 from ru1)
  cases (show u2=Value.ref a2 from ru2)
  obtain⟨us,rv1,p1⟩:=I1.sqB h1;obtain⟨ws,rv2,p2⟩:=I1.sqB h2;refine Bq p1 p2 λhA zst kk=>Calls.spliced_nil ?_
  have D:=zipApart_new p1.lt p2.lt;have hh:X.A.handled=none:=I1.ok.hd hc;have l1:=rv1.length;have l2:=rv2.length;have z1:xs.length<=sizeLine:=by
   cases b1
   ·obtain⟨_,_,_,z⟩:=I1.list h1;exact z
   ·obtain⟨_,_,_,z⟩:=I1.tuple h1;exact z
  have hmin:min us.toArray.size ws.toArray.size<=sizeLine:=by simp only[w5];lia
  have lA:s1.heap.objs.size<=hA.objs.size:=by
   have:=z8 zst.ti
   exact Wz (RB (Zb _ _) this)
  have new:∀c∈[s1.heap.objs.size+4,s1.heap.objs.size+2,s1.heap.objs.size+3,s1.heap.objs.size,s1.heap.objs.size+1],s1.heap.objs.size<=c:=λc hc=>by
   simp only[y0,u0,or_false] at hc;rcases hc with rfl|rfl|rfl|rfl|rfl
   ·exact Zb _ _
   ·exact Zb _ _
   ·exact Zb _ _
   ·exact w4 _
   ·exact Zb _ _
  refine P6 (s:={ s1 with heap:=hA }) (n0:=s1.heap.objs.size) hh D hmin (λhm=>absurd p1.lt (Nat.not_lt.mpr (new _ hm))) (λhm=>absurd p2.lt (Nat.not_lt.mpr (new _ hm))) lA zst (p1.at λo e=>kk _ o e) (p2.at λo e=>kk _ o e) λh' Yt c kB eS esz ez=>?_
  let T:Nat->Addr:=λj=>match Yt[j]? with|some (.ref t)=>t|_=>0
  let n:=min us.length ws.length
  have hsz:Yt.size=n:=by rw[esz];simp only[w5];rfl
  have item:∀j,j<n->Yt[j]?=some (.ref (T j))/\∃x y,IsPair h' (T j) x y/\s1.heap.objs.size<=T j/\T j≠hA.objs.size/\us[j]?=some x/\ws[j]?=some y:=λj hj=>by
   have e:Yt[j]?=some (Yt[j]'(by lia)):=s9 (by lia)
   obtain⟨t,x,y,e1,e2,e3,e4,e5,e6⟩:=ez.1 j _ e;have et:T j=t:=by show(match Yt[j]? with|some (.ref t)=>t|_=>0)=t;rw[e,e1]
   rw[et];exact⟨by rw[e,e1],x,y,e2,e3,λq=>e4 (by rw[q];exact z6),by simpa using e5,by simpa using e6⟩
  have inj:∀i j,i<n->j<n->T i=T j->i=j:=λi j hi hj e=>ez.2 i j _ (item i hi).1 (by rw[e];exact(item j hj).1)
  have eacc:Yt=((List.range n).map λj=>Value.ref (T j)).toArray:=by
   apply Array.ext_getElem?;intro j;by_cases hj:j<n
   ·rw[(item j hj).1];simp[hj]
   ·rw[FS (by lia)];simp[hj]
  rw[eacc] at eS;have fT:∀j,j<n->H1 (T j)=none:=λj hj=>by obtain⟨_,_,_,_,q,_⟩:=item j hj;exact I1.hok.fresh q
  have fT1:∀j,j<n->F1 (T j)=none:=λj hj=>st1.fh.free (fT j hj)
  have fS:H1 hA.objs.size=none:=I1.hok.fresh lA;have prS:∀(G:Hp),G hA.objs.size=none->prs G n T xs ys hA.objs.size=none:=λG g=>by
   unfold prs;rw[K3 λj hj q=>by obtain⟨_,_,_,_,_,e,_⟩:=item j hj;exact e q]
   exact g
  have I2:=I1.pairs (t':=s1.toks) (S:=hA.objs.size) (n:=n) (T:=T) (xs:=xs) (ys:=ys) (c:=c) (λb o e=>kB b o (λhm=>absurd (z8 e) (Nat.not_lt.mpr (new _ hm))) (kk b o e)) lA (by show min us.length ws.length<=_;lia) eS (λj hj=>by
   obtain⟨_,x,y,e2,e3,e4,e5,e6⟩:=item j hj;have hx:xs[j]?=some (xs.getD j .non):=by
    rw[List.getD_eq_getElem?_getD,y9 (show j<xs.length from by have:j<min us.length ws.length:=hj;lia)];rfl
   have hy:ys[j]?=some (ys.getD j .non):=by
    rw[List.getD_eq_getElem?_getD,y9 (show j<ys.length from by have:j<min us.length ws.length:=hj;lia)];rfl
   obtain⟨u,hu,ru⟩:=rv1.get hx;obtain⟨v,hv,rv⟩:=rv2.get hy;rw[e5] at hu;cases hu;rw[e6] at hv;cases hv;exact⟨x,y,ru,rv,e2,e3,e4⟩) inj
  have ssame:Same (prs F1 n T xs ys) (Zd (prs H1 n T xs ys) hA.objs.size (.lst (vT n T))):=(MY fT1 st1.fh).trans (W5 (prS H1 fS));refine⟨.ref hA.objs.size,_,I2,rfl,q _ (.lst (vT n T)) (prs F1 n T xs ys) _ (st1.trans ⟨K2 fT1,ssame,(K2 fT).trans (W5 (prS H1 fS)),λb f1 hb=>?_,λb x u q=>by
   unfold prs at q;split at q
   ·cases q
   ·exact q⟩) (prS F1 (st1.fh.free fS)) (st1.hh.free fS) WN (.l (Ot _ _ ?_ λi j d e1 e2=>?_))⟩
  ·unfold prs
   rw[K3 λj hj e=>hb (by rw[<- e];exact fT j hj)]
   exact f1
  ·have:=t1.length
   have:=t2.length
   unfold Wi;rw[HX,v0,List.length_zip];show min us.length ws.length=_;lia
  ·have hi:i<n/\j=i:=by
    have l:=(x0.mp e1).1;rw[HX] at l;rw[List.getElem?_range l] at e1;exact⟨l,(ZS e1).symm⟩
   obtain⟨hi,rfl⟩:=hi;unfold Wi at e2;rw[w6,Option.map_eq_some_iff] at e2;obtain⟨⟨d1,d2⟩,hz,rfl⟩:=e2;rw[List.getElem?_zip_eq_some] at hz;obtain⟨x,hx,px⟩:=t1.get hz.1;obtain⟨y,hy,py⟩:=t2.get hz.2;have e3:prs F1 n T xs ys (T j)=some (.tup [x,y]):=by
    unfold prs;rw[Mh inj hi];simp only[List.getD_eq_getElem?_getD,hx,hy,Option.getD_some]
   exact .tup (.inl (.inl e3)) (.cons (px.same (K2 fT1)) (.cons (py.same (K2 fT1)) .nil))⟩
end
section
variable {R:Result->Shared->Prop}
variable {fp wr:List Addr}{G:Array GenState->Array GenState->Prop}{P:Nat->Value->Prop}{St:Nat->Shared->Prop}{T:String}
def NQ (prog:Program) (w:World) (A:Around) (I:Addr) (St:Nat->Shared->Prop):Prop:=∀(s:Shared) (Q:Bool->Shared->Prop) (E:VP),St 0 s->(∀b tk,s.toks<=tk->Q b { s with toks:=tk })->wpAny (model prog w) A (Builtin.List.listLengthHint (.ref I)) Q E s
def M3 (W:WalksS prog w A.in1 I fp wr G n P St) (hH:NQ prog w A.in1 I St) (hT:∀i s,St i s->s.TypeIs (.ref I) T) (n1:(Value.type T==Value.type "list")=false) (n2:(Value.type T==Value.type "tuple")=false) (S:Addr) (res:Value) (c₀:Nat) (WY:St 0 s) (hSf:S∉fp) (hI:I∈fp)
  (hS:s.heap.get? S=some { cls:=.type "list",data:=.seq #[] c₀ }) (hn:n<=sizeLine)
  (hR:∀s' acc' c',Moved (S::wr) G s s'->s'.heap.get? S=some { cls:=.type "list",dict:=none,data:=.seq acc' c',slots:=#[] }->ItemsOf P acc' n->R (.ok (.ret res)) s') :
  wpAny (model prog w) A.in1 (Builtin.List.listExtendWith (.ref S) (.ref I) res)
   (λXe s'=>match Xe with | .done f=>R (.ok f) s' | .again c'=>c'.quiet=true/\codeAny (model prog w) A c' R s') (λe s'=>R (.error e) s') s:=by
 have hSI:S≠I:=λe=>hSf (e ▸ hI)
 unfold Builtin.List.listExtendWith;refine ZZ (wpAny_typeOf (hT 0 _ WY) ?_);have h1:Builtin.List.listSameRef (.ref S) (.ref I)=false:=by simp[Builtin.List.listSameRef,hSI]
 simp only[h1,n1,n2,Bool.or_false,u4,if_false];refine ZZ (W.self 0 _ _ _ WY ?_);refine ZZ (Zx (hH s _ _ WY λb tk htk=>?_))
 have hst2:St 0 { s with toks:=tk }:=W.frame 0 s s.heap tk WY htk λb _ o e=>e
 have m0:Moved (S::wr) G s { s with toks:=tk }:=(Moved.refl W.grefl).then_heap htk λb o _ e=>e
 split
 ·refine ZZ (YB ?_)
  refine ZZ ?_;show wpAny _ A.in1 (updateSeq S (·.push .none) >>= λ_=>updateSeq S (·.pop)) _ _ _
  refine ZZ (Zi hS rfl ?_);have hS₂:=t0 (Obj.mapSeq (·.push Value.none)) hS rfl
  refine Zi (hz:=by seq_fits) hS₂ rfl ?_
  have hS₃:=t0 (Obj.mapSeq (·.pop)) hS₂ rfl
  have oth:∀b o,b≠S->s.heap.get? b=some o->((s.heap.update S (Obj.mapSeq (·.push Value.none))).update S (Obj.mapSeq (·.pop))).get? b=some o :=
   λb o hb e=>(v9 _ _ (YN hb)).trans ((v9 _ _ (YN hb)).trans e)
  refine wpAny_pure ⟨Zc Yb _,codeAny_extend_loopS W hn _ hSf _ n 0 _ _ _ rfl (Us _)
   (W.frame 0 s _ tk WY htk λb hb o e=>oth b o (λh=>hSf (h ▸ hb)) e) hS₃ (ItemsOf.nil P) λs' acc' c' hm hS' X4=>?_⟩
  exact hR s' acc' c' (Moved.trans W.gtrans ((Moved.refl W.grefl).then_heap htk λb o hb e=>oth b o (λh=>hb (h ▸ z6)) e) hm) hS' X4
 ·exact wpAny_pure ⟨Zc Yb _,codeAny_extend_loopS W hn _ hSf _ n 0 _ _ _ rfl (Us _) hst2 hS (ItemsOf.nil P) λs' acc' c' hm hS' X4=>hR s' acc' c' (Moved.trans W.gtrans m0 hm) hS' X4⟩
def yR(W:WalksS prog w A.in1.in1 I fp wr G n P St) (hH:NQ prog w A.in1.in1 I St) (hT:∀i s,St i s->s.TypeIs (.ref I) T) (n1:(Value.type T==Value.type "list")=false) (n2:(Value.type T==Value.type "tuple")=false) (WY:St 0 s) (hfp:∀b∈fp,b<s.heap.objs.size) (hI:I∈fp) (hn:n<=sizeLine)
  (hQ:∀ s' acc' c',Moved (s.heap.objs.size::wr) G { s with heap:=s.heap.push { cls:=.type "list",data:=.seq #[] } } s' ->
   s'.heap.get? s.heap.objs.size=some { cls:=.type "list",dict:=none,data:=.seq acc' c',slots:=#[] }->ItemsOf P acc' n->Q (.ref s.heap.objs.size) s') :
  wpAny (model prog w) A (call (.type "list") [.ref I]) Q E s:=by
 have hSf:s.heap.objs.size∉fp:=λhm=>t6 _ (hfp _ hm)
 refine callType_codes (Q₁:=λobj s₁=>obj=.ref s.heap.objs.size/\s₁={ s with heap:=s.heap.push { cls:=.type "list",data:=.seq #[] } }) F.called_list (F.typeCall_list_1 _) F.entry_list_init
  (code_list_new _ ⟨rfl,rfl⟩) λobj s₁ h₁=>?_
 obtain⟨rfl,rfl⟩:=h₁;have hS:(s.heap.push { cls:=.type "list",data:=.seq #[] }).get? s.heap.objs.size=some { cls:=.type "list",data:=.seq #[] }:=z7 _ rfl;have st1:=W.frame 0 s _ s.toks WY (w4 _) λb _ o e=>z0 { cls:=.type "list",data:=.seq #[] } e
 refine⟨⟨_,hS,rfl⟩,F.args_list_init_2 _ _,?_⟩;show wpAny _ A.in1.in1 (do let old <- Builtin.List.listItems (.ref s.heap.objs.size);Builtin.List.listUpdate (.ref s.heap.objs.size) (λ_=>#[]);letGo old.toList.reverse;Builtin.List.listExtendWith (.ref s.heap.objs.size) (.ref I) .none) _ _ _
 refine ZZ ?_;unfold Builtin.List.listItems;refine ZZ (ZB hS rfl (wpAny_pure ?_));show wpAny _ A.in1.in1 (updateSeq s.heap.objs.size (λ_=>#[]) >>= λ_=>letGo (#[]:Array Value).toList.reverse >>= λ_=>Builtin.List.listExtendWith (.ref s.heap.objs.size) (.ref I) .none) _ _ _
 refine ZZ (Zi hS rfl ?_);have hS₂:=t0 (Obj.mapSeq (λ_=>(#[]:Array Value))) hS rfl
 have oth:∀b o,b≠s.heap.objs.size->(s.heap.push { cls:=.type "list",data:=.seq #[] }).get? b=some o->((s.heap.push { cls:=.type "list",data:=.seq #[] }).update s.heap.objs.size (Obj.mapSeq (λ_=>(#[]:Array Value)))).get? b=some o :=
  λb o hb e=>(v9 _ _ (YN hb)).trans e
 refine ZZ (Xv ?_);refine M3 W hH hT n1 n2 _ .none _ (W.frame 0 _ _ _ st1 (w4 _) λb hb o e=>oth b o (λh=>hSf (h ▸ hb)) e) hSf hI hS₂ hn λs' acc' c' hm hS' X4=>?_
 exact⟨rfl,hQ s' acc' c' (Moved.trans W.gtrans ((Moved.refl W.grefl).then_heap (w4 _) λb o hb e=>oth b o (λh=>hb (h ▸ z6)) e) hm) hS' X4⟩
end
def xy:typeLookup (.type "reversed") "__len__"=pure none:=by rw[Zh,ZM];kernel_rfl
def ET:Slot "reversed" "__length_hint__" "reversed.__length_hint__":=.of (owner:="reversed") (n:="__length_hint__") (by rw[Zh,ZM];kernel_rfl) (by decide +kernel) (by decide +kernel) (by decide +kernel) (by first|exact .inl (by decide +kernel)|exact .inr (by decide +kernel)) (by rw[YQ];kernel_rfl)
def xA:entryFor table "reversed.__length_hint__"=some Builtin.«reversed.__length_hint__»:=entryFor_of_tree (by kernel_rfl)
def xC (a:Value):argsOk "reversed.__length_hint__" ⟨[a],[]⟩:=by
 unfold argsOk;rw[signature?_of (id:="reversed.__length_hint__") (n:=['_','_','t','n','i','h','_','h','t','g','n','e','l','_','_']) (o:=['d','e','s','r','e','v','e','r']) (by kernel_rfl) Fx];kernel_rfl
def wL:splitId "reversed.__length_hint__"=some ("reversed","__length_hint__"):=by decide +kernel
theorem wt (hh:A.handled=none) (I l:Addr) (hne:l≠I) (items:Array Value) (hz:(items.size:Int)<2^63) :
  Walks P w A I [I,l] [I] items.size (λi v=>items[items.size - 1 - i]?=some v) (λi h=>i<=items.size/\IsRv h I l ((items.size:Int) - 1 - (i:Int))/\h.IsTuple l items) where
 sub:=λb hb=>by simp at hb;simp[hb]
 frame:=λ_ _ _ x hk=>⟨x.1,hk I (by simp) _ x.2.1,x.2.2.at λo e=>hk l (by simp) o e⟩
 item:=λi s Q E hi x hQ=>by
  have e:(items.size:Int) - 1 - (i:Int)=((items.size - 1 - i:Nat):Int):=by lia
  have hit:=x.2.1;rw[e] at hit;have hx:items[items.size - 1 - i]?=some (items[items.size - 1 - i]'(by lia)):=s9 (by lia)
  refine Jg hit x.2.2 hz hx λh' t hit' hs'=>?_
  have e2:((items.size - 1 - i:Nat):Int) - 1=(items.size:Int) - 1 - ((i+1:Nat):Int):=by lia
  rw[e2] at hit';exact hQ _ h' t hx ⟨hi,hit',x.2.2.at λo eo=>(hs'.2 l hne).trans eo⟩ λb o hb eo=>hs'.extBut b o (λh=>hb (by simp[h])) eo
 done:=λs Q E x hQ=>by
  have e:(items.size:Int) - 1 - (items.size:Int)=-1:=by lia
  have hit:=x.2.1;rw[e] at hit;exact wk hh hit λh' he'=>hQ h' s.toks λb o hb eo=>he' b o (λh=>hb (by simp[h])) eo
 self:=λ_ _ _ _ x hQ=>J3 x.2.1 hQ
theorem PF{items:Array Value}{Q:Bool->Shared->Prop} (hz:items.size<=sizeLine) (hI:IsRv s.heap I l ((items.size:Int) - 1)) (hl:s.heap.IsTuple l items) (h:∀b tk,s.toks<=tk->Q b { s with toks:=tk }) :
  wpAny (model P w) A (Builtin.List.listLengthHint (.ref I)) Q E s:=by
 unfold Builtin.List.listLengthHint;refine ZZ (Zo hI.ty xy ?_);dsimp only;rw[if_neg (by decide)]
 rw[if_neg (by decide)]
 refine ZZ (Zo hI.ty ET.lookup ?_);dsimp only;rw[wL];dsimp only;refine ZZ (YY (T:="reversed") (b:=true) hI.ty F.sub_reversed_self ?_);rw[if_neg (by decide)]
 rw[if_neg (by decide +kernel)]
 refine ZZ (YB ?_);refine ZZ (Z9 (ET.bind (.ref I)) ?_);refine ZZ (YF (ZQ ET hI.ty xA ?_ (xC _)));unfold Builtin.«reversed.__length_hint__»;have hzi:(items.size:Int)<2^63:=Int.lt_of_le_of_lt (Int.ofNat_le.mpr hz) (by decide +kernel)
 refine ZZ (Z9 (a:=Value.ref I) rfl ?_);refine ZZ (Zw hI rfl (x:=.ref l) rfl ?_);rw[if_neg (by simp)]
 refine ZZ (len_tuple (show IsTup s.heap l items from hl) hzi (ZZ (Z9 (a:=some (items.size:Int)) rfl ?_)))
 dsimp only;refine ZZ (Zw hI rfl (x:=rawInt ((items.size:Int) - 1)) rfl ?_);show wpAny _ _ (if (items.size:Int)<(items.size:Int) - 1+1 then _ else _) _ _ _
 rw[if_neg (by lia)]
 have e:(items.size:Int) - 1+1=(items.size:Int):=by lia
 rw[e];refine wpAny_ret_mkInt ?_;dsimp only;generalize hN:(items.size:Int)=N at hzi |-
 have ea:∀(k:Int) (t:Tok),asInt? (.int k t)=pure (some k):=λ_ _=>rfl
 rw[ea,pure_bind];dsimp only;have f1:Builtin.List.listFitsIndex N=true:=fitsIndex_both (Int.le_trans (by decide +kernel) (hN ▸ Int.natCast_nonneg _)) hzi
 rw[f1,if_neg (by decide),if_neg (by lia),<- hN,Int.toNat_natCast,Uh hz,if_neg (by decide)]
 refine wpAny_pure ?_;generalize ((items.size:Int) != 0)=bb;exact h bb _ (by lia)
def wY:typeLookup (.type "list_reverseiterator") "__len__"=pure none:=by rw[Zh,ZM];kernel_rfl
def PR:Slot "list_reverseiterator" "__length_hint__" "list_reverseiterator.__length_hint__":=.of (owner:="list_reverseiterator") (n:="__length_hint__") (by rw[Zh,ZM];kernel_rfl) (by decide +kernel) (by decide +kernel) (by decide +kernel) (by first|exact .inl (by decide +kernel)|exact .inr (by decide +kernel)) (by rw[YQ];kernel_rfl)
def wX:splitId "list_reverseiterator.__length_hint__"=some ("list_reverseiterator","__length_hint__"):=by decide +kernel
def Ni:isSubtype (.type "list_reverseiterator") (.type "list_reverseiterator")=pure true:=by rw[YQ];kernel_rfl
def PD{Q:Bool->Shared->Prop} (hT:s.TypeIs (.ref I) "list_reverseiterator") (h:Q false s) :
  wpAny (model P w) A (Builtin.List.listLengthHint (.ref I)) Q E s:=by
 unfold Builtin.List.listLengthHint;refine ZZ (Zo hT wY ?_);dsimp only;rw[if_neg (by decide)]
 rw[if_neg (by decide)]
 refine ZZ (Zo hT PR.lookup ?_);dsimp only;rw[wX];dsimp only;refine ZZ (YY (T:="list_reverseiterator") (b:=true) hT Ni ?_);rw[if_neg (by decide)]
 rw[if_pos (by decide +kernel)]
 rw[if_neg (by decide +kernel)]
 exact wpAny_pure h
theorem QE(h:ItemsOf (λi v=>us.toArray[us.toArray.size - 1 - i]?=some v) Yt us.toArray.size):Yt=us.reverse.toArray:=by
 apply Array.ext_getElem?;intro j;by_cases hj:j<Yt.size
 ·have e:Yt[j]?=some (Yt[j]'hj):=s9 hj
  have q:=h.2 j _ e;have hs:Yt.size=us.length:=by have:=h.1;simpa using this
  rw[w5] at q;rw[e,<- q];simp;rw[List.getElem?_reverse (by lia)]
 ·have hs:Yt.size=us.length:=by have:=h.1;simpa using this
  rw[FS (by lia)]
  simp;lia
theorem xa(hh:A.handled=none) (hz:us.length<=sizeLine) (hl:ZSq b s.heap l us.toArray)
  (hQ:∀h' c tk,(∀b o,s.heap.get? b=some o->h'.get? b=some o)->h'.get? (s.heap.objs.size+1)=some { cls:=.type "list",dict:=none,data:=.seq us.reverse.toArray c,slots:=#[] }->Q (.ref (s.heap.objs.size+1)) { s with heap:=h',toks:=tk }) :
  wpAny (model P w) A (call (.type "reversed") [.ref l]) (λv s2=>wpAny (model P w) A (call (.type "list") [v]) Q E s2) E s:=by
 have hzi:(us.toArray.size:Int)<2^63:=by rw[w5];exact Int.lt_of_le_of_lt (Int.ofNat_le.mpr hz) (by decide +kernel)
 have hz2:us.toArray.size<=sizeLine:=by rw[w5];exact hz
 have lt:=hl.lt;have ne:l≠s.heap.objs.size:=v6 lt;have e0:(us.toArray.size:Int) - 1 - ((0:Nat):Int)=(us.toArray.size:Int) - 1:=by lia
 have Xe:∀(O:Obj) (t:Nat) (s':Shared) (Yt:Array Value) (c:Nat),Moved ((s.heap.push O).objs.size::[s.heap.objs.size]) (λa b=>b=a) { s with heap:=(s.heap.push O).push { cls:=.type "list",data:=.seq #[] },toks:=t } s' ->
   s'.heap.get? (s.heap.push O).objs.size=some { cls:=.type "list",dict:=none,data:=.seq Yt c,slots:=#[] }->ItemsOf (λi v=>us.toArray[us.toArray.size - 1 - i]?=some v) Yt us.toArray.size->Q (.ref (s.heap.push O).objs.size) s':=by
  intro O t s' Yt c hm hS X4;obtain⟨h',g',d',tk',os'⟩:=s';have eg:g'=s.gens:=hm.gens;have ed:d'=s.drawn:=hm.drawn;have eo:os'=s.os:=hm.os;subst eg ed eo;have ez:(s.heap.push O).objs.size=s.heap.objs.size+1:=ZJ ..;rw[QE X4] at hS;rw[ez] at hS hm |-
  refine hQ h' c tk' (λb o e=>hm.heap b o (λhb=>?_) (z0 _ (z0 _ e))) hS
  have:=z8 e
  simp only[y0,u0,or_false] at hb;rcases hb with rfl|rfl
  ·exact absurd this (Nat.not_lt.mpr (Yx _))
  ·exact absurd this (t6 _)
 cases b
 ·have hl:s.heap.IsList l us.toArray:=hl
  refine call_reversed_list hl ?_;have st0:(0:Nat)<=us.toArray.size/\(s.heap.push (revObj l ((us.toArray.size:Int) - 1))).IsRevIter s.heap.objs.size l ((us.toArray.size:Int) - 1 - ((0:Nat):Int))/\(s.heap.push (revObj l ((us.toArray.size:Int) - 1))).IsList l us.toArray :=
   ⟨Us _,⟨_,z7 _ rfl,rfl,by rw[e0];rfl⟩,hl.at λo e=>z0 _ e⟩
  refine yR (T:="list_reverseiterator") ((Walks.listRev (show A.in1.in1.handled=none by simp[hh]) s.heap.objs.size l ne us.toArray).toS) (λs' Q' E' st h=>PD st.2.1.typeIs (h false s'.toks (w4 _))) (λi s' st=>st.2.1.typeIs) (by decide) (by decide) st0 ?_ (by simp) hz2 λs' Yt c hm hS X4=>Xe _ _ s' Yt c hm hS X4
  intro b hb;simp only[y0,u0,or_false] at hb;rcases hb with rfl|rfl
  ·exact z8 (z7 _ rfl)
  ·exact v5 lt (by show _<=(s.heap.push _).objs.size;rw[ZJ];exact Yx _)
 ·have hl:s.heap.IsTuple l us.toArray:=hl
  refine P5 hl hzi λt=>?_
  have st0:(0:Nat)<=us.toArray.size/\IsRv (s.heap.push (KW l ((us.toArray.size:Int) - 1))) s.heap.objs.size l ((us.toArray.size:Int) - 1 - ((0:Nat):Int))/\(s.heap.push (KW l ((us.toArray.size:Int) - 1))).IsTuple l us.toArray :=
   ⟨Us _,by rw[e0];exact z7 _ rfl,hl.at λo e=>z0 _ e⟩
  refine yR (T:="reversed") ((wt (show A.in1.in1.handled=none by simp[hh]) s.heap.objs.size l ne us.toArray hzi).toS) (λs' Q' E' st h=>PF hz2 (by rw[<- e0];exact st.2.1) st.2.2 h) (λi s' st=>st.2.1.ty) (by decide) (by decide) st0 ?_ (by simp) hz2 λs' Yt c hm hS X4=>Xe _ _ s' Yt c hm hS X4
  intro b hb;simp only[y0,u0,or_false] at hb;rcases hb with rfl|rfl
  ·exact z8 (z7 _ rfl)
  ·exact v5 lt (by show _<=(s.heap.push _).objs.size;rw[ZJ];exact Yx _)
noncomputable def QD:List D->Res OD
 | [d]=>match Ya d with
  | some x=>.ok (.l x.reverse)
  | none=>.bad
 | _=>.bad
def Vals.rev{xs:List V} (h:Vals xs us):Vals xs.reverse us.reverse:=by
 induction h with
 | nil=>exact .nil
 | cons a b ih =>
  rw[Wa,Wa];exact ih.append (.cons a .nil)
theorem Rps.rev{F:Hp}:∀{xs:List V}{ds:List D},Rps K F xs ds->Rps K F xs.reverse ds.reverse
 | _,_,.nil=>.nil
 | _,_,.cons a b=>by
  rw[Wa,Wa];exact rps_appR (Rps.rev b) (.cons a .nil)
where rps_appR {K:W.Frag}{F:Hp}:∀{xs ys:List V}{ds es:List D},Rps K F xs ds->Rps K F ys es->Rps K F (xs++ys) (ds++es)
 | _,_,_,_,.nil,h=>h
 | _,_,_,_,.cons a b,h=>.cons a (rps_appR b h)
section
variable {a:Expr}
set_option tactic.hygienic true in
theorem BD (hc:X.calm=true) (hm:X.mg "list"=none) (hm2:X.mg "reversed"=none) (ha:DA X xq [a] fa) (hg:autoParam (Gl X "list") aa._auto_1) (hg2:autoParam (Gl X "reversed") aa._auto_1) :
  DN X xq (.Call (.Name "list" p) [.Call (.Name "reversed" p2) [a] [] pos2] [] pos) (λρ=>(fa ρ).bind QD):=⟨λZY s σ H Q I z9=>Xt z9 λB F ρ R q=>by
 refine Call_ (SU I hg hm (show bootBuiltins "list"=some (.type "list") by decide +kernel) (ZL ?_ rfl rfl))
 show wpAny _ _ (spliced ((false,eval (.Call (.Name "reversed" p2) [a] [] pos2) X.env)::[])) _ _ s;refine Calls.spliced_cons ?_;refine Call_ (SU I hg2 hm2 (show bootBuiltins "reversed"=some (.type "reversed") by decide +kernel) (ZL (Z2 (ha.out pos2 ZY s σ H (λvs H1=>∃b1 a1 xs ds F1,vs=[.ref a1]/\V0 b1 X.K H1 a1 xs/\Rps X.K F1 xs ds/\Stp F H F1 H1 /\
   (∀a h F' H',Stp F H F' H'->F' a=none->H a=none->H' a=some h->Ro X.K F' a h (.l ds.reverse)->Q (.ref a) H')) I (X2 R q λds vs F1 H1 s1 R1 p1 q1=>?_)) λus s1 ⟨vs,H1,I1,r1,q1⟩=>?_) (Vi (Wh ha.ns).1) (SO (Wh ha.ns).2)))
 ·unfold QD at q1
  split at q1
  ·rename_i d
   obtain⟨v,rfl,pv⟩:=Wm p1;cases hx:Ya d with
   | none=>rw[hx] at q1;exact q1.elim
   | some x =>
    rw[hx] at q1;obtain⟨b1,a1,xs,rfl,g1,g1',t1⟩:=Ki pv hx;exact⟨b1,a1,xs,x,F1,rfl,g1 _ R1.fh,t1,s1,q1⟩
  ·exact q1.elim
 ·obtain ⟨b1,a1,xs,ds,F1,e,h1,t1,st1,q⟩:=q1
  subst e;obtain⟨u1,rfl,ru1⟩:=vals1 r1;cases (show u1=Value.ref a1 from ru1)
  obtain⟨us,rv1,p1⟩:=I1.sqB h1;have hh:X.A.handled=none:=I1.ok.hd hc;have l1:=rv1.length;have z1:xs.length<=sizeLine:=by
   cases b1
   ·obtain⟨_,_,_,z⟩:=I1.list h1;exact z
   ·obtain⟨_,_,_,z⟩:=I1.tuple h1;exact z
  refine Z2 (xa hh (by lia) p1 λh' c tk kk eS=>?_) λv s2 h2=>Calls.spliced_nil h2
  have lA:s1.heap.objs.size<=s1.heap.objs.size+1:=Yx _;have fS:H1 (s1.heap.objs.size+1)=none:=I1.hok.fresh lA;have I2:=I1.laid (t':=tk) (a:=s1.heap.objs.size+1) (o:=.lst xs.reverse) kk lA ⟨by rw[List.length_reverse];exact z1,us.reverse,c,rv1.rev,eS⟩
  exact⟨.ref (s1.heap.objs.size+1),_,I2,rfl,q _ (.lst xs.reverse) F1 _ (st1.trans ⟨Same.refl _,st1.fh.trans (W5 fS),W5 fS,λb f1 hb=>f1,λ_ _ _ q=>q⟩) (st1.fh.free fS) (st1.hh.free fS) WN (.l t1.rev)⟩⟩
end
def Zp (P:Program) (w:World) (K:W.Frag) (mg:MG) (base:Heap) (k:Nat) (C:Addr) (m:Str) (ps:List Str) (f:FD):Prop :=
 ∃a fd,Cls K C/\RJ K C m a/\FnOk P w K mg base Z0 k a fd ps (Zt K f)/\Binds K fd ps []
section
variable {o:Expr}{f:Str}{Cs:List Addr}
def Rc{g:Addr->List D->Res D}{pl:Sem Bool} (h:∀C∈Cs,Zp P w K mg base k C m ps (g C)) (hr:Room k' X.A) (ho:DE X xq o fo) (hk:autoParam (k<=k') ac._auto_1)
  (eP:autoParam (X.prog=P) aa._auto_1) (ew:autoParam (X.w=w) aa._auto_1) (eK:autoParam (X.K=K) aa._auto_1) (em:autoParam (X.mg=mg) aa._auto_1) (eb:autoParam (X.base=base) aa._auto_1)
  (ht:autoParam (eval (.Call (.Attribute o m Yw) [] [] pos) X.env=(do
   let ov <- eval o X.env
   standAt Yw.atName
   let (f,first) <- holding [ov] (getMethod ov m pl)
   callWith pos f first (backTo pos (starEach [] X.env)) (backToKw pos (keywordEach [] X.env)))) aa._auto_1) :
  DE X xq (.Call (.Attribute o m Yw) [] [] pos) (λρ=>(fo ρ).bind λx=>(Tj Cs m x).bind λy=>YD (g y.1 [y.2])):=⟨λZY s σ H Q I z9=>Xt z9 λB F ρ R q=>by
 subst eP ew eK em eb;refine W.methodCall_KW (pl:=pl) (Z2 (ho.out ZY s σ H (λx H1=>∃C a dx fs0,C∈Cs/\x=.ref a/\H1 a=some (.ins C dx fs0)/\fs0.lookup m=none/\Zt X.K (g C) [.ref a] H1 Q E0) I (Yd R q λd v F1 H1 s1 R1 p1 q1=>?_)) λu s1 ⟨x,H1,I1,rx,C,a,dx,fs0,hC,ex,ea,l,q⟩=>?_) ht
 ·obtain ⟨C,a,dx,fs0,hC,rfl,e1,e2,q2⟩:=By p1 (Res.all_bind.mp q1)
  refine⟨C,a,dx,fs0,hC,rfl,R1.fh _ _ e1,e2,F1,[d],R1.fh,.cons p1 .nil,?_⟩;have q2:(YD (g C [d])).all _ _:=q2;cases e:g C [d] with
  | ok d=>rw[e] at q2;exact λv F' H' st pv=>q2 v F' H' (s1.trans st) pv
  | err x=>rw[e] at q2;exact q2.elim
  | bad=>rw[e] at q2;exact q2.elim
 ·subst ex
  obtain rfl:u=Value.ref a:=rx;obtain⟨fa,fd,c,hm,G,hb⟩:=h C hC;refine E4 I1 ea c hm l ?_;exact W.callWith_K0 (first:=[.ref a]) I1.kIn hm.kp (Kh (us:=[.ref a]) (vs:=[.ref a]) G (hr.mono hk) hb .nil V7 I1 (.cons rfl .nil) q)⟩
end
def VO (K:W.Frag) (C:Addr) (g:List D->Res (List (Str×D))):Sp:=λvs H Q _=>∃F a dx YO ds,vs=.ref a::YO/\Same F H/\F a=none/\H a=some (.ins C dx [])/\Rps K F YO ds /\
 (g ds).all (λgs=>∀dx' fs F' H',Stp F (wo H a) F' H'->F' a=none->H' a=some (.ins C dx' fs)->Rpf K F' fs gs->Q .non H') (λ_=>False)
section
set_option tactic.hygienic true in
def Fun.okI0{g:List D->Res (List (Str×D))} (F:Fun K x qual st f fd) (S:FnScope N ps (ZX st)) (len:∀ds gs,g ds=.ok gs->ds.length+1=ps.length)
  (Xm:∀ (Zm:Value) (A:Around) (outer:List Env) (s:Shared) (H:Hp) (E:XK),Room k (A.deeper (envOfC qual (ZX st) s.heap.objs.size f Zm)) ->
   ∃t,DB (VC Z0 P w K mg base N qual (ZX st) f Zm A outer s H E).nox XW (Z3 st) t/\∀a ds gs,g ds=.ok gs->T9 a C (t (WW N.length a C ds))=.ok gs):FnOk P w K mg base Z0 (k+1) f fd ps (VO K C g) :=
 F.ok S (λvs H Q E ⟨G,a,dx,YO,ds,e1,fh,fa,ha,r,q⟩=>by
  subst e1;rw[u6,r.length];cases e:g ds with
  | ok d=>exact len ds d e
  | err x=>rw[e] at q;exact q.elim
  | bad=>rw[e] at q;exact q.elim) λZm A outer s H vs Q E hr ⟨G,a,dx,YO,ds,e1,fh,fa,ha,r,q⟩=>by
  subst e1;obtain⟨t,h1,h2⟩:=Xm Zm A outer s H E hr;refine⟨_,h1.out,(G,wo H a),G,_,zO fh fa ha r,⟨?_⟩⟩;cases e:g ds with
  | err x=>rw[e] at q;exact q.elim
  | bad=>rw[e] at q;exact q.elim
  | ok gs =>
   rw[e] at q;have z:=h2 a ds gs e;generalize t (WW N.length a C ds)=o at z;cases o with
   | nx ρ =>
    intro σ F' H' R;unfold T9 at z;dsimp only at z;split at z
    ·rename_i a' C' gs' e
     split at z
     ·rename_i c
      obtain⟨rfl,rfl⟩:=c;cases z;obtain⟨b,h,p1,p2,p3,p4,p5⟩:=R.own 0 _ e;cases p5 with
      | i hr=>exact q _ _ F' H' R.st p2 p4 hr
     ·cases z
    ·cases z
   | rt d'=>cases z
   | bk ρ=>cases z
   | ct ρ=>cases z
   | er x ρ=>cases z
   | bad=>cases z
end
def Y1 (P:Program) (w:World) (K:W.Frag) (mg:MG) (base:Heap) (k:Nat) (x:Str) (C:Addr) (ps:List Str) (g:List D->Res (List (Str×D))):Prop :=
 ∃f fd,Mk K C f/\FnOk P w K mg base Z0 k f fd ps (VO K C g)/\Binds K fd ps []/\mg x=some (.ref C)
def vo{sp:Sp}{Q:VK} (M:Mk X.K C f) (F:FnOk X.prog X.w X.K X.mg X.base Z0 k f fd ps sp) (hr:Room (k+1) X.A) (hb:Binds X.K fd ps [])
  (I:Inv X ZY σ H s) (r:Vals vs us)
  (h:∀x dx,H x=none->H dx=none->dx≠x->sp (.ref x::vs) (Zd (Zd H dx (.own x)) x (.ins C dx [])) (λv H2=>v=.non/\Q (.ref x) H2) E0) :
  wpAny (model X.prog X.w) X.A (call (.ref C) us) (EP X ZY σ Q) X.xe s:=by
 have hc:=h (s.heap.objs.size+1) s.heap.objs.size (I.hok.fresh (Yx _)) (I.hok.fresh (w4 _)) (v6 (YJ _));have I2:=Inv.made (C:=C) I;have r2:Vals (V.ref (s.heap.objs.size+1)::vs) (Value.ref (s.heap.objs.size+1)::us):=.cons rfl r;have hl:(Value.ref (s.heap.objs.size+1)::us++[]).length=ps.length:=by
  have e:=r2.length;rw[F.len _ _ _ _ hc] at e;rw[ZI];exact e.symm
 have hb2:=hb _ (Value.ref (s.heap.objs.size+1)::us) I2.kIn hl;rw[ZI] at hb2;refine wpAny_call (A2 (f:=f) I.kIn M.makes M.init (beq_iff_eq.mp M.fn) (Xo (F.run _ X.stack _ _ ⟨Value.ref (s.heap.objs.size+1)::us,[]⟩ (Value.ref (s.heap.objs.size+1)::us) _ _ _ (hr.make C us [])
  (I2.env0.make C us []) hb2 r2 hc) λr s' hq'=>?_))
 cases r with
 | error e=>exact False.elim hq'
 | ok fl =>
  cases fl with
  | ret u =>
   obtain⟨v,H',I3,rv,ev,q3⟩:=I2.after hq';subst ev;exact⟨rv,⟨V.ref (s.heap.objs.size+1),H',I3,rfl,q3⟩⟩
  | next=>exact False.elim hq'
  | brk=>exact False.elim hq'
  | cont=>exact False.elim hq'
def Rx{g:List D->Res (List (Str×D))} (h:Y1 P w K mg base k x C ps g) (hr:Room k' X.A) (ha:DA X xq (e::es) fs) (hk:autoParam (k+1<=k') ac._auto_1) (hg:autoParam (Gl X x) aa._auto_1)
  (eP:autoParam (X.prog=P) aa._auto_1) (ew:autoParam (X.w=w) aa._auto_1) (eK:autoParam (X.K=K) aa._auto_1) (em:autoParam (X.mg=mg) aa._auto_1) (eb:autoParam (X.base=base) aa._auto_1) (WJ:autoParam ((x==("__debug__":Str))=false) ac._auto_1) :
  DE X xq (.Call (.Name x p) (e::es) [] pos) (λρ=>(fs ρ).bind λds=>(YD (g ds)).bind λgs=>.ok (.ins C gs)):=⟨λZY s σ H Q I z9=>Xt z9 λB F ρ R q=>by
 subst eP ew eK em eb;obtain⟨fi,fd,M,G,hb,hm⟩:=h;refine YA (K9 I hg hm ?_ WJ);refine W.callWith_K (h₀:=X.base) I.ok.mod.kin M.kp (Z2 (ha.out pos ZY s σ H (λvs H1=>∀x dx,H1 x=none->H1 dx=none->dx≠x->VO X.K C g (.ref x::vs) (Zd (Zd H1 dx (.own x)) x (.ins C dx [])) (λv H2=>v=.non/\Q (.ref x) H2) E0) I (X2 R q λds vs F1 H1 s1 R1 p1 q1=>?_)) λus s1 ⟨vs,H1,I1,r,q⟩=>⟨I1.kIn,?_⟩) (Vi (Wh ha.ns).1) (SO (Wh ha.ns).2)
 ·intro y dx n1 n2 n3
  have sH:Same H1 (wo (Zd (Zd H1 dx (.own y)) y (.ins C dx [])) y):=λb o e=>by
   have b1:b≠y:=λz=>by subst z;rw[n1] at e;cases e
   have b2:b≠dx:=λz=>by subst z;rw[n2] at e;cases e
   rw[SG b1,Xd b1,Xd b2];exact e
  refine⟨F1,y,dx,_,ds,rfl,R1.fh.trans (sH.trans (EZ _ _)),R1.fh.free n1,WN,p1,?_⟩;cases eg:g ds with
  | bad=>rw[eg] at q1;exact q1.elim
  | err z=>rw[eg] at q1;exact q1.elim
  | ok gs =>
   rw[eg] at q1;intro dx' fs0 F' H' st fa ha' pf;refine⟨rfl,?_⟩;have st2:Stp F1 H1 (Zd F' y (.ins C dx' fs0)) H':=⟨st.ff.trans (W5 fa),λb u z=>by
    unfold Zd at z;by_cases zz:b=y
    ·rw[if_pos zz] at z;cases z;subst zz;exact ha'
    ·rw[if_neg zz] at z;exact st.fh b u z,sH.trans st.hh,λb z1 z2=>by
    unfold Zd;by_cases zz:b=y
    ·subst zz;exact absurd n1 z2
    ·rw[if_neg zz];exact st.no b z1 (JW sH z2),Lf (by intro _ _ q;cases q) st.nz⟩
   exact q1 _ _ _ (s1.trans st2) (.ins WN (pf.same (W5 fa)))
 ·exact vo M G (hr.mono hk) hb I1 r q⟩
section
variable {a b:Expr}{YO:List Expr}{fa fb:Rho->Res (D×Rho)}{fX fY:Rho->Res (Bool×Rho)}{fs:Rho->Res (List Ag×Rho)}
def NH (h:Lw X es fs):DXN X (.List es pos) (λρ=>(fs ρ).bind λr=>(YD (KF r.1)).bind λds=>QS ds (.ok (.l ds,r.2))) :=
 ⟨λZY s σ H Q I z9=>Xt z9 λB F ρ R q=>FE h.out ZY s σ H Q I (To R q λr vs F1 H1 m1 p1 q1=>by
  cases w:KF r.1 with
  | err x=>rw[w] at q1;exact q1.elim
  | bad=>rw[w] at q1;exact q1.elim
  | ok ds =>
   rw[w] at q1;obtain⟨hz,q2⟩:=Hz (show(QS ds _).all _ _ from q1)
   have p2:=Bf p1 w;exact⟨p2.length ▸ hz,λp n=>q2 p _ F1 _ (m1.step (Stp.only m1.rel.fh (W5 n))) (m1.rel.fh.free n) (m1.free n) WN (.l p2)⟩)⟩
end
section
variable {fx:Rho->Res (D×Rho)}
def Ph (i:Nat) (he:DX X e fx) (hN:autoParam (X.N[i]?=some x) aa._auto_1) (hv:autoParam (Ut X.env.scope x) ae._auto_1) (hd:autoParam ((x==("__debug__":Str))=false) ac._auto_1) (Xa:autoParam ((x==("__classdict__":Str))=false) ac._auto_1)
  (hs:autoParam (Zk e=true) aa._auto_1) (Xl:autoParam (attributeBase (.Name x p) "append" X.env (eval (.Name x p) X.env)=eval (.Name x p) X.env) aa._auto_1) (Xn:autoParam ((Yw.endLine==XS.line)=true) aa._auto_1)
  (hsw:autoParam (swapsWith (.Call (.Attribute (.Name x p) "append" Yw) [e] [] XS) none pos.line X.env=pure false) aa._auto_1) :
  DS X xq (.Expr (.Call (.Attribute (.Name x p) "append" Yw) [e] [] XS) pos) (λρ=>(VY ρ i).go ρ λ_=>(YD (fx ρ)).go ρ λr=>(VY r.2 i).go ρ λds=>if ds.length<sizeLine then .nx (r.2.set i (some (.own (.l (ds++[r.1]))))) else .bad) :=
 DS.of (L7 (CF Yk PySem.F.slot_list_append PySem.F.type_list_append zg (U2 hN hv hd Xa) (Ta he.out R8 hs) (by rw[t9,hs];rfl) rfl Xl Xn) hsw) λB F ρ σ H T R q=>by
  obtain⟨ds0,e1,q1⟩:=L8 (Wy q.out);obtain⟨l,h,h1,h2,h3,h4,h5⟩:=R.own i _ e1;cases h5 with
  | l hs0 =>
   refine⟨.ref l,h1,.inl ⟨rfl,_,.inl (.inl h4)⟩,B,F,ρ,R,R7 (Res.all_mono (Wy q1) (λr q2 v F' H' m pv=>?_) λ_ z=>z)⟩
   obtain⟨ds,e2,q3⟩:=L8 (Wy q2);obtain⟨l2,g,g1,g2,g3,g4,g5⟩:=m.rel.own i _ e2;rw[h1] at g1;cases g1;cases g5 with
   | l gs =>
    by_cases hz:ds.length<sizeLine
    ·rw [if_pos hz] at q3
     exact⟨l,_,v,rfl,rfl,g4,by rw[gs.length];exact hz,q3 σ F' _ (m.rel.write (e:=e2) h1 (.l (gs.append (.cons pv .nil))))⟩
    ·rw[if_neg hz] at q3;exact q3.elim
end
section
variable {F:Hp}
def Rel.fix1 (R:Rel K B ρ σ F H) (e:ρ[j]?=some (some (.own o))):∃F',Same F F'/\Rel K B (ρ.set j (some (.val o.toD))) σ F' H:=by
 obtain⟨a,h,p1,p2,p3,p4,p5⟩:=R.own j o e;have sf:Same F (Zd F a h):=W5 p2;have un:∀{b:Addr},b≠a->F b=none->Zd F a h b=none:=λz n=>by unfold Zd;rw[if_neg z];exact n
 refine⟨_,sf,⟨⟨R.st.ff.trans sf,λb u x=>?_,R.st.hh,λb x y=>un (λz=>y (z ▸ p3)) (R.st.no b x y),Lf p5.nz R.st.nz⟩,by rw[R.len];simp,λi d w=>?_,λi o' w=>?_,λi i' o1 o2 b w w'=>?_⟩⟩
 ·unfold Zd at x
  by_cases z:b=a
  ·rw[if_pos z] at x;cases x;subst z;exact p4
  ·rw[if_neg z] at x;exact R.st.fh b u x
 ·rcases Vb w with ⟨rfl,_,z⟩ | ⟨_,z⟩
  ·cases z
   exact⟨.ref a,p1,Ro.rp (Ro.same sf p5) WN⟩
  ·obtain⟨v,q1,q2⟩:=R.val i d z;exact⟨v,q1,q2.same sf⟩
 ·rcases Vb w with ⟨_,_,z⟩ | ⟨hij,z⟩
  ·cases z
  ·obtain ⟨b,h',q1,q2,q3,q4,q5⟩:=R.own i o' z
   exact⟨b,h',q1,un (λy=>hij (R.dis i j o' o b z e q1 (y ▸ p1))) q2,q3,q4,Ro.same sf q5⟩
 ·rcases Vb w with ⟨_,_,z⟩ | ⟨_,z⟩
  ·cases z
  ·rcases Vb w' with ⟨_,_,z'⟩ | ⟨_,z'⟩
   ·cases z'
   ·exact R.dis i i' o1 o2 b z z'
end
noncomputable def fix1 (j:Nat) (ρ:Rho):Rho:=match ρ[j]? with
 | some (some (.own o))=>ρ.set j (some (.val o.toD))
 | _=>ρ
set_option tactic.hygienic true in
def LX{g:Rho->XN} (j:Nat) (h:OW X sts g):OW X sts (λρ=>g (fix1 j ρ)) :=
 ⟨λZY s σ H T I z9=>Xt z9 λB F ρ R q=>h.out ZY s σ H T I (by
  replace q:FY X.K B T (g (fix1 j ρ)):=q
  unfold fix1 at q;split at q
  ·rename_i o e
   obtain⟨F',_,R'⟩:=R.fix1 e;exact⟨B,F',_,R',q⟩
  ·exact⟨B,F,ρ,R,q⟩)⟩
section
variable {o:Expr}{f:Str}
def BP{f:FD}{F F1 H1:Hp}{Q:VK}{E:D->Prop} (fh:Same F1 H1) (p:Rps K F1 vs ds) (s1:Stp F H F1 H1) (q:(YD (f ds)).all (λd=>∀v F' H',Stp F H F' H'->Rp K F' v d->Q v H') E):Zt K f vs H1 Q E0:=by
 refine⟨F1,ds,fh,p,?_⟩;cases e:f ds with
 | ok d=>rw[e] at q;exact λv F' H' st pv=>q v F' H' (s1.trans st) pv
 | err x=>rw[e] at q;exact q.elim
 | bad=>rw[e] at q;exact q.elim
end
def Sy:DS X xq st (λ_=>.bad):=⟨λZY s σ H T I z9=>Xt z9 λB F ρ R q=>False.elim q.out⟩
def LU:DB X xq sts (λ_=>.bad):=⟨λZY s σ H T I z9=>Xt z9 λB F ρ R q=>False.elim q.out⟩
def OY (P:Program) (w:World) (K:W.Frag) (mg:MG) (base:Heap) (k:Nat) (x:Str) (C:Addr) (ps:List Str) (dds:List D) (g:List D->Res (List (Str×D))):Prop :=
 ∃f fd dvs ds0,Mk K C f/\FnOk P w K mg base Z0 k f fd ps (VO K C g)/\Binds K fd ps ds0/\Vals dvs ds0/\(∀F,Rps K F dvs dds)/\mg x=some (.ref C)
section
set_option tactic.hygienic true in
def FunD.okI0{g:List D->Res (List (Str×D))} (F:FunD K x qual st f fd) (S:FnScope N ps (ZX st)) (len:∀ds gs,g ds=.ok gs->ds.length+1=ps.length)
  (Xm:∀ (Zm:Value) (A:Around) (outer:List Env) (s:Shared) (H:Hp) (E:XK),Room k (A.deeper (envOfC qual (ZX st) s.heap.objs.size f Zm)) ->
   ∃t,DB (VC Z0 P w K mg base N qual (ZX st) f Zm A outer s H E).nox XW (Z3 st) t/\∀a ds gs,g ds=.ok gs->T9 a C (t (WW N.length a C ds))=.ok gs):FnOk P w K mg base Z0 (k+1) f fd ps (VO K C g):=by
 obtain⟨oc,od,dV,kV,doc,pm,an,Zm,ct,osl,rfl,lk,Xa⟩:=F.ex;refine O6 lk Xa S (λvs H Q E ⟨G,a,dx,YO,ds,e1,fh,fa,ha,r,q⟩=>by
  subst e1;rw[u6,r.length];cases e:g ds with
  | ok d=>exact len ds d e
  | err x=>rw[e] at q;exact q.elim
  | bad=>rw[e] at q;exact q.elim) λA outer s H vs Q E hr ⟨G,a,dx,YO,ds,e1,fh,fa,ha,r,q⟩=>?_
 subst e1;obtain⟨t,h1,h2⟩:=Xm Zm A outer s H E hr;refine⟨_,h1.out.nox,(G,wo H a),G,_,zO fh fa ha r,⟨?_⟩⟩;cases e:g ds with
 | err x=>rw[e] at q;exact q.elim
 | bad=>rw[e] at q;exact q.elim
 | ok gs =>
  rw[e] at q;have z:=h2 a ds gs e;generalize t (WW N.length a C ds)=o at z;cases o with
  | nx ρ =>
   intro σ F' H' R;unfold T9 at z;dsimp only at z;split at z
   ·rename_i a' C' gs' e
    split at z
    ·rename_i c
     obtain⟨rfl,rfl⟩:=c;cases z;obtain⟨b,h,p1,p2,p3,p4,p5⟩:=R.own 0 _ e;cases p5 with
     | i hr=>exact q _ _ F' H' R.st p2 p4 hr
    ·cases z
   ·cases z
  | _=>cases z
end
section
variable {o:Expr}
def Bm{g:List D->Res (List (Str×D))} (h:OY P w K mg base k x C ps dds g) (hr:Room k' X.A) (ha:DA X xq (e::es) fs) (hk:autoParam (k+1<=k') ac._auto_1) (hg:autoParam (Gl X x) aa._auto_1)
  (eP:autoParam (X.prog=P) aa._auto_1) (ew:autoParam (X.w=w) aa._auto_1) (eK:autoParam (X.K=K) aa._auto_1) (em:autoParam (X.mg=mg) aa._auto_1) (eb:autoParam (X.base=base) aa._auto_1) (WJ:autoParam ((x==("__debug__":Str))=false) ac._auto_1) :
  DE X xq (.Call (.Name x p) (e::es) [] pos) (λρ=>(fs ρ).bind λds=>(YD (g (ds++dds))).bind λgs=>.ok (.ins C gs)):=by
 subst eP ew eK em eb;obtain⟨fi,fd,dvs,ds0,M,G,hb,hd,pd,hm⟩:=h;refine DE.of (Qk M G (hr.mono hk) hg hm hb hd V7 ha.out WJ (Vi (Wh ha.ns).1) (SO (Wh ha.ns).2)) λB F ρ σ H Q R q=>X2 R q λds vs F1 H1 s1 R1 p1 q1 y dx n1 n2 n3=>?_
 have sH:Same H1 (wo (Zd (Zd H1 dx (.own y)) y (.ins C dx [])) y):=λb o e=>by
  have b1:b≠y:=λz=>by subst z;rw[n1] at e;cases e
  have b2:b≠dx:=λz=>by subst z;rw[n2] at e;cases e
  rw[SG b1,Xd b1,Xd b2];exact e
 refine⟨F1,y,dx,_,ds++dds,rfl,R1.fh.trans (sH.trans (EZ _ _)),R1.fh.free n1,WN,p1.append (pd F1),?_⟩;cases eg:g (ds++dds) with
 | bad=>rw[eg] at q1;exact q1.elim
 | err z=>rw[eg] at q1;exact q1.elim
 | ok gs =>
  rw[eg] at q1;intro dx' fs0 F' H' st fa ha' pf;refine⟨rfl,?_⟩;have st2:Stp F1 H1 (Zd F' y (.ins C dx' fs0)) H':=⟨st.ff.trans (W5 fa),λb u z=>by
   unfold Zd at z;by_cases zz:b=y
   ·rw[if_pos zz] at z;cases z;subst zz;exact ha'
   ·rw[if_neg zz] at z;exact st.fh b u z,sH.trans st.hh,λb z1 z2=>by
   unfold Zd;by_cases zz:b=y
   ·subst zz;exact absurd n1 z2
   ·rw[if_neg zz];exact st.no b z1 (JW sH z2),Lf (by intro _ _ q;cases q) st.nz⟩
  exact q1 _ _ _ (s1.trans st2) (.ins WN (pf.same (W5 fa)))
def TH{f:FD}{pl:Sem Bool} (h:Zp P w K mg base k C0 m ps f) (hr:Room k' X.A) (ho:DE X xq o fo) (ha:DA X xq (e::es) fs) (hk:autoParam (k<=k') ac._auto_1)
  (eP:autoParam (X.prog=P) aa._auto_1) (ew:autoParam (X.w=w) aa._auto_1) (eK:autoParam (X.K=K) aa._auto_1) (em:autoParam (X.mg=mg) aa._auto_1) (eb:autoParam (X.base=base) aa._auto_1)
  (ht:autoParam (eval (.Call (.Attribute o m Yw) (e::es) [] pos) X.env=(do
   let ov <- eval o X.env
   standAt Yw.atName
   let (f,first) <- holding [ov] (getMethod ov m pl)
   callWith pos f first (backTo pos (starEach (e::es) X.env)) (backToKw pos (keywordEach [] X.env)))) aa._auto_1) :
  DE X xq (.Call (.Attribute o m Yw) (e::es) [] pos) (λρ=>(fo ρ).bind λx=>(Ma C0 m x).bind λx=>(fs ρ).bind λds=>YD (f (x::ds))):=by
 subst eP ew eK em eb;obtain⟨fa,fd,c,hm,G,hb⟩:=h;refine DE.of (Ql ho.out c hm G (hr.mono hk) hb .nil V7 ha.out (Vi (Wh ha.ns).1) (SO (Wh ha.ns).2) ht) λB F ρ σ H Q R q=>Yd R q λd v F1 H1 s1 R1 p1 q1=>?_
 obtain⟨a,dx,fs0,rfl,e1,e2,q2⟩:=Mb p1 (Res.all_bind.mp q1);exact⟨a,dx,fs0,rfl,R1.fh _ _ e1,e2,X2 R1 q2 λds vs F2 H2 s2 R2 p2 q3=>by rw[ZI];exact BP R2.fh (.cons (p1.same s2.ff) p2) (s1.trans s2) q3⟩
end
end L2
namespace K14
open PySem L2 PySem.Spec PyProof.Rows
variable {k n i:Nat}{P:Program}{w:World}{K:W.Frag}{mg:MG}{d x:D}{ds:List D}{α β γ:Type}{z b h g:Str}{base:Heap}{f C:Addr}{fd:FuncData}{a0o a2f a0n a1e a2e a1q:FD}{ρ:Rho}{tb t:Rho->Out}{fi fv fe:Rho->Res D}{hs ss bs l:List Str}{fT:Rho->Res Bool}{j:Int}{a:Out}
def bc {a:Prop} (h:¬a->False):a:=XD h
def Xz (i:Nat):Stmt:=PySem.Challenge.pw_rulestable_k14_steps_there_and_back.main.body.getD i (.Pass ⟨0,0,0,0⟩)
def VE (i j:Nat):Stmt:=match Xz i with
 | .ClassDef (body:=b) ..=>b.getD j (.Pass ⟨0,0,0,0⟩)
 | _=>.Pass ⟨0,0,0,0⟩
theorem Yj{A:Around} (hr:Room k A):A.units+64<cLine:=by have:=hr.un;lia
theorem V4{A:Around} (hr:Room k A):A.units+100<cLine:=by have:=hr.un;lia
theorem RY{A:Around} (hr:Room k A):A.units+200<cLine:=by have:=hr.un;lia
structure XM where
 Grammar:Addr
 Tree:Addr
 Leaf:Addr
 Node:Addr
variable {A:XM}
structure Txt (P:Program) (w:World) (K:W.Frag) (mg:MG) (A:XM):Prop where
 z_isinstance:mg "isinstance"=none
 z_str:mg "str"=none
 z_int:mg "int"=none
 z_bool:mg "bool"=none
 z_list:mg "list"=none
 z_tuple:mg "tuple"=none
 z_len:mg "len"=none
 z_all:mg "all"=none
 z_range:mg "range"=none
 z_enumerate:mg "enumerate"=none
 z_sorted:mg "sorted"=none
 z_set:mg "set"=none
 z_zip:mg "zip"=none
 z_max:mg "max"=none
 z_min:mg "min"=none
 z_sum:mg "sum"=none
 z_reversed:mg "reversed"=none
 g_MOST_IN_BODY:Ve K mg "MOST_IN_BODY" (.int 4)
 g_MOST_RULES:Ve K mg "MOST_RULES" (.int 20)
 g_MOST_HEADS:Ve K mg "MOST_HEADS" (.int 8)
 g_MOST_SIGNS:Ve K mg "MOST_SIGNS" (.int 10)
 g_MOST_RANKS:Ve K mg "MOST_RANKS" (.int 6)
 g_LONGEST:Ve K mg "LONGEST" (.int 6)
 g_IN_SIGNS:Ve K mg "IN_SIGNS" (.str "abcdefghijklmnopqrstuvwxyz0123456789+-*/()[]=<>,;.!?^&")
 g_GREAT:Ve K mg "GREAT" (.str "ABCDEFGHIJKLMNOPQRSTUVWXYZ")
 g_SMALL_AND_FIGURES:Ve K mg "SMALL_AND_FIGURES" (.str "abcdefghijklmnopqrstuvwxyz0123456789")
 m_Tree:mg "Tree"=some (.ref A.Tree)
 m_Leaf:mg "Leaf"=some (.ref A.Leaf)
 m_Node:mg "Node"=some (.ref A.Node)
 cls:Cls K A.Grammar
 na_rules:NoAttr K A.Grammar "rules"
 na_ranks:NoAttr K A.Grammar "ranks"
 na_start:NoAttr K A.Grammar "start"
 c_Leaf:Cls K A.Leaf
 na_Leaf_sign:NoAttr K A.Leaf "sign"
 na_Leaf_tree_size:NoAttr K A.Leaf "tree_size"
 na_Leaf_tree_depth:NoAttr K A.Leaf "tree_depth"
 c_Node:Cls K A.Node
 na_Node_number:NoAttr K A.Node "number"
 na_Node_children:NoAttr K A.Node "children"
 na_Node_tree_size:NoAttr K A.Node "tree_size"
 na_Node_tree_depth:NoAttr K A.Node "tree_depth"
 ne:A.Leaf≠A.Node
 o_Tree:OX K A.Tree [(A.Leaf,true),(A.Node,true)] []
 o_Leaf:OX K A.Leaf [(A.Leaf,true),(A.Node,false)] []
 o_Node:OX K A.Node [(A.Leaf,false),(A.Node,true)] []
def Txt.f_sign (T:Txt P w K mg A):∀C∈[A.Leaf],Cls K C/\NoAttr K C "sign":=by
 intro C h;simp only[y0,u0,or_false] at h;subst h;exact⟨T.c_Leaf,T.na_Leaf_sign⟩
def Txt.f_number (T:Txt P w K mg A):∀C∈[A.Node],Cls K C/\NoAttr K C "number":=by
 intro C h;simp only[y0,u0,or_false] at h;subst h;exact⟨T.c_Node,T.na_Node_number⟩
def Txt.f_children (T:Txt P w K mg A):∀C∈[A.Node],Cls K C/\NoAttr K C "children":=by
 intro C h;simp only[y0,u0,or_false] at h;subst h;exact⟨T.c_Node,T.na_Node_children⟩
def Txt.f_tree_size (T:Txt P w K mg A):∀C∈[A.Leaf,A.Node],Cls K C/\NoAttr K C "tree_size":=by
 intro C h;simp only[y0,u0,or_false] at h;rcases h with rfl|rfl
 ·exact⟨T.c_Leaf,T.na_Leaf_tree_size⟩
 ·exact⟨T.c_Node,T.na_Node_tree_size⟩
def Txt.f_tree_depth (T:Txt P w K mg A):∀C∈[A.Leaf,A.Node],Cls K C/\NoAttr K C "tree_depth":=by
 intro C h;simp only[y0,u0,or_false] at h;rcases h with rfl|rfl
 ·exact⟨T.c_Leaf,T.na_Leaf_tree_depth⟩
 ·exact⟨T.c_Node,T.na_Node_tree_depth⟩
abbrev E2:Stmt:=Xz 15
def ud:FnScope ["thing"] ["thing"] (ZX E2):=.au
abbrev Dg:Stmt:=Xz 16
def sI:FnScope ["thing"] ["thing"] (ZX Dg):=.au
abbrev GG:Stmt:=Xz 17
def uf:FnScope ["text","allowed"] ["text","allowed"] (ZX GG):=.au
abbrev Eg:Stmt:=Xz 18
def uP:FnScope ["thing"] ["thing"] (ZX Eg):=.au
abbrev Ej:Stmt:=Xz 19
def uS:FnScope ["thing"] ["thing"] (ZX Ej):=.au
abbrev E5:Stmt:=Xz 20
def tR:FnScope ["thing"] ["thing"] (ZX E5):=.au
abbrev Ei:Stmt:=Xz 29
def uR:FnScope ["thing"] ["thing"] (ZX Ei):=.au
abbrev GW:Stmt:=Xz 30
def uT:FnScope ["thing"] ["thing"] (ZX GW):=.au
abbrev Eh:Stmt:=Xz 31
def uQ:FnScope ["thing"] ["thing"] (ZX Eh):=.au
abbrev GF:Stmt:=Xz 35
def ue:FnScope ["rules"] ["rules"] (ZX GF):=.au
abbrev DV:Stmt:=Xz 36
def GI:FnScope ["rules","found","rule","symbol"] ["rules"] (ZX DV):=.au
abbrev DM:Stmt:=Xz 37
def Gu:FnScope ["rules","ahead","number","rule"] ["rules"] (ZX DM):=.au
abbrev Di:Stmt:=Xz 38
def Gp:FnScope ["rules","known","rule","symbol"] ["rules"] (ZX Di):=.au
abbrev Dj:Stmt:=Xz 39
def Dd:FnScope ["rules","heads","signs"] ["rules"] (ZX Dj):=.au
abbrev DP:Stmt:=Xz 40
def DC:FnScope ["ranks","ahead","rank","sign"] ["ranks"] (ZX DP):=.au
abbrev Dp:Stmt:=Xz 46
def rY:FnScope ["grammar","thing"] ["grammar","thing"] (ZX Dp):=.au
abbrev DJ:Stmt:=Xz 47
def sU:FnScope ["tree"] ["tree"] (ZX DJ):=.au
abbrev Dq:Stmt:=Xz 49
def rZ:FnScope ["one","other"] ["one","other"] (ZX Dq):=.au
abbrev ES:Stmt:=Xz 50
def EI:FnScope ["one","other","waiting","pair"] ["one","other"] (ZX ES):=.au
abbrev Fw:Stmt:=Xz 51
def QI:FnScope ["grammar","symbol","thing"] ["grammar","symbol","thing"] (ZX Fw):=.au
abbrev Ee:Stmt:=Xz 52
def DR:FnScope ["grammar","symbol","thing","waiting","pair"] ["grammar","symbol","thing"] (ZX Ee):=.au
abbrev DU:Stmt:=Xz 53
def GA:FnScope ["tree","backwards","waiting","part"] ["tree"] (ZX DU):=.au
abbrev Ef:Stmt:=Xz 54
def uO:FnScope ["thing","word"] ["thing","word"] (ZX Ef):=.au
abbrev GB:Stmt:=Xz 55
def De:FnScope ["grammar","row","step","body","children"] ["grammar","row","step"] (ZX GB):=.au
abbrev Ec:Stmt:=Xz 56
def JU:FnScope ["grammar","steps","row","step","made","child"] ["grammar","steps"] (ZX Ec):=.au
abbrev E1:Stmt:=Xz 58
def uc:FnScope ["_law_script","_law_k"] ["_law_script","_law_k"] (ZX E1):=.au
abbrev DY:Stmt:=Xz 59
def Du:FnScope ["_law_cell_here","_law_k","_law_number"] ["_law_cell_here","_law_k"] (ZX DY):=.au
abbrev Ed:Stmt:=Xz 60
def L1:FnScope ["_law_script","_law_at","_law_base","_law_count","_law_cell_here","_law_left","_law_found","_law_k"] ["_law_script","_law_at","_law_base","_law_count"] (ZX Ed):=.au
abbrev GM:Stmt:=Xz 61
def DL:FnScope ["_law_cell_here","_law_many","_law_letters","_law_tail"] ["_law_cell_here","_law_many"] (ZX GM):=.au
abbrev GJ:Stmt:=Xz 62
def yL:FnScope ["_law_cell_here","_law_many","_law_some"] ["_law_cell_here","_law_many"] (ZX GJ):=.au
abbrev Dy:Stmt:=Xz 63
def yM:FnScope ["_law_number","_law_some"] ["_law_number"] (ZX Dy):=.au
abbrev Dr:Stmt:=Xz 64
def sZ:FnScope ["_law_number","_law_heads_here","_law_signs_here"] ["_law_number","_law_heads_here","_law_signs_here"] (ZX Dr):=.au
abbrev Gs:Stmt:=Xz 65
def OC:FnScope ["_law_script","_law_at","_law_heads_here","_law_signs_here","_law_more","_law_rules_here","_law_k","_law_draws","_law_head","_law_some","_law_body"] ["_law_script","_law_at","_law_heads_here","_law_signs_here","_law_more"] (ZX Gs):=.au
abbrev GK:Stmt:=Xz 66
def OB:FnScope ["_law_script","_law_at","_law_draws","_law_names","_law_signs_here","_law_rules_here","_law_head","_law_body","_law_heads_here"] ["_law_script","_law_at"] (ZX GK):=.au
abbrev Ds:Stmt:=Xz 67
def tf:FnScope ["_law_cell_here"] ["_law_cell_here"] (ZX Ds):=.au
abbrev DZ:Stmt:=Xz 68
def yG:FnScope ["_law_left","_law_many","_law_found"] ["_law_left","_law_many"] (ZX DZ):=.au
abbrev GE:Stmt:=Xz 69
def ub:FnScope ["_law_model"] ["_law_model"] (ZX GE):=.au
abbrev JV:Stmt:=Xz 70
def L5:FnScope ["_law_rules_here","_law_head","_law_heads_here","_law_number","_law_one","_law_body","_law_inner"] ["_law_rules_here","_law_head"] (ZX JV):=.au
abbrev JR:Stmt:=Xz 71
def KZ:FnScope ["_law_rules_here","_law_symbol_here","_law_left","_law_deep","_law_room","_law_heads_here","_law_some","_law_number","_law_children","_law_one"] ["_law_rules_here","_law_symbol_here","_law_left","_law_deep","_law_room"] (ZX JR):=.au
abbrev EJ:Stmt:=Xz 72
def Eb:FnScope ["_law_tree","_law_model","_law_child","_law_one"] ["_law_tree","_law_model"] (ZX EJ):=.au
abbrev Dx:Stmt:=Xz 73
def Gy:FnScope ["_law_model","_law_found","_law_child"] ["_law_model"] (ZX Dx):=.au
abbrev Gw:Stmt:=Xz 74
def yB:FnScope ["_law_thing","_law_signs_here"] ["_law_thing"] (ZX Gw):=.au
abbrev Do:Stmt:=Xz 75
def rX:FnScope ["_law_rules_here","_law_model"] ["_law_rules_here","_law_model"] (ZX Do):=.au
abbrev DH:Stmt:=Xz 76
def sT:FnScope ["_law_rules_here","_law_what"] ["_law_rules_here","_law_what"] (ZX DH):=.au
abbrev GL:Stmt:=Xz 77
def No:FnScope ["_law_rules_here","_law_steps_here","_law_pile","_law_word","_law_what","_law_body","_law_keep"] ["_law_rules_here","_law_steps_here"] (ZX GL):=.au
abbrev Dt:Stmt:=Xz 78
def OA:FnScope ["_law_steps_here","_law_rules_here","_law_left","_law_at","_law_way","_law_turned","_law_words","_law_things","_law_which","_law_fresh"] ["_law_steps_here","_law_rules_here","_law_left"] (ZX Dt):=.au
abbrev EK:Stmt:=Xz 79
def GV:FnScope ["_law_grammar","_law_rules_here","_law_steps_here","_law_handed","_law_due","_law_told"] ["_law_grammar","_law_rules_here","_law_steps_here"] (ZX EK):=.au
abbrev Dz:Stmt:=Xz 80
def Np:FnScope ["_law_grammar","_law_tree","_law_steps_here","_law_k","_law_found"] [] (ZX Dz):=.au
abbrev Rf:Stmt:=Xz 81
def SB:FnScope ["_law_script","_law_rules_here","_law_grammar","_law_k","_law_left","_law_model","_law_tree","_law_steps_here","_law_step","_law_spoilt_here"] ["_law_script"] (ZX Rf):=.au
abbrev Df:Stmt:=VE 41 4
def sG:FnScope ["self","number"] ["self","number"] (ZX Df):=.au
abbrev Dv:Stmt:=VE 41 5
def tP:FnScope ["self","number"] ["self","number"] (ZX Dv):=.au
abbrev Dw:Stmt:=VE 41 6
def tQ:FnScope ["self","number"] ["self","number"] (ZX Dw):=.au
abbrev Gv:Stmt:=VE 43 0
def sR:FnScope ["self"] ["self"] (ZX Gv):=.au
abbrev GC:Stmt:=VE 43 1
def sB:FnScope ["self"] ["self"] (ZX GC):=.au
abbrev DD:Stmt:=VE 44 0
def sS:FnScope ["self","sign"] ["self","sign"] (ZX DD):=.au
abbrev Dn:Stmt:=VE 44 1
def rW:FnScope ["self"] ["self"] (ZX Dn):=.au
abbrev Dl:Stmt:=VE 44 2
def rS:FnScope ["self","grammar"] ["self","grammar"] (ZX Dl):=.au
abbrev L0:Stmt:=VE 45 0
def yA:FnScope ["self","number","children","trees"] ["self","number","children"] (ZX L0):=.au
abbrev Dm:Stmt:=VE 45 1
def rV:FnScope ["self"] ["self"] (ZX Dm):=.au
abbrev Dk:Stmt:=VE 45 2
def rR:FnScope ["self","grammar"] ["self","grammar"] (ZX Dk):=.au
noncomputable def S5:D->Bool
 | .str _=>true
 | _=>false
noncomputable def TM:D->Bool
 | .tup _=>true
 | _=>false
def Iu(h:V8 d=true):Wk [d,.ty "str"]=.ok (.bl (S5 d)):=by cases d<;>first|rfl|simp[V8] at h
def NX(h:V8 d=true):Wk [d,.ty "tuple"]=.ok (.bl (TM d)):=by cases d<;>first|rfl|simp[V8] at h
noncomputable def Wv:Str:="abcdefghijklmnopqrstuvwxyz0123456789+-*/()[]=<>,;.!?^&"
noncomputable def WU:Str:="ABCDEFGHIJKLMNOPQRSTUVWXYZ"
noncomputable def TZ:Str:="abcdefghijklmnopqrstuvwxyz0123456789"
@[simp] theorem KJ:Str.ofString "abcdefghijklmnopqrstuvwxyz0123456789+-*/()[]=<>,;.!?^&"=Wv:=rfl
@[simp] theorem M4:Str.ofString "ABCDEFGHIJKLMNOPQRSTUVWXYZ"=WU:=rfl
@[simp] theorem M5:Str.ofString "abcdefghijklmnopqrstuvwxyz0123456789"=TZ:=rfl
noncomputable def UL (z:Str):Str:=⟨#[z.cps.getD 0 0]⟩
noncomputable def Uq (z:Str):Str:=Txt.slice z (some 1) none
noncomputable def Wu (z a:Str):Bool:=z.cps.toList.all λc=>RZ ⟨#[c]⟩ a
noncomputable def Y5 (z:Str):Bool:=decide (1<=z.length)&&decide (z.length<=6)
noncomputable def XR (z:Str):Bool:=Y5 z&&Wu z Wv
noncomputable def RX (z:Str):Bool:=Y5 z&&(RZ (UL z) WU&&Wu (Uq z) TZ)
noncomputable def WG:D->Bool
 | .str z=>XR z
 | _=>false
noncomputable def T4:D->Bool
 | .str z=>RX z
 | _=>false
noncomputable def W2:D->Bool
 | .str z=>Y5 z
 | _=>false
noncomputable def Su (d:D):Bool:=WG d||T4 d
noncomputable def pairD:D->Bool
 | .tup [_,_]=>true
 | _=>false
noncomputable def Uc:D->Bool
 | .tup ds=>decide (ds.length<=4)&&ds.all Su
 | _=>false
noncomputable def Wg:D->Bool
 | .tup [h,b]=>T4 h&&Uc b
 | _=>false
noncomputable def ZH (z:Str):Bool:=PyData.strOk z&&decide (z.length<=1000)
mutual
noncomputable def Y3:D->Bool
 | .non | .bl _ | .int _=>true
 | .str z=>ZH z
 | .lst ds | .tup ds=>WT ds
 | .dct ps=>ps.isEmpty
 | _=>false
noncomputable def WT:List D->Bool
 | []=>true
 | d::ds=>Y3 d&&WT ds
end
mutual
theorem GY:∀{d:D},Y3 d=true->V8 d=true
 | .non,_ | .bl _,_ | .int _,_ | .str _,_=>rfl
 | .lst ds,h=>E3 (ds:=ds) h
 | .tup ds,h=>E3 (ds:=ds) h
 | .dct ps,h=>h
 | .ty _,h=>by simp[Y3] at h
 | .ins _ _,h=>by simp[Y3] at h
 | .exc _ _,h=>by simp[Y3] at h
 | .dn _ _,h=>by simp[Y3] at h
 | .hdl _,h=>by simp[Y3] at h
theorem E3:∀{ds:List D},WT ds=true->TU ds=true
 | [],_=>rfl
 | d::ds,h=>by
  have h:=OR.mp h;exact OR.mpr ⟨GY h.1,E3 h.2⟩
end
theorem Am:∀{ds:List D},WT ds=true->∀d∈ds,Y3 d=true
 | [],_,d,h=>(u0 h).elim
 | x::ds,hs,d,h=>by
  have hs:=OR.mp hs;rcases y0.mp h with rfl|h
  ·exact hs.1
  ·exact Am hs.2 d h
theorem B4:∀{ds:List D},(∀d∈ds,Y3 d=true)->WT ds=true
 | [],_=>rfl
 | x::ds,h=>OR.mpr ⟨h x z6,B4 λd k=>h d (z5 _ k)⟩
def Ex(h:Y3 (.tup ds)=true):∀d∈ds,Y3 d=true:=Am (by simpa[Y3] using h)
def P1 (p:D->Bool) (G:FD):Prop:=∀d,Y3 d=true->G [d]=.ok (.bl (p d))
theorem zH(p:α->Bool):∀l:List α,Wc (l.map λd=>D.bl (p d))=some (l.map p)
 | []=>rfl
 | x::l=>by simp[Wc,zH p l]
def Eu (z:Str):(WP z).length=z.length:=by unfold WP;rw[v0,q9];rfl
def Tr(h:n<=1000):n<=sizeLine:=v7 h (by decide)
def zQ(h:Y5 z=true):z.length<=6:=by
 unfold Y5 at h;simp at h;exact h.2
@[simp] theorem xw(p:α->Bool) (l:List α):M6 [.lst (l.map λd=>D.bl (p d))]=.ok (.bl (l.all p)):=by
 show(match Wc (l.map λd=>D.bl (p d)) with|some bs=>Res.ok (D.bl (bs.all id))|none=>.bad)=_
 rw[zH];simp[List.all_map,Function.comp_def]
noncomputable def IJ (a:Str):D->Bool
 | .str c=>RZ c a
 | _=>false
def wn (z a:Str):((WP z).all λd=>IJ a d)=Wu z a:=by
 unfold WP Wu;rw[List.all_map];rfl
def Bp (z:Str):z.cps.toList.length=z.length:=by rw[q9];rfl
theorem rL(c:Y5 z=true):Xi (.str z) (.int 0)=.ok (.str (UL z)):=by
 have h:0<z.length:=by unfold Y5 at c;simp at c;lia
 have e:VA z.cps.toList 0=some (z.cps.getD 0 0):=by
  have:=Hq (xs:=z.cps.toList) (j:=0) (v:=z.cps.getD 0 0) (by
   have h':0<z.cps.size:=h;rw[NJ];simp[Array.getD,h'])
  exact this
 show(match VA z.cps.toList 0 with|some c=>Res.ok (D.str ⟨#[c]⟩)|none=>.bad)=_
 rw[e];rfl
def rM (z:Str):Rq (.str z) (some 1) none=.ok (.str (Uq z)):=rfl
theorem vj (z:Str):(Uq z).length<=z.length:=by
 unfold Uq;rw[<- Bp,<- Bp,uK,RC];lia
def Hn(h:PyData.strOk z=true):Y2 (.str z)=.ok (.str z):=by
 have:SeqAt.shaped (.str z)=true:=by simp[SeqAt.shaped,PyData.canLay0,h,PyData.depth]
 simp[Y2,D.py,this]
def Hk (a b:Str):PyData.eqv (.str a) (.str b)=(a==b):=rfl
@[simp] theorem J4 (z:Str):Yv [.str z]=.ok (.int z.length):=rfl
@[simp] theorem G9 (ds:List D):Yv [.tup ds]=.ok (.int ds.length):=rfl
@[simp] theorem G8 (ds:List D):Yv [.lst ds]=.ok (.int ds.length):=rfl
def eq_int (i j:Int):V1 (.int i) (.int j)=.ok (.bl (i==j)):=rfl
def HL(h:ds[i]?=some d):Xi (.tup ds) (.int i)=.ok d:=by
 show(match VA ds i with|some d=>Res.ok d|none=>.bad)=_
 rw[Hq h]
def Kp(h:ds[i]?=some d):Xi (.lst ds) (.int i)=.ok d:=by
 show(match VA ds i with|some d=>Res.ok d|none=>.bad)=_
 rw[Hq h]
def PL (x:D) (l:List D):Xi (.tup (x::l)) (.int 0)=.ok x:=HL (i:=0) rfl
def Mi (x y:D) (l:List D):Xi (.tup (x::y::l)) (.int 1)=.ok y:=HL (i:=1) rfl
def Rb (x:D) (l:List D):Xi (.lst (x::l)) (.int 0)=.ok x:=Kp (i:=0) rfl
section
set_option tactic.hygienic true in
theorem sJ (F:Fun K "is_short_text" "is_short_text" Dg f fd) (T:Txt P w K mg A):∃G,FnOk P w K mg base Z0 1 f fd ["thing"] (Zt K G)/\P1 W2 G:=by
 refine⟨_,F.okT (k:=0) sI (λZm Ar outer s H E hr=>Zn (YL (VG (Yh UX T.z_isinstance (by decide +kernel) (ZW (dv 0) (ZW (X0 T.z_str (T:="str") (by decide +kernel)) ZU))) (UB (Fn Uj Uj ZT (Yh X3 T.z_len (by decide +kernel) (ZW (dv 0) ZU)) (Re T.g_LONGEST)))))),?_⟩
 intro d h;simp[Zq,ZV,Iu (GY h)];cases d<;>simp[S5,W2,Yv]
 rename_i z;unfold Y5;by_cases c:1<=z.length
 ·have c':(1:Int)<=z.length:=by lia
  simp[c,c'];lia
 ·have c':¬ (1:Int)<=z.length:=by lia
  simp[c,c']
def uv (F:Fun K "has_only" "has_only" GG f fd) (T:Txt P w K mg A):∃G,FnOk P w K mg base Z0 1 f fd ["text","allowed"] (Zt K G)/\∀z a,z.length<=1000->G [.str z,.str a]=.ok (.bl (Wu z a)):=by
 refine⟨_,F.okT (k:=0) uf (λZm Ar outer s H E hr=>Zn (YL (Yh (NY rfl) T.z_all (by decide +kernel) (ZW (DN.de (Tt ["mark"] [1] rfl (Uy (sc:=ZX GG) (N:=["text","allowed"]) (by decide +kernel)) (VS (dv 0)) (YT (show(["mark","allowed"]:List Str).Nodup by decide +kernel)) Tq (Ub (T8 (V4 hr)) (dv 0) (dv 1)))) ZU)))),?_⟩
 intro z a hz;simp[Zq,ZV];rw[show items (.str z)=.ok (WP z) from rfl,Res.bind_ok,Wx (by rw[Eu];exact Tr hz),OH (λd=>D.bl (IJ a d)) (λd hd=>?_)]
 ·simp only[Res.bind_ok,Sx,xw,R9,go_ok,Qd,wn]
 ·obtain ⟨c,_,rfl⟩:=u3.mp hd
  refine⟨_,rfl,rfl,?_⟩;simp[Xs];rfl
set_option tactic.hygienic true in
theorem va(a0h:Callee P w K mg base 1 "is_short_text" ["thing"] (Zt K a0o))  (a1l:Callee P w K mg base 1 "has_only" ["text","allowed"] (Zt K a2f)) (a5t:P1 W2 a0o) (a6l:∀z a,z.length<=1000->a2f [.str z,.str a]=.ok (.bl (Wu z a))) (F:Fun K "is_sign" "is_sign" Eg f fd) (T:Txt P w K mg A):∃G,FnOk P w K mg base Z0 2 f fd ["thing"] (Zt K G)/\P1 WG G:=by
 refine⟨_,F.okT (k:=1) uP (λZm Ar outer s H E hr=>Zn (YL (VG (Zz a0h hr (ZW (dv 0) ZU)) (UB (Zz a1l hr (ZW (dv 0) (ZW (Re T.g_IN_SIGNS) ZU))))))),?_⟩
 intro d h;simp[Zq,ZV,a5t d h];cases d<;>simp[W2,WG,XR]
 rename_i z;by_cases c:Y5 z=true
 ·simp[c,a6l z _ (by have:=zQ c;lia)]
 ·simp[c]
set_option tactic.hygienic true in
theorem vq(a0h:Callee P w K mg base 1 "is_short_text" ["thing"] (Zt K a0o))  (a1l:Callee P w K mg base 1 "has_only" ["text","allowed"] (Zt K a2f)) (a5t:P1 W2 a0o) (a6l:∀z a,z.length<=1000->a2f [.str z,.str a]=.ok (.bl (Wu z a))) (F:Fun K "is_head" "is_head" Ej f fd) (T:Txt P w K mg A):∃G,FnOk P w K mg base Z0 2 f fd ["thing"] (Zt K G)/\P1 T4 G:=by
 refine⟨_,F.okT (k:=1) uS (λZm Ar outer s H E hr=>Zn (YL (VG (Zz a0h hr (ZW (dv 0) ZU)) (VG (Ub (T8 (V4 hr)) (ZA ZD (dv 0) ZT) (Re T.g_GREAT)) (UB (Zz a1l hr (ZW (T0 (dv 0) (Vk ZT) Ux) (ZW (Re T.g_SMALL_AND_FIGURES) ZU)))))))),?_⟩
 intro d h;simp[Zq,ZV,a5t d h];cases d<;>simp[W2,T4,RX]
 rename_i z;by_cases c:Y5 z=true
 ·have e2:(Uq z).length<=1000:=by
   have:=vj z
   have:=zQ c
   lia
  simp[c,rL c,TC,rM,KG,SZ,a6l _ TZ e2];by_cases k:RZ (UL z) WU=true<;>simp[k]
 ·simp[c]
def tE(a0i:Callee P w K mg base 2 "is_sign" ["thing"] (Zt K a0n))  (a0x:Callee P w K mg base 2 "is_head" ["thing"] (Zt K a1e)) (a1c:P1 WG a0n) (a0p:P1 T4 a1e) (F:Fun K "is_symbol" "is_symbol" E5 f fd) (T:Txt P w K mg A):∃G,FnOk P w K mg base Z0 3 f fd ["thing"] (Zt K G)/\P1 Su G:=by
 refine⟨_,F.okT (k:=2) tR (λZm Ar outer s H E hr=>Zn (YL (Ch (Zz a0i hr (ZW (dv 0) ZU)) (UB (Zz a0x hr (ZW (dv 0) ZU)))))),?_⟩
 intro d h;simp[Zq,ZV,a1c d h,a0p d h,Su];by_cases c:WG d=true<;>simp[c]
set_option tactic.hygienic true in
theorem vp (F:Fun K "is_pair" "is_pair" Ei f fd) (T:Txt P w K mg A):∃G,FnOk P w K mg base Z0 1 f fd ["thing"] (Zt K G)/\P1 pairD G:=by
 refine⟨_,F.okT (k:=0) uR (λZm Ar outer s H E hr=>Zn (YL (VG (Yh UX T.z_isinstance (by decide +kernel) (ZW (dv 0) (ZW (X0 T.z_tuple (T:="tuple") (by decide +kernel)) ZU))) (UB (Ub (Xq (Yj hr)) (Yh X3 T.z_len (by decide +kernel) (ZW (dv 0) ZU)) ZT))))),?_⟩
 intro d h;simp[Zq,ZV,NX (GY h)];cases d<;>simp[TM,pairD,Yv]
 rename_i ds;rw[eq_int]
 match ds with
 | []=>rfl
 | [_]=>rfl
 | [_,_]=>rfl
 | _::_::_::l=>simp[pairD];lia
set_option tactic.hygienic true in
theorem vt {a4m:FD} (a3b:Callee P w K mg base 3 "is_symbol" ["thing"] (Zt K a4m)) (a3a:P1 Su a4m) (F:Fun K "is_body" "is_body" GW f fd) (T:Txt P w K mg A):∃G,FnOk P w K mg base Z0 4 f fd ["thing"] (Zt K G)/\P1 Uc G:=by
 refine⟨_,F.okT (k:=3) uT (λZm Ar outer s H E hr=>Zn (YL (VG (Yh UX T.z_isinstance (by decide +kernel) (ZW (dv 0) (ZW (X0 T.z_tuple (T:="tuple") (by decide +kernel)) ZU))) (VG (Ub Uj (Yh X3 T.z_len (by decide +kernel) (ZW (dv 0) ZU)) (Re T.g_MOST_IN_BODY)) (UB (Yh (NY rfl) T.z_all (by decide +kernel) (ZW (DN.de (Tt ["part"] [] rfl (Uy (sc:=ZX GW) (N:=["thing"]) (by decide +kernel)) (VS (dv 0)) (YT (show(["part"]:List Str).Nodup by decide +kernel)) Tq (Zz a3b hr (ZW (dv 0) ZU)))) ZU))))))),?_⟩
 intro d h;simp[Zq,ZV,NX (GY h)];cases d<;>simp[TM,Uc,Yv]
 rename_i ds;by_cases c:ds.length<=4
 ·have c':(ds.length:Int)<=4:=by lia
  simp[c,c'];rw[show items (.tup ds)=.ok ds from rfl,Res.bind_ok,Wx (Tr (by lia)),OH (λd=>D.bl (Su d)) (λd hd=>?_)]
  ·simp
  ·exact⟨_,rfl,rfl,by simp[Xs,a3a d (Ex h d hd)]⟩
 ·have c':¬ (ds.length:Int)<=4:=by lia
  simp[c,c']
set_option tactic.hygienic true in
def vc{a2u:FD} (a1y:Callee P w K mg base 1 "is_pair" ["thing"] (Zt K a2u))  (a0x:Callee P w K mg base 2 "is_head" ["thing"] (Zt K a1e)) {a5p:FD} (a4i:Callee P w K mg base 4 "is_body" ["thing"] (Zt K a5p)) (a3k:P1 pairD a2u) (a0p:P1 T4 a1e) (a4f:P1 Uc a5p) (F:Fun K "is_rule" "is_rule" Eh f fd) (T:Txt P w K mg A):∃G,FnOk P w K mg base Z0 5 f fd ["thing"] (Zt K G)/\P1 Wg G:=by
 refine⟨_,F.okT (k:=4) uQ (λZm Ar outer s H E hr=>Zn (YL (VG (Zz a1y hr (ZW (dv 0) ZU)) (VG (Zz a0x hr (ZW (ZA ZD (dv 0) ZT) ZU)) (UB (Zz a4i hr (ZW (ZA ZD (dv 0) ZT) ZU))))))),?_⟩
 intro d h;simp[Zq,ZV,a3k d h];cases d<;>simp[pairD,Wg]
 rename_i ds
 match ds,h with
 | [],_=>simp[pairD,Wg]
 | [_],_=>simp[pairD,Wg]
 | _::_::_::_,_=>simp[pairD,Wg]
 | [x,y],h =>
  have h1:=a0p x (Ex h x (by simp))
  have h2:=a4f y (Ex h y (by simp))
  simp[pairD,Wg,PL,Mi,h1,h2];by_cases c:T4 x=true<;>simp[c]
end
abbrev RR:=Str×List Str
noncomputable def rT (p:RR):D:=.tup [.str p.1,.tup (p.2.map D.str)]
theorem yT:∀ss:List Str,WH (ss.map D.str)=some ss
 | []=>rfl
 | z::ss=>by simp[WH,yT ss]
structure VU (p:RR):Prop where
 h:RX p.1=true
 l:p.2.length<=4
 s:∀b∈p.2,(XR b||RX b)=true
 gh:ZH p.1=true
 gs:∀b∈p.2,ZH b=true
def Q9 {p:RR} (o:VU p):Wg (rT p)=true:=by
 obtain⟨z,ss⟩:=p;simp only[rT,Wg,T4,Uc,t4,v0,decide_eq_true_eq,List.all_map,Ku];exact⟨o.h,o.l,λb hb=>o.s b hb⟩
noncomputable def Tn (p:RR):PyData:=.tuple [.str p.1,.tuple (p.2.map PyData.str)]
theorem EM:∀ss:List Str,D.pys (ss.map D.str)=some (ss.map PyData.str)
 | []=>rfl
 | z::ss=>by simp[D.pys,D.py,EM ss]
theorem Hc:∀{ss:List Str},(∀b∈ss,ZH b=true)->PyData.canLayAll0 (ss.map PyData.str)=true
 | [],_=>rfl
 | z::ss,h=>by
  have h1:=h z z6;have h2:=Hc λb hb=>h b (z5 _ hb)
  simp[ZH] at h1;simp[PyData.canLayAll0,PyData.canLay0,h1.1,h2]
theorem GZ:∀ss:List Str,PyData.depthAll (ss.map PyData.str)<=1
 | []=>by simp[PyData.depthAll]
 | z::ss=>by
  have:=GZ ss
  simp[PyData.depthAll,PyData.depth];lia
theorem AB {p:RR} (o:VU p):Y2 (rT p)=.ok (Tn p):=by
 have h1:=o.gh;simp[ZH] at h1;have e:(rT p).py=some (Tn p):=by
  simp[rT,D.py,D.pys,EM,Tn]
 have s:SeqAt.shaped (Tn p)=true:=by
  have d:=GZ p.2;simp[SeqAt.shaped,Tn,PyData.canLay0,PyData.canLayAll0,h1.1,Hc o.gs,PyData.depth,PyData.depthAll];lia
 unfold Y2;rw[e];simp[s]
theorem GN:∀as bs:List Str,PyData.eqvAll (as.map PyData.str) (bs.map PyData.str)=decide (as=bs)
 | [],[]=>rfl
 | [],_::_=>rfl
 | _::_,[]=>rfl
 | a::as,b::bs=>by
  show(PyData.eqv (.str a) (.str b)&&PyData.eqvAll (as.map PyData.str) (bs.map PyData.str))=_;rw[GN as bs,Hk];by_cases c:a=b<;>simp[c]
def Av (p q:RR):PyData.eqv (Tn p) (Tn q)=decide (p=q):=by
 obtain⟨a,as⟩:=p;obtain⟨b,bs⟩:=q;show(PyData.eqv (.str a) (.str b)&&(PyData.eqvAll (as.map PyData.str) (bs.map PyData.str)&&true))=_;rw[GN,Hk];by_cases c:a=b<;>simp[c]
@[simp] theorem JX{k:Res α} (h:ds.length<=1000):QS ds k=k:=QT (Tr h)
def wO (k:Nat) (d:D) (ds:List D):(((d::ds).zipIdx k).map λp=>D.tup [.int (p.2:Nat),p.1])=.tup [.int (k:Nat),d]::((ds.zipIdx (k+1)).map λp=>D.tup [.int (p.2:Nat),p.1]):=rfl
noncomputable def Mg:Out->Bool
 | .rt _=>true
 | .er _ _=>true
 | _=>false
def RK(S:α->List γ->Rho->Prop) (go:α->List γ->β) (Q:β->Out->Prop) (a:α) (d:γ) (ds:List γ) (o:Out):Prop :=
 (∃a' ρ2,(o=.nx ρ2\/o=.ct ρ2)/\S a' ds ρ2/\go a (d::ds)=go a' ds)\/(Mg o=true/\Q (go a (d::ds)) o)
def Fe{S:α->List γ->Rho->Prop}{go:α->List γ->β}{Q:β->Out->Prop}{a:α}{d:γ}{ds:List γ} (a':α) (h:S a' ds ρ) (e:go a (d::ds)=go a' ds):RK S go Q a d ds (.nx ρ):=.inl ⟨a',ρ,.inl rfl,h,e⟩
theorem Ek{g:D->Rho->Res Rho} (c:γ->D) (S:α->List γ->Rho->Prop) (go:α->List γ->β) (Q:β->Out->Prop) (nil:∀a ρ,S a [] ρ->Q (go a []) (.nx ρ))
  (cons:∀a d ds ρ,S a (d::ds) ρ->∃ρ1,g (c d) ρ=.ok ρ1/\RK S go Q a d ds (tb ρ1)) :
  ∀ds a ρ,S a ds ρ->Q (go a ds) (Yn g tb (ds.map c) ρ)
 | [],a,ρ,h=>nil a ρ h
 | d::ds,a,ρ,h=>by
  obtain⟨ρ1,e,k⟩:=cons a d ds ρ h;simp only[w9,Yn,e,R9,go_ok];rcases k with⟨a',ρ2,k1,k2,k3⟩|⟨k1,k2⟩
  ·rw [k3]
   rcases k1 with k1|k1<;>rw[k1]<;>exact Ek c S go Q nil cons ds a' ρ2 k2
  ·generalize tb ρ1=o at k1 k2 |-
   cases o<;>first|exact k2|cases k1
noncomputable def X1 (p:RR):List DK:=[.s p.1,.t (p.2.map DK.s)]
theorem Ay:∀ss:List Str,Xc (ss.map D.str)=some (ss.map DK.s)
 | []=>rfl
 | z::ss=>by simp[Xc,UJ,Ay ss]
theorem BE:∀ss:List Str,DK.pys (ss.map DK.s)=ss.map PyData.str
 | []=>rfl
 | z::ss=>by simp[DK.pys,DK.py,BE ss]
theorem Bk:∀ss:List Str,DK.deps (ss.map DK.s)=0
 | []=>rfl
 | z::ss=>by simp[DK.deps,DK.dep,Bk ss]
theorem xP {p:RR} (o:VU p):Sj (X1 p)=true:=by
 have e:(DK.t (X1 p)).py=Tn p:=by simp[X1,DK.py,DK.pys,BE,Tn]
 have d:=GZ p.2;have h1:=o.gh;simp[ZH] at h1;unfold Sj;rw[e];have s:SeqAt.shaped (Tn p)=true:=by
  simp[SeqAt.shaped,Tn,PyData.canLay0,PyData.canLayAll0,h1.1,Hc o.gs,PyData.depth,PyData.depthAll];lia
 simp[s,X1,DK.dep,DK.deps,Bk]
def A7 {p:RR} (o:VU p):V5 (rT p)=.ok (X1 p):=by
 have e:Xc [D.str p.1,.tup (p.2.map D.str)]=some (X1 p):=by simp[Xc,UJ,Ay,X1]
 show(match Xc [D.str p.1,.tup (p.2.map D.str)] with|some ks=>gd (Sj ks=true) (.ok ks)|none=>.bad)=_
 rw[e];simp[xP o]
def A8 {p q:RR} (h:X1 p=X1 q):p=q:=by
 obtain⟨a,as⟩:=p;obtain⟨b,bs⟩:=q;simp only[X1,List.cons.injEq,DK.s.injEq,DK.t.injEq,and_true] at h;obtain⟨rfl,h⟩:=h
 have:∀as bs:List Str,as.map DK.s=bs.map DK.s->as=bs:=by
  intro as;induction as with
  | nil=>intro bs h;cases bs with|nil=>rfl|cons _ _=>cases h
  | cons x as ih =>
   intro bs h;cases bs with
   | nil=>cases h
   | cons y bs =>
    simp only[w9,List.cons.injEq,DK.s.injEq] at h;rw[h.1,ih bs h.2]
 rw[this as bs h]
def PH{p:RR}{rs:List RR}{kvs:List (List DK×D)} (o:VU p) (e:kvs.map (·.1)=rs.map X1):TF w false (rT p) (.dn (Xx w) kvs)=.ok (.bl (decide (p∈rs))):=by
 have q:TF w false (rT p) (.dn (Xx w) kvs)=IZ w false (rT p) (Xx w) kvs:=by
  unfold TF;exact Bo w false _ _ _
 rw[q];unfold IZ;rw[A7 o,Res.bind_ok,if_pos rfl,e]
 have:(X1 p∈rs.map X1)↔p∈rs:=by
  rw[u3];exact⟨λz9133=>by obtain⟨q,hq,e⟩:=z9133;exact A8 e ▸ hq,λh=>⟨p,h,rfl⟩⟩
 simp[this]
def Qx{p:RR}{kvs:List (List DK×D)} (o:VU p) (hl:kvs.length<=100) (hv:fv ρ=.ok (.bl true)) (hi:fi ρ=.ok (rT p)) (hg:Ps ρ 1=.ok (Xx w,kvs)) :
  Ue w 1 fi fv ρ=.nx (ρ.set 1 (some (.own (.n (Xx w) (UQ kvs (X1 p) (.bl true)))))):=by
 unfold Ue;rw[hv,go_ok,hg,go_ok,hi,go_ok,A7 o,go_ok,if_pos ⟨rfl,RB hl (by decide)⟩]
def xh{p:RR}{rs:List RR}{kvs:List (List DK×D)} (e:kvs.map (·.1)=rs.map X1) (n:¬ p∈rs):(UQ kvs (X1 p) d).map (·.1)=(rs++[p]).map X1:=by
 unfold UQ
 have:¬ X1 p∈kvs.map (·.1):=by
  rw[e,u3];exact λ⟨q,hq,z⟩=>n (A8 z ▸ hq)
 rw[if_neg this,OU,OU,e];rfl
@[simp] theorem KS (ds:List D):items (.lst ds)=.ok ds:=rfl
@[simp] theorem KU (ds:List D):items (.tup ds)=.ok ds:=rfl
theorem zG:∀{hs:List Str},(∀b∈hs,ZH b=true)->XF (hs.map D.str)=.ok (hs.map PyData.str)
 | [],_=>rfl
 | z::hs,h=>by
  have h1:=h z z6;simp[ZH] at h1;simp[XF,Hn h1.1,zG λb hb=>h b (z5 _ hb)]
def B1(g:ZH z=true) (gs:∀b∈hs,ZH b=true) (WL:Bool):T5 (.str z) (hs.map D.str) WL=.ok (.bl (if WL=true then !decide (z∈hs) else decide (z∈hs))):=by
 simp[ZH] at g;have e:((hs.map PyData.str).any λb=>PyData.eqv b (.str z))=decide (z∈hs):=by
  rw[List.any_map,Lu,List.any_eq_true,decide_eq_true_eq];constructor
  ·rintro ⟨q,hq,e⟩
   simp only[Function.comp,Hk,beq_iff_eq] at e;rw[<- e];exact hq
  ·intro h
   exact⟨z,h,by simp only[Function.comp,Hk,beq_iff_eq]⟩
 simp only[T5,Hn g.1,zG gs,Res.bind_ok,e]
def vA(g:ZH z=true) (gs:∀b∈hs,ZH b=true):Wj (.str z) (.lst (hs.map D.str))=.ok (.bl (!decide (z∈hs))):=by
 rw[show Wj (.str z) (.lst (hs.map D.str))=T5 (.str z) (hs.map D.str) true from Kc true _ _,B1 g gs]
 rfl
noncomputable def Vp (rs:List RR):List Str:=rs.map (·.1)
noncomputable def Yi (rs:List RR):List Str:=Ym (Z5 (Vp rs))
noncomputable def XU (ss:List Str) (b:Str):List Str:=if XR b=true then Xf ss b else ss
noncomputable def Tc (ss:List Str) (rs:List RR):List Str:=rs.foldl (λss p=>p.2.foldl XU ss) ss
def vG {rs:List RR} (h:∀p∈rs,VU p):∀b∈Yi rs,ZH b=true:=λb hb=>by
 obtain⟨p,hp,rfl⟩:=u3.mp (GD.mp (JY.mp hb));exact(h p hp).gh
noncomputable def Cw:D->D
 | .tup (.str h::_)=>.str h
 | _=>.non
def PB (rs:List RR):((rs.map rT).map Cw)=(Vp rs).map D.str:=by
 unfold Vp;rw[OV,OV];rfl
@[simp] theorem xu(h:ss.length<64):Cn (.lst (ss.map D.str))=.ok (.lst ((Ym (Z5 ss)).map D.str)):=by
 show(match WH (ss.map D.str) with|some ss=>gd (ss.length<64) (Res.ok (D.lst ((Ym (Z5 ss)).map D.str)))|none=>.bad)=_
 rw[yT];simp[h]
def Pj (z b:Str):Pi (.str z) (.inr b)=decide (z=b):=by
 have:=Lk (.inr z) (.inr b)
 rw[show kD (.inr z)=D.str z from rfl] at this
 rw[this];by_cases c:z=b<;>simp[c]
theorem Br:∀{ps:List (D×D)}{ss:List Str},ps.map (·.1)=ss.map D.str->ps.any (λp=>Pi p.1 (.inr b))=decide (b∈ss)
 | [],[],_=>rfl
 | [],_::_,e=>by cases e
 | _::_,[],e=>by cases e
 | (k,d)::ps,z::ss,e=>by
  simp only[w9,List.cons.injEq] at e;rw[List.any_cons,Br e.2,e.1,Pj];by_cases c:z=b
  ·subst c;simp
  ·have c':¬ b=z:=fun h=>c h.symm
   simp[c,c']
def vP{ps:List (D×D)} (e:ps.map (·.1)=ss.map D.str):(Tb ps (.inr b) d).map (·.1)=(Xf ss b).map D.str:=by
 unfold Tb Xf;rw[Br e];by_cases c:b∈ss
 ·rw [if_pos (by simpa using c),if_pos c,<- e,OV]
  refine List.map_congr_left λp _=>?_
  simp only[Function.comp]
  split<;>rfl
 ·rw [if_neg (by simpa using c),if_neg c,OU,OU,e]
  rfl
theorem yY:∀{ps:List (D×D)}{ss:List Str},ps.map (·.1)=ss.map D.str->Xp ps=some ss
 | [],[],_=>rfl
 | [],_::_,e=>by cases e
 | _::_,[],e=>by cases e
 | (k,d)::ps,z::ss,e=>by
  simp only[w9,List.cons.injEq] at e;obtain⟨rfl,e⟩:=e;simp[Xp,yY e]
def yd{P:Str->Prop} (h:∀z∈ss,P z) (hb:P b):∀z∈Xf ss b,P z:=λz hz=>by
 unfold Xf at hz;split at hz
 ·exact h z hz
 ·rcases u9.mp hz with q | q
  ·exact h z q
  ·rw[v8.mp q];exact hb
def wp{P:Str->Prop} (h:∀z∈ss,P z) (hb:XR b=true->P b):∀z∈XU ss b,P z:=by
 unfold XU;by_cases c:XR b=true
 ·rw[if_pos c];exact yd h (hb c)
 ·rw[if_neg c];exact h
theorem As {P:Str->Prop}:∀{bs ss:List Str},(∀z∈ss,P z)->(∀b∈bs,XR b=true->P b)->∀z∈bs.foldl XU ss,P z
 | [],_,h,_=>h
 | b::bs,ss,h,hb=>As (bs:=bs) (wp h (hb b z6)) λx hx=>hb x (z5 _ hx)
theorem ER {P:Str->Prop}:∀{rs:List RR}{ss:List Str},(∀z∈ss,P z)->(∀p∈rs,∀b∈p.2,XR b=true->P b)->∀z∈Tc ss rs,P z
 | [],_,h,_=>h
 | p::rs,ss,h,hb=>ER (rs:=rs) (As h (hb p z6)) λq hq=>hb q (z5 _ hq)
theorem BQ:∀{rs:List RR}{ss:List Str},ss.Nodup->(Tc ss rs).Nodup
 | [],_,h=>h
 | p::rs,ss,h=>BQ (rs:=rs) (by
  show(p.2.foldl XU ss).Nodup
  have:∀(bs ss:List Str),ss.Nodup->(bs.foldl XU ss).Nodup:=by
   intro bs;induction bs with
   | nil=>intro ss h;exact h
   | cons b bs ih =>
    intro ss h;refine ih _ ?_;unfold XU;split
    ·exact zb h
    ·exact h
  exact this _ _ h)
theorem AK{pool:List Str} (nd:ss.Nodup) (h:∀z∈ss,z∈pool):ss.length<=pool.length:=by
 induction ss generalizing pool with
 | nil=>simp
 | cons z ss ih =>
  obtain⟨h1,h2⟩:=OT.mp nd;have hz:=h z z6
  have:=ih (pool:=pool.erase z) h2 λy hy=>(List.mem_erase_of_ne (λe:y=z=>h1 (e ▸ hy))).mpr (h y (z5 _ hy))
  rw[List.length_erase_of_mem hz] at this
  have:0<pool.length:=List.length_pos_of_mem hz
  simp only[u6];lia
structure Lx (rs:List RR):Prop where
 ok:∀p∈rs,VU p
 n:rs.length<=20
 s:(Tc [] rs).length<64
def rA (ds:D) (ss:List Str) (rs:List RR) (ρ:Rho):Prop:=(∀p∈rs,VU p)/\ss.length+4*rs.length<=200/\∃kvs x y,ρ=[some (.val ds),some (.own (.d kvs)),x,y]/\kvs.map (·.1)=ss.map D.str
def FZ (ds:D) (ss:List Str) (o:Out):Prop:=∃kvs x y,o=.nx [some (.val ds),some (.own (.d kvs)),x,y]/\kvs.map (·.1)=ss.map D.str
def rB (ds:D) (r:Option Sl) (ss:List Str) (bs:List Str) (ρ:Rho):Prop:=(∀b∈bs,ZH b=true)/\ss.length+bs.length<=200/\∃kvs y,ρ=[some (.val ds),some (.own (.d kvs)),r,y]/\kvs.map (·.1)=ss.map D.str
theorem Ev (ss:List Str) (b:Str):(XU ss b).length<=ss.length+1:=by
 unfold XU;split
 ·exact AH ss b
 ·lia
theorem yZ:∀(bs ss:List Str),(bs.foldl XU ss).length<=ss.length+bs.length
 | [],ss=>by simp
 | b::bs,ss=>by
  have:=yZ bs (XU ss b)
  have:=Ev ss b
  simp only[List.foldl_cons,u6];lia
def N6{kvs:List (D×D)}{ss:List Str} (hl:kvs.length<=1000) (hv:fv ρ=.ok (.bl true)) (hi:fi ρ=.ok (.str b)) (hg:Ti ρ 1=.ok kvs) :
  Th 1 fi fv ρ=.nx (ρ.set 1 (some (.own (.d (Tb kvs (.inr b) (.bl true)))))):=by
 unfold Th;rw[hv,go_ok,hg,go_ok,hi,go_ok,show Sa (.str b)=.ok (.inr b) from rfl,go_ok,if_pos (RB hl (by decide))]
abbrev dN (n:Nat):D:=.int (n:Int)
theorem Ap{g:D->Rho->Res Rho} (S:List D->Rho->Prop) (Q:Out->Prop) (nil:∀ρ,S [] ρ->Q (.nx ρ))
  (cons:∀d ds ρ,S (d::ds) ρ->∃ρ1,g d ρ=.ok ρ1/\((∃ρ2,tb ρ1=.nx ρ2/\S ds ρ2)\/∃v,tb ρ1=.rt v/\Q (.rt v))):∀ds ρ,S ds ρ->Q (Yn g tb ds ρ)
 | [],ρ,h=>nil ρ h
 | d::ds,ρ,h=>by
  obtain⟨ρ1,e,k⟩:=cons d ds ρ h;simp only[Yn,e,R9,go_ok];rcases k with⟨ρ2,k1,k2⟩|⟨v,k1,k2⟩
  ·rw[k1];exact Ap S Q nil cons ds ρ2 k2
  ·rw[k1];exact k2
theorem vW (k m:Nat):Y6 (k:Int) (m+1)=dN k::Y6 ((k+1:Nat):Int) m:=by
 simp[Y6,List.range_succ_eq_map,Function.comp_def,dN];intro a _;lia
theorem zo{g:D->Rho->Res Rho} (n:Nat) (S:Nat->Rho->Prop) (Q:Out->Prop) (nil:∀ρ,S n ρ->Q (.nx ρ))
  (cons:∀k ρ,k<n->S k ρ->∃ρ1,g (dN k) ρ=.ok ρ1/\((∃ρ2,tb ρ1=.nx ρ2/\S (k+1) ρ2)\/∃v,tb ρ1=.rt v/\Q (.rt v))):∀m k ρ,k+m=n->S k ρ->Q (Yn g tb (Y6 (k:Int) m) ρ)
 | 0,k,ρ,e,h=>by subst e;exact nil ρ h
 | m+1,k,ρ,e,h=>by
  rw[vW];obtain⟨ρ1,e1,z⟩:=cons k ρ (by lia) h
  simp only[Yn,e1,R9,go_ok];rcases z with⟨ρ2,k1,k2⟩|⟨v,k1,k2⟩
  ·rw[k1];exact zo n S Q nil cons m (k+1) ρ2 (by lia) k2
  ·rw[k1];exact k2
theorem EB{g:D->Rho->Res Rho} (S:Nat->Rho->Prop) (Q:Out->Prop)  (h0:S 0 ρ) (nil:∀ρ,S n ρ->Q (.nx ρ))
  (cons:∀k ρ,k<n->S k ρ->∃ρ1,g (dN k) ρ=.ok ρ1/\((∃ρ2,tb ρ1=.nx ρ2/\S (k+1) ρ2)\/∃v,tb ρ1=.rt v/\Q (.rt v))):Q (Yn g tb (Y6 0 n) ρ) :=
 zo n S Q nil cons n 0 ρ (by lia) h0
theorem EE{P:D->Prop}{g:D->Rho->Res Rho}:∀{ds:List D},(∀d∈ds,∃ρ1 y,g d ρ=.ok ρ1/\fT (frz ρ1)=.ok true/\fe ρ1=.ok y/\P y)->∃ys,YH g fT fe ρ ds=.ok ys/\ys.length=ds.length/\∀y∈ys,P y
 | [],_=>⟨[],rfl,rfl,λy h=>(nomatch h)⟩
 | d::ds,h=>by
  obtain⟨ρ1,y,e1,e2,e3,hp⟩:=h d z6;obtain⟨ys,e,hl,hy⟩:=EE (ds:=ds) λx hx=>h x (z5 _ hx)
  refine⟨y::ys,?_,by simp[hl],λz hz=>?_⟩
  ·simp[YH,e1,e2,e3,e]
  ·rcases y0.mp hz with rfl | hz
   ·exact hp
   ·exact hy z hz
def Ad(h:d∈Y6 0 n):∃k,k<n/\d=dN k:=by
 simp[Y6] at h;obtain⟨k,hk,e⟩:=h;exact⟨k,hk,e.symm⟩
def Ae (n:Nat):(Y6 0 n).length=n:=by simp[Y6]
theorem N5{c:α->D}{p:α->Prop}:∀{ys:List D},(∀y∈ys,∃z,y=c z/\p z)->∃zs:List α,ys=zs.map c/\∀z∈zs,p z
 | [],_=>⟨[],rfl,λz h=>(nomatch h)⟩
 | y::ys,h=>by
  obtain⟨z,e,hz⟩:=h y z6;obtain⟨zs,e2,hzs⟩:=N5 (ys:=ys) λx hx=>h x (z5 _ hx)
  refine⟨z::zs,by rw[e,e2];rfl,λx hx=>?_⟩
  rcases y0.mp hx with rfl|hx
  ·exact hz
  ·exact hzs x hx
def UO{c:α->D}{rs:List α} (h:i<rs.length):Xi (.lst (rs.map c)) (.int (i:Int))=.ok (c rs[i]):=Kp (by rw[w6,y9 h];rfl)
def Fz{c:α->D}{rs:List α} (h:i<rs.length):∃x,x∈rs/\Xi (.lst (rs.map c)) (.int (i:Int))=.ok (c x):=⟨rs[i],t7 h,UO h⟩
def Kn (x y:D) (l:List D):Xi (.lst (x::y::l)) (.int 1)=.ok y:=Kp (i:=1) rfl
def S8 (x y z:D) (l:List D):Xi (.lst (x::y::z::l)) (.int 2)=.ok z:=Kp (i:=2) rfl
theorem Q0 (a:Int) {b:Nat} (h:0<b):∃m:Nat,a%(b:Int)=(m:Int)/\m<b:=by
 have h1:=Int.emod_nonneg a (show(b:Int)≠0 by lia)
 have h2:=Int.emod_lt_of_pos a (show(0:Int)<(b:Int) by lia)
 exact⟨(a%b).toNat,by lia,by lia⟩
theorem VF (a:Int) {b:Int} (h:0<b):∃m:Nat,a%b=(m:Int)/\(m:Int)<b:=by
 have h1:=Int.emod_nonneg a (show b≠0 by lia)
 have h2:=Int.emod_lt_of_pos a h;exact⟨(a%b).toNat,by lia,by lia⟩
@[simp] theorem Cb (i j:Int):VD (.int i) (.int j)=.ok (.int (i+j)):=VH rfl rfl
def Vc{i:Int} (h:0<j):Xg (.int i) (.int j)=.ok (.int (i%j)):=if_pos h
def OL{i:Int} (h:0<j) (h2:j<2^64):Vg (.int i) (.int j)=.ok (.int (i / j)):=if_pos ⟨h,h2⟩
theorem Ln(h:n<=1000):TN [.int (n:Int)]=.ok (Y6 0 n):=by
 show gd _ _=_;rw[Wx (by lia),Int.toNat_natCast]
def QF(j:Int) (e:j=n) (h:n<=1000):TN [.int j]=.ok (Y6 0 n):=by rw[e,Ln h]
def Zf(a:α) (f:α->Res β):(Res.ok a).bind f=f a:=VH rfl rfl
def WR(a:α) (ρ:Rho) (k:α->Out):(Res.ok a).go ρ k=k a:=VH rfl rfl
def Zg (ρ:Rho) (f:Rho->Out):(Out.nx ρ).andThen f=f ρ:=VH rfl rfl
def Hm{xs:List α}{lo hi:Option Int}{x:α} (h:x∈YC xs lo hi):x∈xs:=NK (Lr h)
def O0(xs:List α) (n:Nat):YC xs none (some (n:Int))=xs.take n:=by
 unfold YC;rw[HT.sIx_none,HT.sIx_nat];simp[List.take_eq_take_min]
theorem HU(xs:List α) (n:Nat):YC xs (some (n:Int)) none=xs.drop n:=by
 unfold YC;rw[HT.sIx_none,HT.sIx_nat];by_cases h:n<=xs.length
 ·rw[Nat.min_eq_left h,YM (by simp)]
 ·rw [Nat.min_eq_right (by lia),List.drop_length,List.drop_of_length_le (by lia)]
  simp
def Fo(c:α->D) (xs:List α) (lo hi:Option Int):YC (xs.map c) lo hi=(YC xs lo hi).map c:=by
 unfold YC;rw[v0,List.map_take,List.map_drop]
def th{Q:Out->Prop}{f:Rho->Out} (h:a=.nx ρ) (k:Q (f ρ)):Q (a.andThen f):=by rw[h];exact k
def SM{Q:Out->Prop}{r:Res α}{k:α->Out}{v:α} (h:r=.ok v) (q:Q (k v)):Q (r.go ρ k):=by rw[h];exact q
def JP{Q T:Out->Prop}{f:Rho->Out} (q:T a) (k:∀o,T o->Q (o.andThen f)):Q (a.andThen f):=k _ q
def Xj (v:D) (o:Out):Prop:=o=.rt v
def Sr{m:Nat}{v:D} (hl:ds.length=m) (h:Xj v (t (ZV n ds))):Zq n m t ds=.ok v:=by unfold Zq;rw[if_pos hl,h];rfl
def Vf{Q:Out->Prop}{r:Res α}{ρ2:Rho}{k:α->Out}{f:Rho->Out} (v:α) (h:r=.ok v) (e:k v=.nx ρ2) (q:Q (f ρ2)):Q ((r.go ρ k).andThen f):=by rw[h];exact th e q
def G2{Q:Out->Prop}{r:Res Bool}{k:Bool->Out}{f:Rho->Out} (b:Bool) (h:r=.ok b) (t:b=true->Q ((k true).andThen f)) (e:b=false->Q ((k false).andThen f)):Q ((r.go ρ k).andThen f):=by
 rw[h];cases b
 ·exact e rfl
 ·exact t rfl
def SK(S:List γ->Rho->Prop) (Q:Out->Prop) (xs:List γ) (o:Out):Prop:=(∃ρ2,o=.nx ρ2/\S xs ρ2)\/∃v,o=.rt v/\Q (.rt v)
def rE{Q:Out->Prop}{r:Res Bool}{k:Bool->Out} (b:Bool) (h:r=.ok b) (t:b=true->Q (k true)) (e:b=false->Q (k false)):Q (r.go ρ k):=by
 rw[h];cases b
 ·exact e rfl
 ·exact t rfl
theorem Ka{g:D->Rho->Res Rho} (c:γ->D) (S:List γ->Rho->Prop) (Q:Out->Prop) (nil:∀ρ,S [] ρ->Q (.nx ρ))
  (cons:∀x xs ρ,S (x::xs) ρ->∃ρ1,g (c x) ρ=.ok ρ1/\SK S Q xs (tb ρ1)):∀xs ρ,S xs ρ->Q (Yn g tb (xs.map c) ρ)
 | [],ρ,h=>nil ρ h
 | x::xs,ρ,h=>by
  obtain⟨ρ1,e,z⟩:=cons x xs ρ h;simp only[w9,Yn,e,R9,go_ok];rcases z with⟨ρ2,k1,k2⟩|⟨v,k1,k2⟩
  ·rw[k1];exact Ka c S Q nil cons xs ρ2 k2
  ·rw[k1];exact k2
theorem Fk{g:D->Rho->Res Rho} (c:γ->D) (S:Nat->List γ->Rho->Prop) (Q:Out->Prop) (nil:∀k ρ,S k [] ρ->Q (.nx ρ))
  (cons:∀k x xs ρ,S k (x::xs) ρ->∃ρ1,g (.tup [dN k,c x]) ρ=.ok ρ1/\((∃ρ2,tb ρ1=.nx ρ2/\S (k+1) xs ρ2)\/∃v,tb ρ1=.rt v/\Q (.rt v))):∀xs k ρ,S k xs ρ->Q (Yn g tb (((xs.map c).zipIdx k).map λp=>.tup [.int (p.2:Nat),p.1]) ρ)
 | [],k,ρ,h=>nil k ρ h
 | x::xs,k,ρ,h=>by
  obtain⟨ρ1,e,z⟩:=cons k x xs ρ h;rw[w9,wO];simp only[Yn,e,R9,go_ok];rcases z with⟨ρ2,k1,k2⟩|⟨v,k1,k2⟩
  ·rw[k1];exact Fk c S Q nil cons xs (k+1) ρ2 k2
  ·rw[k1];exact k2
theorem Fj{g:D->Rho->Res Rho} (c:γ->D) (S:List γ->Rho->Prop) (Q:Out->Prop) (nil:∀ρ,S [] ρ->Q (.nx ρ)):∀xs:List γ,
  (∀x∈xs,∀ys ρ,S (x::ys) ρ->∃ρ1,g (c x) ρ=.ok ρ1/\SK S Q ys (tb ρ1))->∀ρ,S xs ρ->Q (Yn g tb (xs.map c) ρ)
 | [],_,ρ,h=>nil ρ h
 | x::xs,k,ρ,h=>by
  obtain⟨ρ1,e,z⟩:=k x z6 xs ρ h;simp only[w9,Yn,e,R9,go_ok];rcases z with⟨ρ2,k1,k2⟩|⟨v,k1,k2⟩
  ·rw[k1];exact Fj c S Q nil xs (λy hy=>k y (z5 _ hy)) ρ2 k2
  ·rw[k1];exact k2
noncomputable abbrev dR (rs:List RR):D:=.lst (rs.map rT)
def Py {p:RR} (h:ZH p.1=true) (k:∀b∈p.2,ZH b=true):Y3 (rT p)=true:=by
 show WT [.str p.1,.tup (p.2.map D.str)]=true
 have:WT (p.2.map D.str)=true:=B4 λd hd=>by
  obtain⟨b,hb,rfl⟩:=u3.mp hd;exact k b hb
 simp only[WT,Y3,h,this];rfl
def JA{m:Nat} (hl:ds.length=m) (h:∃ρ,t (ZV n ds)=.nx ρ):Zq n m t ds=.ok .non:=by
 obtain⟨ρ,e⟩:=h;unfold Zq;rw[if_pos hl,e];rfl
structure Ie (rs:List RR):Prop where
 f:Lx rs
 n:1<=rs.length
 nd:rs.Nodup
 kn:∀p∈rs,∀b∈p.2,RX b=true->b∈Yi rs
 hs:(Yi rs).length<=8
 ss:(Tc [] rs).length<=10
inductive rq (w:World) (rs:List RR) (k:Nat) (xs:List RR) (ρ:Rho):Prop
 | mk (ys:List RR) (kvs:List (List DK×D)) (x y:Option Sl) (e:rs=ys++xs) (hk:k=ys.length) (eρ:ρ=[some (.val (dR rs)),some (.own (.n (Xx w) kvs)),x,y]) (ek:kvs.map (·.1)=ys.map X1)
inductive rj (a b:D) (xs:List RR) (ρ:Rho):Prop
 | mk (x y:Option Sl) (e:ρ=[some (.val a),some (.val b),x,y])
inductive re (a b c:D) (xs:List Str) (ρ:Rho):Prop
 | mk (y:Option Sl) (e:ρ=[some (.val a),some (.val b),some (.val c),y])
theorem uu (F:Fun K "heads_in" "heads_in" GF f fd) (T:Txt P w K mg A):∃G,FnOk P w K mg base Z0 1 f fd ["rules"] (Zt K G)/\∀(rs:List RR) (d:D),items d=.ok (rs.map rT)->rs.length<64->G [d]=.ok (.lst ((Yi rs).map D.str)):=by
 refine⟨_,F.okT (k:=0) ue (λZm Ar outer s H E hr=>Zn (YL (LR rfl T.z_sorted T.z_set (ZW (DN.de (Tt ["rule"] [] rfl (Uy (sc:=ZX GF) (N:=["rules"]) (by decide +kernel)) (VS (dv 0)) (YT (show(["rule"]:List Str).Nodup by decide +kernel)) Tq (ZA ZD (dv 0) ZT))) ZU)))),?_⟩
 intro rs d hi hl;simp[Zq,ZV,hi];rw[Wx (Tr (by lia)),OH Cw (λd hd=>?_)]
 ·simp only [PB,Res.bind_ok,Sx,Mz]
  rw[xu (by simpa[Vp] using hl)]
  simp[Yi]
 ·obtain ⟨p,_,rfl⟩:=u3.mp hd
  exact⟨_,rfl,rfl,by simp[Xs,rT,PL,Cw]⟩
theorem uk(a0i:Callee P w K mg base 2 "is_sign" ["thing"] (Zt K a0n)) (a1c:P1 WG a0n) (F:Fun K "signs_in" "signs_in" DV f fd) (T:Txt P w K mg A):∃G,FnOk P w K mg base Z0 3 f fd ["rules"] (Zt K G)/\∀(rs:List RR) (d:D),items d=.ok (rs.map rT)->Lx rs->G [d]=.ok (.lst ((Ym (Tc [] rs)).map D.str)):=by
 refine⟨_,F.okT (k:=2) GI (λZm Ar outer s H E hr=>Zu (Uz GI.nd BF)
  (Zu (UA rfl (VS (dv 0)) (YT GI.nd)
  (Zn (UA rfl (VS (ZA ZD (dv 2) ZT)) (YT GI.nd)
   (Zn (XH (X9 (Zz a0i hr (ZW (dv 3) ZU))) (Zn (Pe 1 (RY hr) (dv 3) XB)) XA)))))
  (Zn (YL (Yh (P4 rfl) T.z_sorted (by decide +kernel) (ZW (dv 1) ZU)))))),?_⟩
 intro rs d hi fw;simp[Zq,ZV,hi];have key:∀o,FZ d (Tc [] rs) o->YD (Ul (o.andThen λρ=>(((Wl (frz ρ) 1).bind λd=>Res.ok [d]).bind λds=>YD (G7 ds)).go ρ λd=>Out.rt d))=.ok (.lst ((Ym (Tc [] rs)).map D.str)):=by
  rintro o ⟨kvs,x,y,rfl,ek⟩;have e:G7 [.dct kvs]=.ok (.lst ((Ym (Tc [] rs)).map D.str)):=by
   show(match Xp kvs with|some ss=>gd (ss.length<64/\∀z∈ss,z.length<=sizeLine) (Res.ok (D.lst ((Ym ss).map D.str)))|none=>.bad)=_
   rw[yY ek];simp only;refine Wx ⟨fw.s,λz hz=>?_⟩
   have:=ER (P:=λz=>ZH z=true) (ss:=[]) (rs:=rs) (λz h=>(nomatch h)) (λp hp b hb _=>(fw.ok p hp).gs b hb) z hz
   simp[ZH] at this;exact Tr this.2
  simp[OD.toD,e]
 apply key;refine Ek rT (rA d) Tc (FZ _) ?_ ?_ rs [] _ ⟨fw.ok,by have:=fw.n;simp;lia,[],none,none,rfl,rfl⟩
 ·intro ss ρ hY
  refine bc λhZ=>?_
  obtain⟨_,_,kvs,x,y,rfl,ek⟩:=hY;refine hZ ?_;exact⟨kvs,x,y,rfl,ek⟩
 ·intro ss p ps ρ hY
  refine bc λhZ=>?_
  obtain⟨ok,hl,kvs,x,y,rfl,ek⟩:=hY;refine hZ ?_;have op:=ok p z6;refine⟨_,rfl,?_⟩;simp[rT,Mi];generalize hI:Yn _ _ _ _=o;have q:FZ d (p.2.foldl XU ss) o:=by
   rw[<- hI];refine Ek D.str (rB d (some (.val (rT p)))) (λss bs=>bs.foldl XU ss) (FZ _) ?_ ?_ p.2 ss _ ⟨op.gs,by have:=op.l;simp at hl;lia,kvs,y,rfl,ek⟩
   ·rintro ss ρ ⟨_,_,kvs,y,rfl,ek⟩
    exact⟨kvs,_,y,rfl,ek⟩
   ·rintro ss b bs ρ ⟨gs,hl,kvs,y,rfl,ek⟩
    have hk:kvs.length=ss.length:=by have:=congrArg List.length ek;simpa using this
    refine⟨_,rfl,?_⟩;simp[a1c (.str b) (by simpa[Y3] using gs b z6),WG]
    by_cases c:XR b=true
    ·simp only [c,if_true]
     rw[N6 (ss:=ss) (kvs:=kvs) (b:=b) (by simp at hl;lia) rfl rfl rfl]
     exact Fe (XU ss b) ⟨λz hz=>gs z (z5 _ hz),by have:=Ev ss b;simp at hl;lia,_,_,rfl,by unfold XU;rw[if_pos c];exact vP ek⟩ rfl
    ·simp only [c]
     exact Fe (XU ss b) ⟨λz hz=>gs z (z5 _ hz),by have:=Ev ss b;simp at hl;lia,_,_,rfl,by unfold XU;rw[if_neg c];exact ek⟩ rfl
  obtain⟨kvs',x',y',rfl,ek'⟩:=q;exact Fe (p.2.foldl XU ss) ⟨λz hz=>ok z (z5 _ hz),by have:=yZ p.2 ss;have:=op.l;simp at hl;lia,_,_,_,rfl,ek'⟩ rfl
theorem tj {a5o:FD} (a4h:Callee P w K mg base 5 "is_rule" ["thing"] (Zt K a5o)) (a4e:P1 Wg a5o) (F:Fun K "need_rules" "need_rules" DM f fd) (T:Txt P w K mg A):∃G,FnOk P w K mg base Z0 6 f fd ["rules"] (Zt K G)/\∀rs:List RR,(∀p∈rs,VU p)->1<=rs.length->rs.length<=20->rs.Nodup->G [dR rs]=.ok .non:=by
 refine⟨_,F.okT (k:=5) Gu (λZm Ar outer s H E hr=>Zu (XH (VQ (X9 (Yh UX T.z_isinstance (by decide +kernel) (ZW (dv 0) (ZW (X0 T.z_list (T:="list") (by decide +kernel)) ZU))))) (Zn Sy) XA)
  (Zu (XH (VQ (Ax Uj Uj ZT (Yh X3 T.z_len (by decide +kernel) (ZW (dv 0) ZU)) (Re T.g_MOST_RULES))) (Zn Sy) XA)
  (Zu (Uz Gu.nd Pc)
  (Zn (UA rfl (Bl T.z_enumerate (ZW (dv 0) ZU)) (OM (n:=2) rfl (U8 (YT Gu.nd) (U8 (YT Gu.nd) OJ)))
  (Zu (XH (VQ (X9 (Zz a4h hr (ZW (dv 3) ZU)))) (Zn Sy) XA)
   (Zu (XH (Xk (Ji (RY hr)) (dv 3) (dv 1)) (Zn Sy) XA)
   (Zn (Pg 1 (RY hr) (dv 3) XB))))))))),?_⟩
 intro rs ok l1 l2 nd;refine JA rfl ?_;have c1:(1:Int)<=rs.length:=by lia
 have c2:(rs.length:Int)<=20:=by lia
 have i1:Wk [dR rs,.ty "list"]=.ok (.bl true):=rfl;refine G2 (Q:=λo=>∃ρ,o=.nx ρ) false (by simp[ZV,i1]) (λc=>by cases c) λ_=>?_
 refine th (Q:=λo=>∃ρ,o=.nx ρ) rfl ?_
 refine G2 (Q:=λo=>∃ρ,o=.nx ρ) false (by simp[ZV,Yv,c1,c2]) (λc=>by cases c) λ_=>?_
 refine th (Q:=λo=>∃ρ,o=.nx ρ) rfl ?_
 refine th (Q:=λo=>∃ρ,o=.nx ρ) rfl ?_
 refine SM (Q:=λo=>∃ρ,o=.nx ρ) (v:=Vn (rs.map rT)) rfl ?_
 refine Fk rT (rq w rs) (λo=>∃ρ,o=.nx ρ) (λk ρ _=>⟨ρ,rfl⟩) ?_ rs 0 _ ⟨[],[],none,none,rfl,rfl,rfl,rfl⟩
 rintro k p xs ρ ⟨ys,kvs,x,y,e,hk,rfl,ek⟩;have m:p∈rs:=by rw[e];simp
 have op:=ok p m;have np:p∉ys:=λz=>by rw[e] at nd;exact(List.nodup_append.mp nd).2.2 p z p z6 rfl
 have hl:kvs.length=ys.length:=by have:=congrArg List.length ek;simpa using this
 have hy:ys.length<=rs.length:=by rw[e];simp
 refine⟨_,rfl,.inl ⟨_,?_,ys++[p],UQ kvs (X1 p) (.bl true),some (.val (dN k)),some (.val (rT p)),by rw[e,List.append_assoc];rfl,by rw[hk];simp,rfl,xh ek np⟩⟩
 refine G2 (Q:=λo=>o=_) false (by simp[a4e _ (Py op.gh op.gs),Q9 op]) (λc=>by cases c) λ_=>?_
 refine th (Q:=λo=>o=_) rfl ?_
 refine G2 (Q:=λo=>o=_) false (by simp[OD.toD,PH (w:=w) op ek,np]) (λc=>by cases c) λ_=>?_
 refine th (Q:=λo=>o=_) rfl ?_
 exact Qx (w:=w) (kvs:=kvs) op (by lia) rfl rfl rfl
theorem su(a1k:Callee P w K mg base 1 "heads_in" ["rules"] (Zt K a2e))  (a0x:Callee P w K mg base 2 "is_head" ["thing"] (Zt K a1e)) (a4g:∀(rs:List RR) (d:D),items d=.ok (rs.map rT)->rs.length<64->a2e [d]=.ok (.lst ((Yi rs).map D.str))) (a0p:P1 T4 a1e) (F:Fun K "need_known_heads" "need_known_heads" Di f fd) (T:Txt P w K mg A):∃G,FnOk P w K mg base Z0 3 f fd ["rules"] (Zt K G)/\∀rs:List RR,Lx rs->(∀p∈rs,∀b∈p.2,RX b=true->b∈Yi rs)->G [dR rs]=.ok .non:=by
 refine⟨_,F.okT (k:=2) Gp (λZm Ar outer s H E hr=>Zu (YU Gp.nd (Zz a1k hr (ZW (dv 0) ZU)))
  (Zn (UA rfl (VS (dv 0)) (YT Gp.nd)
  (Zn (UA rfl (VS (ZA ZD (dv 2) ZT)) (YT Gp.nd)
   (Zn (XH (WB (Kg (X9 (Zz a0x hr (ZW (dv 3) ZU))) (Kb (Xk (Fg (V4 hr)) (dv 3) (dv 1))))) (Zn Sy) XA))))))),?_⟩
 intro rs fw kn;have n20:=fw.n;refine JA rfl ?_;refine Vf (Q:=λo=>∃ρ,o=.nx ρ) (.lst ((Yi rs).map D.str)) (by simp[ZV,a4g rs (dR rs) rfl (by lia)]) rfl ?_
 refine SM (Q:=λo=>∃ρ,o=.nx ρ) (v:=rs.map rT) rfl ?_
 refine Fj rT (rj (dR rs) (.lst ((Yi rs).map D.str))) (λo=>∃ρ,o=.nx ρ) (λρ _=>⟨ρ,rfl⟩) rs (λp hp xs ρ hS=>?_) _ ⟨none,none,rfl⟩
 obtain⟨x,y,rfl⟩:=hS;have op:=fw.ok p hp;refine⟨_,rfl,?_⟩;refine SM (Q:=SK _ _ _) (v:=p.2.map D.str) (by simp[rT,Mi]) ?_
 refine Fj D.str (re (dR rs) (.lst ((Yi rs).map D.str)) (rT p)) (SK _ _ _) (λρ hS=>?_) p.2 (λb hb bs ρ hS=>?_) _ ⟨y,rfl⟩
 ·obtain ⟨y,rfl⟩:=hS
  exact .inl ⟨_,rfl,_,y,rfl⟩
 ·obtain ⟨y,rfl⟩:=hS
  refine⟨_,rfl,.inl ⟨_,?_,some (.val (.str b)),rfl⟩⟩;refine rE (Q:=λo=>o=_) false ?_ (λc=>by cases c) λ_=>rfl
  by_cases c:RX b=true
  ·simp[a0p (.str b) (op.gs b hb),T4,c,vA (op.gs b hb) (vG fw.ok),kn p hp b hb c]
  ·simp[a0p (.str b) (op.gs b hb),T4,c]
theorem sw(a1k:Callee P w K mg base 1 "heads_in" ["rules"] (Zt K a2e)) {a4x:FD} (a3t:Callee P w K mg base 3 "signs_in" ["rules"] (Zt K a4x)) (a4g:∀(rs:List RR) (d:D),items d=.ok (rs.map rT)->rs.length<64->a2e [d]=.ok (.lst ((Yi rs).map D.str))) (a5s:∀(rs:List RR) (d:D),items d=.ok (rs.map rT)->Lx rs->a4x [d]=.ok (.lst ((Ym (Tc [] rs)).map D.str))) (F:Fun K "need_few_symbols" "need_few_symbols" Dj f fd) (T:Txt P w K mg A):∃G,FnOk P w K mg base Z0 4 f fd ["rules"] (Zt K G)/\∀rs:List RR,Lx rs->(Yi rs).length<=8->(Tc [] rs).length<=10->G [dR rs]=.ok .non:=by
 refine⟨_,F.okT (k:=3) Dd (λZm Ar outer s H E hr=>Zu (YU Dd.nd (Zz a1k hr (ZW (dv 0) ZU)))
  (Zu (XH (Xk Ui (Yh X3 T.z_len (by decide +kernel) (ZW (dv 1) ZU)) (Re T.g_MOST_HEADS)) (Zn Sy) XA)
  (Zu (YU Dd.nd (Zz a3t hr (ZW (dv 0) ZU)))
  (Zn (XH (Xk Ui (Yh X3 T.z_len (by decide +kernel) (ZW (dv 2) ZU)) (Re T.g_MOST_SIGNS)) (Zn Sy) XA))))),?_⟩
 intro rs fw h8 s10;have n20:=fw.n;have c1:¬ (8:Int)<(Yi rs).length:=by lia
 have c2:¬ (10:Int)<(Tc [] rs).length:=by lia
 simp[Zq,ZV,a4g rs (dR rs) rfl (by lia),Yv,c1,a5s rs (dR rs) rfl fw,Ea,c2]
def tm (F:Fun K "need_ranks" "need_ranks" DP f fd) (T:Txt P w K mg A):∃G,FnOk P w K mg base Z0 1 f fd ["ranks"] (Zt K G)/\G [.tup []]=.ok .non:=by
 refine⟨_,F.okT (k:=0) DC (λZm Ar outer s H E hr=>Zu (XH (VQ (X9 (Yh UX T.z_isinstance (by decide +kernel) (ZW (dv 0) (ZW (Z6 (ZW (X0 T.z_list (T:="list") (by decide +kernel)) (ZW (X0 T.z_tuple (T:="tuple") (by decide +kernel)) ZU))) ZU))))) (Zn Sy) XA)
  (Zu (XH (Xk Ui (Yh X3 T.z_len (by decide +kernel) (ZW (dv 0) ZU)) (Re T.g_MOST_RANKS)) (Zn Sy) XA)
  (Zu (Uz DC.nd BF)
  (Zn (UA rfl (VS (dv 0)) (YT DC.nd) LU))))),rfl⟩
abbrev R5:Stmt:=VE 41 0
def yV:FnScope ["self","rules","ranks","told"] ["self","rules","ranks"] (ZX R5):=.au
def Je:Str.ofString "rules"≠Str.ofString "ranks":=by decide +kernel
def Jf:Str.ofString "rules"≠Str.ofString "start":=by decide +kernel
def Jc:Str.ofString "ranks"≠Str.ofString "start":=by decide +kernel
noncomputable def Vq:D->List D
 | .lst ds=>ds
 | _=>[]
noncomputable def JF:D->D
 | .lst (.tup (x::_)::_)=>x
 | _=>.non
noncomputable def WC (r k:D):List (Str×D):=[("rules",.tup (Vq r)),("ranks",.tup (Vq k)),("start",JF r)]
inductive Ic (r k:D):Prop
 | mk (rs:List RR) (o:Ie rs) (er:r=dR rs) (ek:k=.non)
open Classical in
noncomputable def Ws:List D->Res (List (Str×D))
 | [r,k]=>if Ic r k then .ok (WC r k) else .bad
 | _=>.bad
def An {rs:List RR} (o:Ie rs):Ws [dR rs,.non]=.ok (WC (dR rs) (dR [])):=if_pos ⟨rs,o,rfl,rfl⟩
set_option tactic.hygienic true in
def Ao{gs:List (Str×D)} (h:Ws ds=.ok gs):∃rs,ds=[dR rs,.non]/\Ie rs/\gs=WC (dR rs) .non:=by
 unfold Ws at h;split at h
 ·split at h
  ·rename_i c
   cases h;obtain⟨rs,o,rfl,rfl⟩:=c;exact⟨_,rfl,o,rfl⟩
  ·cases h
 ·cases h
def vv {a3v:FD} (a2k:Callee P w K mg base 6 "need_rules" ["rules"] (Zt K a3v)) {a1r:FD} (a0v:Callee P w K mg base 3 "need_known_heads" ["rules"] (Zt K a1r)) {a1s:FD} (a0w:Callee P w K mg base 4 "need_few_symbols" ["rules"] (Zt K a1s)) {a3w:FD} (a2l:Callee P w K mg base 1 "need_ranks" ["ranks"] (Zt K a3w)) (p_nr:∀rs:List RR,(∀p∈rs,VU p)->1<=rs.length->rs.length<=20->rs.Nodup->a3v [dR rs]=.ok .non) (p_nk:∀rs:List RR,Lx rs->(∀p∈rs,∀b∈p.2,RX b=true->b∈Yi rs)->a1r [dR rs]=.ok .non) (p_nf:∀rs:List RR,Lx rs->(Yi rs).length<=8->(Tc [] rs).length<=10->a1s [dR rs]=.ok .non) (p_nn:a3w [.tup []]=.ok .non) (F:FunD K "__init__" "Grammar.__init__" R5 f fd) (T:Txt P w K mg A):FnOk P w K mg base Z0 7 f fd ["self","rules","ranks"] (VO K A.Grammar Ws):=by
 refine F.okI0 (k:=6) yV (λds gs h=>?_) (λZm Ar outer s H E hr=>⟨_,Zu (Lb (Zz a2k hr (ZW (dv 1) ZU)))
  (Zu (Lb (Zz a0v hr (ZW (dv 1) ZU)))
  (Zu (Lb (Zz a0w hr (ZW (dv 1) ZU)))
  (Zu (YU yV.nd (HR (Xk Q6 (dv 2) Tw) (Z6 ZU) (dv 2)))
  (Zu (Lb (Zz a2l hr (ZW (dv 3) ZU)))
  (Zu (RA 0 T.cls T.na_rules (KI Le T.z_tuple (by decide +kernel) (ZW (dv 1) ZU)))
  (Zu (RA 0 T.cls T.na_ranks (KI Le T.z_tuple (by decide +kernel) (ZW (dv 3) ZU)))
  (Zn (RA 0 T.cls T.na_start (ZA ZD (ZA ZD (BG 0 T.cls (T.na_rules)) ZT) ZT))))))))),λa ds gs h=>?_⟩)
 ·obtain ⟨rs,rfl,_⟩:=Ao h
  rfl
 obtain⟨rs,rfl,o,rfl⟩:=Ao h;have e1:=p_nr rs o.f.ok o.n o.f.n o.nd;have e2:=p_nk rs o.f o.kn;have e3:=p_nf rs o.f o.hs o.ss;have e4:=p_nn;have ei:WD [.tup []]=.ok (.tup []):=rfl;have er:WD [dR rs]=.ok (.tup (rs.map rT)):=rfl;obtain⟨p,ps,ep⟩:∃p ps,rs=p::ps:=by
  cases rs with
  | nil=>exact absurd o.n (by simp)
  | cons p ps=>exact⟨p,ps,rfl⟩
 have i2:Xi (.tup (rs.map rT)) (.int 0)=.ok (rT p):=by rw[ep];exact PL _ _
 have i3:Xi (rT p) (.int 0)=.ok (.str p.1):=PL _ _;have i4:JF (dR rs)=.str p.1:=by rw[ep];rfl
 have i5:Vq (dR rs)=rs.map rT:=rfl;have i6:Vq .non=[]:=rfl;simp[WW,ZV,IM,e1,e2,e3,T9,isN,e4,er,ei,T3,Um,i2,i3,WC,i4,i5,i6,Je,Jf,Jc,List.lookup]
abbrev Up (ns:List Int):D:=.lst (ns.map D.int)
abbrev Row (G:FD):Prop:=∀(ns:List Int) (i b n:Nat),0<b->b<1000000->n<=20->∃rs:List Nat,G [Up ns,dN i,dN b,dN n]=.ok (.lst (rs.map dN))/\rs.length=n/\∀x∈rs,x<b
def C8 (ns:List Int) (i b n:Nat) (c:Int) (k:Nat) (ρ:Rho):Prop:=∃(l:Int) (rs:List Nat) (y:Option Sl),ρ=[some (.val (Up ns)),some (.val (dN i)),some (.val (dN b)),some (.val (dN n)),some (.val (.int c)),some (.val (.int l)),some (.own (.l (rs.map dN))),y]/\rs.length=k/\∀x∈rs,x<b
def Im (b n:Nat) (o:Out):Prop:=∃(ρ:Rho) (rs:List Nat),o=.nx ρ/\Wl (frz ρ) 6=.ok (.lst (rs.map dN))/\rs.length=n/\∀x∈rs,x<b
theorem ur (F:Fun K "_law_cell" "_law_cell" E1 f fd) (T:Txt P w K mg A):∃G,FnOk P w K mg base Z0 1 f fd ["_law_script","_law_k"] (Zt K G)/\∀(ns:List Int) (k:Nat),∃c:Int,G [Up ns,dN k]=.ok (.int c):=by
 refine⟨_,F.okT (k:=0) uc (λZm Ar outer s H E hr=>Zu (XH (Xk Uk (dv 1) (Yh X3 T.z_len (by decide +kernel) (ZW (dv 0) ZU))) (Zn (YL (ZA ZD (dv 0) (dv 1)))) XA)
  (Zn (YL ZT))),?_⟩
 intro ns k;by_cases h:k<ns.length
 ·have h':(k:Int)<ns.length:=by lia
  exact⟨ns[k],by simp[Zq,ZV,h,h',UO h]⟩
 ·have h':¬ (k:Int)<ns.length:=by lia
  exact⟨0,by simp[Zq,ZV,h,h']⟩
theorem ul (F:Fun K "_law_stir" "_law_stir" DY f fd) (T:Txt P w K mg A):∃G,FnOk P w K mg base Z0 1 f fd ["_law_cell_here","_law_k"] (Zt K G)/\∀(c:Int) (k:Nat),k<=1000->∃n:Int,G [.int c,dN k]=.ok (.int n):=by
 refine⟨_,F.okT (k:=0) Du (λZm Ar outer s H E hr=>Zu (YU Du.nd (ZC UW (ZC Ww (ZC Ww (ZC Ra (ZC UW (dv 0) ZT) ZT) (ZC Ra ZT (dv 1))) ZT) ZT))
  (Zu (YU Du.nd (ZC UW (ZC Ra (dv 2) (dv 2)) ZT))
  (Zn (YL (ZC UW (ZC Ww (ZC Ww (ZC Ra (dv 2) (dv 2)) (ZC Ra ZT (dv 2))) ZT) ZT))))),?_⟩
 intro c k hk;obtain⟨m,e,hm⟩:=VF c (b:=2147483647) (by lia)
 obtain⟨m2,e2,hm2⟩:=VF ((m:Int)*48271+69621*(k:Int)+7) (b:=2147483647) (by lia)
 obtain⟨m3,e3,hm3⟩:=VF ((m2:Int)*m2) (b:=2147483629) (by lia)
 have c1:CMul (m:Int) 48271:=.inr ⟨by lia,by lia⟩
 have c2:CMul 69621 (k:Int):=.inl ⟨by lia,by lia⟩
 have c3:CMul (m2:Int) m2:=.inr ⟨by lia,by lia⟩
 have c4:CMul (m3:Int) m3:=.inr ⟨by lia,by lia⟩
 have c5:CMul 16807 (m3:Int):=.inl ⟨by lia,by lia⟩
 refine⟨((m3:Int)*m3+16807*m3+11)%2147483587,?_⟩;have r1:Xg (.int c) (.int 2147483647)=.ok (.int m):=by rw[Vc (by lia),e]
 have r2:Xg (.int ((m:Int)*48271+69621*(k:Int)+7)) (.int 2147483647)=.ok (.int m2):=by rw[Vc (by lia),e2]
 have r3:Xg (.int ((m2:Int)*m2)) (.int 2147483629)=.ok (.int m3):=by rw[Vc (by lia),e3]
 have r4:Xg (.int ((m3:Int)*m3+16807*m3+11)) (.int 2147483587)=.ok (.int (((m3:Int)*m3+16807*m3+11)%2147483587)):=Vc (by lia)
 have s1:Vl (.int m) (.int 48271)=.ok (.int (m*48271)):=Wx c1;have s2:Vl (.int 69621) (.int k)=.ok (.int (69621*k)):=Wx c2;have s3:Vl (.int m2) (.int m2)=.ok (.int (m2*m2)):=Wx c3;have s4:Vl (.int m3) (.int m3)=.ok (.int (m3*m3)):=Wx c4;have s5:Vl (.int 16807) (.int m3)=.ok (.int (16807*m3)):=Wx c5;simp[Zq,ZV,r1,r2,r3,r4,s1,s2,s3,s4,s5,-WX,-Res.bind_ok,-L2.go_ok,-Out.then_nx,Zf,WR,Zg]
theorem uX {a2c:FD} (a1a:Callee P w K mg base 1 "_law_cell" ["_law_script","_law_k"] (Zt K a2c)) {a4y:FD} (a0z:Callee P w K mg base 1 "_law_stir" ["_law_cell_here","_law_k"] (Zt K a4y)) (a6u:∀(ns:List Int) (k:Nat),∃c:Int,a2c [Up ns,dN k]=.ok (.int c)) (a6j:∀(c:Int) (k:Nat),k<=1000->∃n:Int,a4y [.int c,dN k]=.ok (.int n)) (F:Fun K "_law_row" "_law_row" Ed f fd) (T:Txt P w K mg A):∃G,FnOk P w K mg base Z0 2 f fd ["_law_script","_law_at","_law_base","_law_count"] (Zt K G)/\Row G:=by
 refine⟨_,F.okT (k:=1) L1 (λZm Ar outer s H E hr=>Zu (YU L1.nd (Zz a1a hr (ZW (dv 0) (ZW (dv 1) ZU))))
  (Zu (YU L1.nd (ZC Nz (dv 4) (ZC HN ZT ZT)))
  (Zu (Uz L1.nd (Tp ZU))
  (Zu (UA rfl (L3 T.z_range (ZW (dv 3) ZU)) (YT L1.nd)
  (Zn (XH (Xk Q5 (dv 4) (ZC HN ZT ZT)) (Zu (Ua 6 (ZC UW (dv 5) (dv 2)))
    (Zn (YU L1.nd (ZC ON (dv 5) (dv 2))))) (Zn (Ua 6 (ZC UW (ZC ON (Zz a0z hr (ZW (dv 4) (ZW (dv 7) ZU))) ZT) (dv 2)))))))
  (Zn (YL (dv 6))))))),?_⟩
 intro ns i b n hb hb2 hn;obtain⟨c,ec⟩:=a6u ns i;have cp:Tx 10 18:=by decide
 have hn':(-(2^62:Int))<=(n:Int)/\(n:Int)<2^62:=by lia
 have r0:Pb (.int 10) (.int 18)=.ok (.int 1000000000000000000):=by
  show gd _ _=_;rw[Wx cp];rfl
 simp[Zq,ZV,ec,r0,Ln (show n<=1000 by lia),-WX,-Res.bind_ok,-L2.go_ok,-Out.then_nx,Zf,WR,Zg]
 generalize hI:Yn _ _ _ _=o;have q:Im b n o:=by
  rw[<- hI];refine EB (C8 ns i b n c) (Im b n) ⟨_,[],none,rfl,rfl,λx h=>(nomatch h)⟩ ?_ ?_
  ·rintro ρ ⟨l,rs,y,rfl,h1,h2⟩
   exact⟨_,rs,rfl,rfl,h1,h2⟩
  ·rintro k ρ hk ⟨l,rs,y,rfl,h1,h2⟩
   refine⟨_,rfl,.inl ?_⟩;have hb':(0:Int)<b:=by lia
   have hs:rs.length<sizeLine:=v5 (show rs.length<1000 by lia) (by decide)
   have cd:VL l b:=by unfold VL;lia
   by_cases hc':(1000000000000000000:Int)<=c
   ·obtain ⟨m,e,hm⟩:=Q0 l (b:=b) hb
    skip
    have r1:Xg (.int l) (.int b)=.ok (.int m):=by rw[Vc hb',e]
    have r2:Vg (.int l) (.int b)=.ok (.int (l / b)):=by rw[OL hb' (by lia)]
    refine⟨_,by simp[hc',r0,r1,r2,hs,-WX,-Res.bind_ok,-L2.go_ok,-Out.then_nx,Zf,WR,Zg];rfl,l / b,rs++[m],some (.val (dN k)),by simp,by simp[h1],λx hx=>?_⟩
    rcases u9.mp hx with h|h
    ·exact h2 x h
    ·rw[v8.mp h];exact hm
   ·obtain ⟨t,et⟩:=a6j c k (by lia)
    obtain⟨m,e,hm⟩:=Q0 (t / 8) (b:=b) hb;have cd8:VL t 8:=by unfold VL;lia
    skip
    have r1:Xg (.int (t / 8)) (.int b)=.ok (.int m):=by rw[Vc hb',e]
    have r2:Vg (.int t) (.int 8)=.ok (.int (t / 8)):=by rw[OL (by lia) (by lia)]
    refine⟨_,by simp[hc',r0,r1,r2,hs,et,-WX,-Res.bind_ok,-L2.go_ok,-Out.then_nx,Zf,WR,Zg];rfl,l,rs++[m],some (.val (dN k)),by simp,by simp[h1],λx hx=>?_⟩
    rcases u9.mp hx with h|h
    ·exact h2 x h
    ·rw[v8.mp h];exact hm
 obtain⟨ρ,rs,rfl,g,h1,h2⟩:=q;exact⟨rs,by simp[g],h1,h2⟩
noncomputable def KC:List Str:=["a","b","+","*","(",")","c","id","=","<=","if","0","[]","else",",","abc123","z","!"]
noncomputable def OZ:List Str:=KC++(["zz"]:List Str)
noncomputable def LB:List Str:=["","a","x1","list0","9","abcd0"]
noncomputable def Vs (i:Nat):Str:=⟨#[WU.cps.getD i 0]⟩
noncomputable def WI (j:Nat):Str:=LB.getD j ""
noncomputable def Ol (z:Str):Bool:=RX z&&(ZH z&&!XR z)
noncomputable def Si (z:Str):Bool:=XR z&&(ZH z&&OZ.contains z)
def Nc:∀z∈KC,Si z=true:=by decide +kernel
def xo:∀i,i<26->∀j,j<6->Ol (Vs i++WI j)=true:=by decide +kernel
def Hx{i:Int} (h:-(2^64)<i/\i<2^64):Vl (.int i) (.int j)=.ok (.int (i*j)):=Wx (show CMul i j from .inl h)
def vU(h:i<26):Xi (.str WU) (.int (i:Int))=.ok (.str (Vs i)):=by
 have e:VA WU.cps.toList (i:Int)=some (WU.cps.getD i 0):=Hq (by
  have h':i<WU.cps.size:=h;rw[NJ,s9 h',Array.getD_eq_getD_getElem?,s9 h']
  rfl)
 show(match VA WU.cps.toList (i:Int) with|some c=>Res.ok (D.str ⟨#[c]⟩)|none=>.bad)=_
 rw[e];rfl
def xb (i:Nat):(Vs i).length=1:=rfl
def rK{r:Res α} (h:ds.length<=1000):gd (ds.length<=sizeLine) r=r:=Wx (Tr h)
def yt{r:Res α} (h:n<=1000):gd ((Y6 0 n).length<=sizeLine) r=r:=rK (by rw[Ae];exact h)
def LG {x y:Str} (h:x.length+y.length<=1000):VD (.str x) (.str y)=.ok (.str (x++y)):=Wx (v7 h (by decide))
def LF {x y:List D} (h:x.length+y.length<=1000):VD (.lst x) (.lst y)=.ok (.lst (x++y)):=Wx (v7 h (by decide))
abbrev dS (zs:List Str):D:=.lst (zs.map D.str)
def HH (z:Str):Prop:=∃i,i<26/\∃j,j<6/\z=Vs i++WI j
def HH.ok(h:HH z):Ol z=true:=by
 obtain⟨i,hi,j,hj,rfl⟩:=h;exact xo i hi j hj
def Hi:∀i,i<26->∀j,j<6->UL (Vs i++WI j)=Vs i:=by decide +kernel
def Bd:∀i,i<26->∀j,j<26->Vs i=Vs j->i=j:=by decide +kernel
noncomputable def KY (i:Nat):Str:=KC.getD i ""
def QN:∀i,i<18->∀j,j<18->KY i=KY j->i=j:=by decide +kernel
structure Ky (hs:List Str):Prop where
 hh:∀z∈hs,HH z
 nd:hs.Nodup
 fl:∀a∈hs,∀b∈hs,UL a=UL b->a=b
abbrev NP (G:FD):Prop:=∀c n:Nat,n<=3->∃hs:List Str,G [dN c,dN n]=.ok (dS hs)/\hs.length=n/\Ky hs
abbrev NU (G:FD):Prop:=∀c n:Nat,n<=18->∃hs:List Str,G [dN c,dN n]=.ok (dS hs)/\hs.length=n/\(∀z∈hs,Si z=true)/\hs.Nodup
def yO{f:Nat->Str} (h:∀i,i<n->∀j,j<n->f i=f j->i=j):((List.range n).map f).Nodup:=by
 unfold List.Nodup;rw[List.pairwise_map];exact(List.nodup_range (n:=n)).imp_of_mem λ{a b} ha hb hab e=>hab (h a (NL.mp ha) b (NL.mp hb) e)
noncomputable def Rt (f:Nat->Str):D->D
 | .int k=>.str (f k.toNat)
 | _=>.non
def Ac (f:Nat->Str) (n:Nat):(Y6 0 n).map (Rt f)=((List.range n).map f).map D.str:=by
 simp[Y6,Rt,Function.comp_def]
def LM (f:Nat->Str) (xs:List Nat):(xs.map dN).map (Rt f)=(xs.map f).map D.str:=by
 simp[Rt,Function.comp_def]
abbrev SH:=Nat×List Nat
noncomputable def Gf (p:SH):D:=.tup [dN p.1,.tup (p.2.map dN)]
noncomputable def UE:List (List SH):=[[(0,[0,13,1]),(0,[1]),(1,[1,14,2]),(1,[2]),(2,[11,0,12]),(2,[10])],[(0,[0,11,10]),(0,[10])],[(0,[10,0,11]),(0,[])],[(0,[0,1]),(0,[]),(1,[10,11]),(1,[12,0,13])],
 [(0,[10,1,13]),(0,[11,2,13]),(0,[10,2,14]),(0,[11,1,14]),(1,[12]),(2,[12])],[(0,[1,2]),(1,[10]),(1,[]),(2,[11]),(2,[])],[(0,[10,0]),(0,[10]),(0,[11])],[(0,[1,10,1]),(1,[11,1]),(1,[12])],[(0,[10,1]),(1,[0,11]),(1,[])],[(0,[1,10]),(0,[2,11]),(1,[12]),(2,[12])]]
def zC:∀sh∈UE,1<=sh.length/\sh.length<=6/\sh.Nodup/\∀p∈sh,(p.1<3/\p.2.length<=3/\∀x∈p.2,x<3\/(10<=x/\x<15))/\∀x∈p.2,x<3->∃q∈sh,q.1=x:=by decide +kernel
abbrev Shape (G:FD):Prop:=∀c:Nat,∃sh∈UE,G [dN c]=.ok (.lst (sh.map Gf))
noncomputable def sy (hs ss:List Str) (x:Nat):Str:=if 10<=x then ss.getD (x - 10) "" else hs.getD x ""
abbrev Ip (G:FD):Prop:=∀(x:Nat) (hs ss:List Str),hs.length=3->ss.length=5->(x<3\/(10<=x/\x<15))->G [dN x,dS hs,dS ss]=.ok (.str (sy hs ss x))
def OI{l:List α}{d:α} (h:i<l.length):l.getD i d=l[i]:=by rw[List.getD_eq_getElem?_getD,y9 h];rfl
theorem tZ (F:Fun K "_law_heads" "_law_heads" GM f fd) (T:Txt P w K mg A):∃G,FnOk P w K mg base Z0 1 f fd ["_law_cell_here","_law_many"] (Zt K G)/\NP G:=by
 refine⟨_,F.okT (k:=0) DL (λZm Ar outer s H E hr=>Zu (YU DL.nd Yq)
  (Zu (YU DL.nd (ZA ZD (W6 (ZW Yq (ZW Yq (ZW Yq (ZW Yq (ZW Yq (ZW Yq ZU))))))) (ZC UW (ZC ON (dv 0) ZT) ZT)))
  (Zn (YL (DN.de (Tt ["_law_k"] [0,2,3] rfl (Uy (sc:=ZX GM) (N:=["_law_cell_here","_law_many","_law_letters","_law_tail"]) (by decide +kernel)) (L3 T.z_range (ZW (dv 1) ZU)) (YT (show(["_law_k","_law_cell_here","_law_letters","_law_tail"]:List Str).Nodup by decide +kernel)) Tq (ZC Ww (ZA ZD (dv 2) (ZC UW (ZC Ww (dv 1) (ZC Ra ZT (dv 0))) ZT)) (dv 3)))))))),?_⟩
 intro c n hn;obtain⟨j,e,hj⟩:=VF ((c:Int) / 26) (b:=6) (by lia)
 have r1:Vg (.int (c:Int)) (.int 26)=.ok (.int ((c:Int) / 26)):=OL (by lia) (by lia)
 have r2:Xg (.int ((c:Int) / 26)) (.int 6)=.ok (dN j):=by rw[Vc (by lia),e]
 have r3:Xi (.lst [.str "",.str "a",.str "x1",.str "list0",.str "9",.str "abcd0"]) (dN j)=.ok (.str (WI j)):=by
  have:=UO (c:=D.str) (rs:=LB) (i:=j) (by show j<6;lia)
  rw[show WI j=LB[j]'(by show j<6;lia) from by unfold WI;rw[List.getD_eq_getElem?_getD,y9];rfl]
  exact this
 have r4:(WI j).length<=6:=by
  have:∀j,j<6->(WI j).length<=6:=by decide +kernel
  exact this j (by lia)
 simp[Zq,ZV,r1,r2,r3,Ln (show n<=1000 by lia),-WX,-Res.bind_ok,-L2.go_ok,-Out.then_nx,Zf,WR,Zg]
 rw[OH (Rt λk=>Vs ((c+7*k)%26)++WI j) λd hd=>?_]
 ·rw [Ac]
  have hc:∀k,(c+7*k)%26<26:=λk=>Nat.mod_lt _ (by lia)
  refine⟨_,by simp[yt (show n<=1000 by lia)];rfl,by simp,λz hz=>?_,yO λa ha b hb e=>?_,λz hz z' hz' e=>?_⟩
  ·obtain ⟨k,_,rfl⟩:=u3.mp hz
   exact⟨_,hc k,j,by lia,rfl⟩
  ·have e2:=congrArg UL e
   rw[Hi _ (hc a) j (by lia),Hi _ (hc b) j (by lia)] at e2
   have:=Bd _ (hc a) _ (hc b) e2
   lia
  ·obtain ⟨a,ha,rfl⟩:=u3.mp hz
   obtain⟨b,hb,rfl⟩:=u3.mp hz';rw[Hi _ (hc a) j (by lia),Hi _ (hc b) j (by lia)] at e
   rw[Bd _ (hc a) _ (hc b) e]
 ·obtain ⟨k,hk,rfl⟩:=Ad hd
  have hi:(c+7*k)%26<26:=Nat.mod_lt _ (by lia)
  have s1:Vl (.int 7) (.int (k:Int))=.ok (.int (7*(k:Int))):=Hx (by lia)
  have s2:Xg (.int ((c:Int)+7*(k:Int))) (.int 26)=.ok (dN ((c+7*k)%26)):=by rw[Vc (by lia)];simp[dN]
  have s3:=vU hi;have s4:VD (.str (Vs ((c+7*k)%26))) (.str (WI j))=.ok (.str (Vs ((c+7*k)%26)++WI j)):=LG (by rw[xb];lia)
  exact⟨_,rfl,by simp,by simp[Xs,s1,s2,s3,s4,Rt,-WX,-Res.bind_ok,-L2.go_ok,-Out.then_nx,Zf,WR,Zg]⟩
theorem tV (F:Fun K "_law_signs" "_law_signs" GJ f fd) (T:Txt P w K mg A):∃G,FnOk P w K mg base Z0 1 f fd ["_law_cell_here","_law_many"] (Zt K G)/\NU G:=by
 refine⟨_,F.okT (k:=0) yL (λZm Ar outer s H E hr=>Zu (YU yL.nd (W6 (ZW Yq (ZW Yq (ZW Yq (ZW Yq (ZW Yq (ZW Yq (ZW Yq (ZW Yq (ZW Yq (ZW Yq (ZW Yq (ZW Yq (ZW Yq (ZW Yq (ZW Yq (ZW Yq (ZW Yq (ZW Yq ZU))))))))))))))))))))
  (Zn (YL (DN.de (Tt ["_law_k"] [0,2] rfl (Uy (sc:=ZX GJ) (N:=["_law_cell_here","_law_many","_law_some"]) (by decide +kernel)) (L3 T.z_range (ZW (dv 1) ZU)) (YT (show(["_law_k","_law_cell_here","_law_some"]:List Str).Nodup by decide +kernel)) Tq (ZA ZD (dv 2) (ZC UW (ZC Ww (dv 1) (dv 0)) ZT))))))),?_⟩
 intro c n hn;simp[Zq,ZV,Ln (show n<=1000 by lia),-WX,-Res.bind_ok,-L2.go_ok,-Out.then_nx,Zf,WR,Zg]
 rw[OH (Rt λk=>KY ((c+k)%18)) λd hd=>?_]
 ·rw [Ac]
  have hc:∀k,(c+k)%18<18:=λk=>Nat.mod_lt _ (by lia)
  refine⟨_,by simp[yt (show n<=1000 by lia)];rfl,by simp,λz hz=>?_,yO λa ha b hb e=>?_⟩
  ·obtain ⟨k,_,rfl⟩:=u3.mp hz
   refine Nc _ ?_;unfold KY;rw[OI (show(c+k)%18<KC.length from hc k)]
   exact t7 _
  ·have:=QN _ (hc a) _ (hc b) e
   lia
 ·obtain ⟨k,hk,rfl⟩:=Ad hd
  have hi:(c+k)%18<18:=Nat.mod_lt _ (by lia)
  have s2:Xg (.int ((c:Int)+(k:Int))) (.int 18)=.ok (dN ((c+k)%18)):=by rw[Vc (by lia)];simp[dN]
  have s3:=UO (c:=D.str) (rs:=KC) (i:=(c+k)%18) (by show _<18;lia)
  have s3':Xi (.lst [.str "a",.str "b",.str "+",.str "*",.str "(",.str ")",.str "c",.str "id",.str "=",.str "<=",.str "if",.str "0",.str "[]",.str "else",.str ",",.str "abc123",.str "z",.str "!"]) (dN ((c+k)%18))=.ok (.str (KY ((c+k)%18))):=by
   unfold KY;rw[OI (show(c+k)%18<KC.length from hi)]
   exact s3
  exact⟨_,rfl,by simp,by simp[Xs,s2,s3',Rt,-WX,-Res.bind_ok,-L2.go_ok,-Out.then_nx,Zf,WR,Zg]⟩
theorem tW (F:Fun K "_law_shape" "_law_shape" Dy f fd) (T:Txt P w K mg A):∃G,FnOk P w K mg base Z0 1 f fd ["_law_number"] (Zt K G)/\Shape G:=by
 refine⟨_,F.okT (k:=0) yM (λZm Ar outer s H E hr=>Zu (Uz yM.nd (Tp (ZW (W6 (ZW (Z6 (ZW ZT (ZW (Z6 (ZW ZT (ZW ZT (ZW ZT ZU)))) ZU))) (ZW (Z6 (ZW ZT (ZW (Z6 (ZW ZT ZU)) ZU))) (ZW (Z6 (ZW ZT (ZW (Z6 (ZW ZT (ZW ZT (ZW ZT ZU)))) ZU))) (ZW (Z6 (ZW ZT (ZW (Z6 (ZW ZT ZU)) ZU))) (ZW (Z6 (ZW ZT (ZW (Z6 (ZW ZT (ZW ZT (ZW ZT ZU)))) ZU))) (ZW (Z6 (ZW ZT (ZW (Z6 (ZW ZT ZU)) ZU))) ZU))))))) ZU)))
  (Zu (Ua 1 (W6 (ZW (Z6 (ZW ZT (ZW (Z6 (ZW ZT (ZW ZT (ZW ZT ZU)))) ZU))) (ZW (Z6 (ZW ZT (ZW (Z6 (ZW ZT ZU)) ZU))) ZU))))
  (Zu (Ua 1 (W6 (ZW (Z6 (ZW ZT (ZW (Z6 (ZW ZT (ZW ZT (ZW ZT ZU)))) ZU))) (ZW (Z6 (ZW ZT (ZW (Z6 ZU) ZU))) ZU))))
  (Zu (Ua 1 (W6 (ZW (Z6 (ZW ZT (ZW (Z6 (ZW ZT (ZW ZT ZU))) ZU))) (ZW (Z6 (ZW ZT (ZW (Z6 ZU) ZU))) (ZW (Z6 (ZW ZT (ZW (Z6 (ZW ZT (ZW ZT ZU))) ZU))) (ZW (Z6 (ZW ZT (ZW (Z6 (ZW ZT (ZW ZT (ZW ZT ZU)))) ZU))) ZU))))))
  (Zu (Ua 1 (W6 (ZW (Z6 (ZW ZT (ZW (Z6 (ZW ZT (ZW ZT (ZW ZT ZU)))) ZU))) (ZW (Z6 (ZW ZT (ZW (Z6 (ZW ZT (ZW ZT (ZW ZT ZU)))) ZU))) (ZW (Z6 (ZW ZT (ZW (Z6 (ZW ZT (ZW ZT (ZW ZT ZU)))) ZU))) (ZW (Z6 (ZW ZT (ZW (Z6 (ZW ZT (ZW ZT (ZW ZT ZU)))) ZU))) (ZW (Z6 (ZW ZT (ZW (Z6 (ZW ZT ZU)) ZU))) (ZW (Z6 (ZW ZT (ZW (Z6 (ZW ZT ZU)) ZU))) ZU))))))))
  (Zu (Ua 1 (W6 (ZW (Z6 (ZW ZT (ZW (Z6 (ZW ZT (ZW ZT ZU))) ZU))) (ZW (Z6 (ZW ZT (ZW (Z6 (ZW ZT ZU)) ZU))) (ZW (Z6 (ZW ZT (ZW (Z6 ZU) ZU))) (ZW (Z6 (ZW ZT (ZW (Z6 (ZW ZT ZU)) ZU))) (ZW (Z6 (ZW ZT (ZW (Z6 ZU) ZU))) ZU)))))))
  (Zu (Ua 1 (W6 (ZW (Z6 (ZW ZT (ZW (Z6 (ZW ZT (ZW ZT ZU))) ZU))) (ZW (Z6 (ZW ZT (ZW (Z6 (ZW ZT ZU)) ZU))) (ZW (Z6 (ZW ZT (ZW (Z6 (ZW ZT ZU)) ZU))) ZU)))))
  (Zu (Ua 1 (W6 (ZW (Z6 (ZW ZT (ZW (Z6 (ZW ZT (ZW ZT (ZW ZT ZU)))) ZU))) (ZW (Z6 (ZW ZT (ZW (Z6 (ZW ZT (ZW ZT ZU))) ZU))) (ZW (Z6 (ZW ZT (ZW (Z6 (ZW ZT ZU)) ZU))) ZU)))))
  (Zu (Ua 1 (W6 (ZW (Z6 (ZW ZT (ZW (Z6 (ZW ZT (ZW ZT ZU))) ZU))) (ZW (Z6 (ZW ZT (ZW (Z6 (ZW ZT (ZW ZT ZU))) ZU))) (ZW (Z6 (ZW ZT (ZW (Z6 ZU) ZU))) ZU)))))
  (Zu (Ua 1 (W6 (ZW (Z6 (ZW ZT (ZW (Z6 (ZW ZT (ZW ZT ZU))) ZU))) (ZW (Z6 (ZW ZT (ZW (Z6 (ZW ZT (ZW ZT ZU))) ZU))) (ZW (Z6 (ZW ZT (ZW (Z6 (ZW ZT ZU)) ZU))) (ZW (Z6 (ZW ZT (ZW (Z6 (ZW ZT ZU)) ZU))) ZU))))))
  (Zn (YL (ZA ZD (dv 1) (ZC UW (dv 0) ZT)))))))))))))),?_⟩
 intro c;obtain⟨i,ei,hi⟩:=VF (c:Int) (b:=10) (by lia)
 have s2:Xg (.int (c:Int)) (.int 10)=.ok (dN i):=by rw[Vc (by lia),ei]
 obtain⟨sh,hm,s3⟩:=Fz (c:=λsh:List SH=>D.lst (sh.map Gf)) (rs:=UE) (i:=i) (by show i<10;lia)
 refine⟨sh,hm,?_⟩;have sl:∀k:Nat,k<=1000->k<sizeLine:=λk h=>RB h (by decide)
 simp[Zq,ZV,s2,sl,-WX,-Res.bind_ok,-L2.go_ok,-Out.then_nx,Zf,WR,Zg];refine VH (congrArg (λr=>YD (Ul ((YD r).go _ λd=>Out.rt d))) s3) ?_
 rfl
theorem tq (F:Fun K "_law_symbol" "_law_symbol" Dr f fd) (T:Txt P w K mg A):∃G,FnOk P w K mg base Z0 1 f fd ["_law_number","_law_heads_here","_law_signs_here"] (Zt K G)/\Ip G:=by
 refine⟨_,F.okT (k:=0) sZ (λZm Ar outer s H E hr=>Zu (XH (Xk Q5 (dv 0) ZT) (Zn (YL (ZA ZD (dv 2) (ZC Nz (dv 0) ZT)))) XA)
  (Zn (YL (ZA ZD (dv 1) (dv 0))))),?_⟩
 intro x hs ss hl sl hx;by_cases c:10<=x
 ·have c':(10:Int)<=x:=by lia
  have e:(x:Int) - 10=((x - 10:Nat):Int):=by lia
  have s3:=UO (c:=D.str) (rs:=ss) (i:=x - 10) (by lia)
  have e2:sy hs ss x=ss[x - 10]'(by lia):=by unfold sy;rw[if_pos c,OI]
  rw[e2];simp[Zq,ZV,c',e,s3,-Res.bind_ok,-L2.go_ok,-Out.then_nx,Zf,WR,Zg]
 ·have c':¬ (10:Int)<=x:=by lia
  have s3:=UO (c:=D.str) (rs:=hs) (i:=x) (by lia)
  have e2:sy hs ss x=hs[x]'(by lia):=by unfold sy;rw[if_neg c,OI]
  rw[e2];simp[Zq,ZV,c',s3,-Res.bind_ok,-L2.go_ok,-Out.then_nx,Zf,WR,Zg]
theorem za:∀{rs:List RR},(∀p∈rs,VU p)->XF (rs.map rT)=.ok (rs.map Tn)
 | [],_=>rfl
 | p::rs,h=>by
  simp[XF,AB (h p z6),za λq hq=>h q (z5 _ hq)]
def xl {p:RR}{rs:List RR} (o:VU p) (os:∀q∈rs,VU q) (WL:Bool):T5 (rT p) (rs.map rT) WL=.ok (.bl (if WL=true then !decide (p∈rs) else decide (p∈rs))):=by
 have e:((rs.map Tn).any λb=>PyData.eqv b (Tn p))=decide (p∈rs):=by
  rw[List.any_map,Lu,List.any_eq_true,decide_eq_true_eq];constructor
  ·rintro ⟨q,hq,e⟩
   simp only[Function.comp,Av,decide_eq_true_eq] at e;rw[<- e];exact hq
  ·intro h
   exact⟨p,h,by simp only[Function.comp,Av,decide_eq_true_eq]⟩
 simp only[T5,AB o,za os,Res.bind_ok,e]
def VR (p:RR):Prop:=VU p/\∀b∈p.2,XR b=true->b∈OZ
def Ny(h:Ol z=true):RX z=true/\ZH z=true/\XR z=false:=by
 unfold Ol at h;simpa[t4] using h
def Lo(h:Si z=true):XR z=true/\ZH z=true/\z∈OZ:=by
 unfold Si at h;simpa[t4] using h
def Kr(hh:Ol h=true) (hl:bs.length<=4) (hb:∀b∈bs,Ol b=true\/Si b=true):VR (h,bs):=by
 obtain⟨a1,a2,a3⟩:=Ny hh;refine⟨⟨a1,hl,λb m=>?_,a2,λb m=>?_⟩,λb m s=>?_⟩
 ·rcases hb b m with q | q
  ·rw[(Ny q).1,Bool.or_true]
  ·rw[(Lo q).1];rfl
 ·rcases hb b m with q | q
  ·exact(Ny q).2.1
  ·exact(Lo q).2.1
 ·rcases hb b m with q | q
  ·rw[(Ny q).2.2] at s;cases s
  ·exact(Lo q).2.2
def yI{rs:List RR} (o:VR (h,bs)) (os:∀q∈rs,VR q):Wj (.tup [.str h,.tup (bs.map D.str)]) (.lst (rs.map rT))=.ok (.bl (!decide ((h,bs)∈rs))):=by
 rw[show Wj (.tup [.str h,.tup (bs.map D.str)]) (.lst (rs.map rT))=T5 (rT (h,bs)) (rs.map rT) true from Kc true _ _,xl o.1 (λq hq=>(os q hq).1)]
 rfl
theorem P8(xs:List α) (hi:Option Int) (h:2<=xs.length):(YC xs (some 2) hi).length<=xs.length - 2:=by
 unfold YC;rw[show(some (2:Int))=some ((2:Nat):Int) from rfl,HT.sIx_nat,r9,RC]
 lia
def Cj {rs:List Nat} (h:rs.length=5):∃a b c d e,rs=[a,b,c,d,e]:=by
 match rs,h with
 | [a,b,c,d,e],_=>exact⟨a,b,c,d,e,rfl⟩
def JQ{rs:List α} (h:rs.length=3):∃a b c,rs=[a,b,c]:=by
 match rs,h with
 | [a,b,c],_=>exact⟨a,b,c,rfl⟩
def rC (rs:List RR):Prop:=∀p∈rs,VR p
def RH (hs ss:List Str) (p:RR):Prop:=p.1∈hs/\p.2.length<=4/\∀b∈p.2,b∈hs\/b∈ss
def Km{p:RR} (hh:∀z∈hs,Ol z=true) (hg:∀z∈ss,Si z=true) (h:RH hs ss p):VR p:=Kr (hh _ h.1) h.2.1 λb hb=>(h.2.2 b hb).imp (hh b) (hg b)
structure GR (rs:List RR):Prop where
 n1:1<=rs.length
 v:rC rs
 hh:∀p∈rs,HH p.1
 nd:rs.Nodup
 cl:∀p∈rs,∀b∈p.2,b∈Vp rs\/Si b=true
 fl:∀p∈rs,∀q∈rs,UL p.1=UL q.1->p.1=q.1
 sg:∃ss:List Str,ss.length<=5/\∀p∈rs,∀b∈p.2,XR b=true->b∈ss
def O8{rs:List RR} (H:Ky hs) (hg:∀z∈ss,Si z=true) (l:ss.length<=5) (n1:1<=rs.length) (nd:rs.Nodup) (rh:∀p∈rs,RH hs ss p) (c:∀p∈rs,∀b∈p.2,b∈hs->b∈Vp rs):GR rs where
 n1:=n1
 v p hp:=Km (λz hz=>(H.hh z hz).ok) hg (rh p hp)
 hh p hp:=H.hh _ (rh p hp).1
 nd:=nd
 cl p hp b hb:=((rh p hp).2.2 b hb).imp (c p hp b hb) (hg b)
 fl p hp q hq e:=H.fl _ (rh p hp).1 _ (rh q hq).1 e
 sg:=⟨ss,l,λp hp b hb s=>((rh p hp).2.2 b hb).resolve_left λz=>by
  have:=(Ny (H.hh b z).ok).2.2
  rw[this] at s;cases s⟩
abbrev Drawn (G:FD):Prop:=∀(ns:List Int) (i:Nat) (hs ss:List Str) (m:Nat),1<=hs.length->hs.length<=3->ss.length<=5->m<=3->Ky hs->(∀z∈ss,Si z=true) ->
 ∃rs:List RR,G [Up ns,dN i,dS hs,dS ss,dN m]=.ok (dR rs)/\rs.length<=6/\GR rs
structure SD (hs ss:List Str) (k:Nat) (rs:List RR):Prop where
 l:rs.length<=k
 nd:rs.Nodup
 rh:∀p∈rs,RH hs ss p
 all:∀j,(h:j<hs.length)->j<k->hs[j]∈Vp rs
def rc (ns:List Int) (i:Nat) (hs ss:List Str) (m:Nat) (k:Nat) (ρ:Rho):Prop:=∃(rs:List RR) (a b c d e:Option Sl),ρ=[some (.val (Up ns)),some (.val (dN i)),some (.val (dS hs)),some (.val (dS ss)),some (.val (dN m)),some (.own (.l (rs.map rT))),a,b,c,d,e]/\SD hs ss k rs
def yk (hs ss:List Str) (n:Nat) (o:Out):Prop:=∃(ρ:Rho) (rs:List RR),o=.nx ρ/\Wl (frz ρ) 5=.ok (dR rs)/\SD hs ss n rs
theorem BR{rs:List RR} (h:SD hs ss k rs)  (m:(z,bs)∈rs) (hz:∀h:k<hs.length,z=hs[k]):SD hs ss (k+1) rs where
 l:=by have:=h.l;lia
 nd:=h.nd
 rh:=h.rh
 all j hj hk:=by
  by_cases c:j=k
  ·subst c;rw[<- hz hj];exact u3.mpr ⟨_,m,rfl⟩
  ·exact h.all j hj (by lia)
theorem BS{rs:List RR} (h:SD hs ss k rs)  (m:¬ (z,bs)∈rs) (r:RH hs ss (z,bs)) (hz:∀h:k<hs.length,z=hs[k]):SD hs ss (k+1) (rs++[(z,bs)]) where
 l:=by have:=h.l;simp;lia
 nd:=List.nodup_append.mpr ⟨h.nd,by simp,λa ha b hb e=>by
  rw[v8.mp hb] at e;exact m (e ▸ ha)⟩
 rh p hp:=by
  rcases u9.mp hp with q|q
  ·exact h.rh p q
  ·rw[v8.mp q];exact r
 all j hj hk:=by
  unfold Vp;rw[OU,u9];by_cases c:j=k
  ·subst c;rw[<- hz hj];exact .inr (by simp)
  ·exact .inl (h.all j hj (by lia))
theorem sA(a1m:Callee P w K mg base 2 "_law_row" ["_law_script","_law_at","_law_base","_law_count"] (Zt K a1q)) (a7d:Row a1q) (F:Fun K "_law_drawn_rules" "_law_drawn_rules" Gs f fd) (T:Txt P w K mg A):∃G,FnOk P w K mg base Z0 3 f fd ["_law_script","_law_at","_law_heads_here","_law_signs_here","_law_more"] (Zt K G)/\Drawn G:=by
 refine⟨_,F.okT (k:=2) OC (λZm Ar outer s H E hr=>Zu (Uz OC.nd (Tp ZU))
  (Zu (UA rfl (L3 T.z_range (ZW (ZC Ww (Yh X3 T.z_len (by decide +kernel) (ZW (dv 2) ZU)) (dv 4)) ZU)) (YT OC.nd)
  (Zu (YU OC.nd (Zz a1m hr (ZW (dv 0) (ZW (ZC Ww (dv 1) (dv 6)) (ZW ZT (ZW ZT ZU))))))
   (Zu (YU OC.nd (ZA ZD (dv 2) (ZC UW (dv 6) (Yh X3 T.z_len (by decide +kernel) (ZW (dv 2) ZU)))))
   (Zu (XH (Xk Q5 (dv 6) (Yh X3 T.z_len (by decide +kernel) (ZW (dv 2) ZU))) (Zn (YU OC.nd (ZA ZD (dv 2) (ZC UW (ZA ZD (dv 7) ZT) (Yh X3 T.z_len (by decide +kernel) (ZW (dv 2) ZU)))))) XA)
   (Zu (YU OC.nd (ZC Ww (dv 2) (dv 3)))
   (Zu (Hd ["_law_draw_here"] [9] rfl (Uy (sc:=ZX Gs) (N:=["_law_script","_law_at","_law_heads_here","_law_signs_here","_law_more","_law_rules_here","_law_k","_law_draws","_law_head","_law_some","_law_body"]) (by decide +kernel)) OC.nd (VS (T0 (dv 7) (Vk ZT) (Vk (ZC Ww ZT (ZC UW (ZA ZD (dv 7) ZT) ZT))))) (YT (show(["_law_draw_here","_law_some"]:List Str).Nodup by decide +kernel)) Tq (ZA ZD (dv 1) (ZC UW (dv 0) (Yh X3 T.z_len (by decide +kernel) (ZW (dv 1) ZU)))))
   (Zn (XH (Xk (Fg (V4 hr)) (Z6 (ZW (dv 8) (ZW (KI Le T.z_tuple (by decide +kernel) (ZW (dv 10) ZU)) ZU))) (dv 5)) (Zn (Ua 5 (Z6 (ZW (dv 8) (ZW (KI Le T.z_tuple (by decide +kernel) (ZW (dv 10) ZU)) ZU))))) XA))))))))
  (Zn (YL (dv 5))))),?_⟩
 intro ns i hs ss m h1 h3 h5 hm hh hg;have hh':∀z∈hs,Ol z=true:=λz hz=>(hh.hh z hz).ok
 have r1:TN [.int ((hs.length:Int)+(m:Int))]=.ok (Y6 0 (hs.length+m)):=QF _ (by lia) (by lia)
 simp[Zq,ZV,r1,-WX,-Res.bind_ok,-L2.go_ok,-Out.then_nx,Zf,WR,Zg];generalize hI:Yn _ _ _ _=o;have q:yk hs ss (hs.length+m) o:=by
  rw[<- hI];refine EB (rc ns i hs ss m) (yk hs ss (hs.length+m)) ⟨[],none,none,none,none,none,rfl,⟨by simp,by simp,λp h=>(nomatch h),λj _ h=>absurd h (by lia)⟩⟩ ?_ ?_
  ·rintro ρ ⟨rs,a,b,c,d,e,rfl,h⟩
   exact⟨_,rs,rfl,rfl,h⟩
  ·rintro k ρ hk ⟨rs,x1,x2,x3,x4,x5,rfl,sd⟩
   have l1:=sd.l;refine⟨_,rfl,.inl ?_⟩;obtain⟨ds,er,hl,hd⟩:=a7d ns (i+k) 24 5 (by lia) (by lia) (by lia)
   obtain⟨d0,d1,d2,d3,d4,rfl⟩:=Cj hl;have er':a1q [Up ns,.int ((i:Int)+(k:Int)),.int 24,.int 5]=.ok (.lst ([d0,d1,d2,d3,d4].map dN)):=er;obtain⟨j,ej,hj⟩:=VF (k:Int) (b:=(hs.length:Int)) (by lia)
   have s1:Xg (.int (k:Int)) (.int (hs.length:Int))=.ok (dN j):=by rw[Vc (by lia),ej]
   have s2:=UO (c:=D.str) (rs:=hs) (i:=j) (by lia)
   obtain⟨j',ej',hj'⟩:=VF (d0:Int) (b:=(hs.length:Int)) (by lia)
   have s1':Xg (.int (d0:Int)) (.int (hs.length:Int))=.ok (dN j'):=by rw[Vc (by lia),ej']
   have s2':=UO (c:=D.str) (rs:=hs) (i:=j') (by lia)
   have s3:VD (dS hs) (dS ss)=.ok (dS (hs++ss)):=by rw[LF (by simp;lia),<- OU]
   have s4:Xg (.int (d1:Int)) (.int 4)=.ok (.int ((d1:Int)%4)):=Vc (by lia)
   simp[er',s1,s2,-WX,-Res.bind_ok,-L2.go_ok,-Out.then_nx,Zf,WR,Zg];obtain⟨cs,hcs,s5⟩:∃cs:List Nat,cs.length<=3/\Rq (.lst [dN d0,dN d1,dN d2,dN d3,dN d4]) (some 2) (some (2+(d1:Int)%4))=.ok (.lst (cs.map dN)):=⟨YC [d0,d1,d2,d3,d4] (some 2) (some (2+(d1:Int)%4)),P8 _ _ (by simp),by rw[<- Fo];rfl⟩
   have hcl:cs.length<=sizeLine:=v7 hcs (by decide)
   have hsz:rs.length<sizeLine:=RB (show rs.length<=1000 by lia) (by decide)
   by_cases c:hs.length<=k
   ·simp [c,Rb,Kn,s1',s2',s3,s4,s5,TC,hcl,-WX,-Res.bind_ok,-L2.go_ok,-Out.then_nx,Zf,WR,Zg]
    generalize hC:YH _ _ _ _ _=oc;have qc:∃ys,oc=.ok ys/\ys.length=(cs.map dN).length/\∀y∈ys,∃b,y=D.str b/\(b∈hs\/b∈ss):=by
     rw[<- hC];refine EE λd hd=>?_
     obtain⟨x,hx,rfl⟩:=u3.mp hd;obtain⟨t,et,ht⟩:=VF (x:Int) (b:=((hs++ss).length:Int)) (by simp;lia)
     have t1:Xg (.int (x:Int)) (.int ((hs++ss).length:Int))=.ok (dN t):=by rw[Vc (by simp;lia),et]
     obtain⟨b,hb,t2⟩:=Fz (c:=D.str) (rs:=hs++ss) (i:=t) (by lia)
     refine⟨_,.str b,rfl,by simp,?_,b,rfl,u9.mp hb⟩
     generalize hs++ss=us at t1 t2;simp[Xs,t1,t2,-WX,-Res.bind_ok,-L2.go_ok,-Out.then_nx,Zf,WR,Zg]
    obtain⟨ys,rfl,hy1,hy2⟩:=qc;obtain⟨bs,rfl,hb2⟩:=N5 hy2;have hbl:bs.length<=4:=by simpa using(show(bs.map D.str).length<=4 by rw[hy1];simp;lia)
    have r:RH hs ss (hs[j']'(by lia),bs):=⟨t7 _,hbl,hb2⟩
    have v:VR (hs[j']'(by lia),bs):=Km hh' hg r
    have nn:=yI v λp hp=>Km hh' hg (sd.rh p hp)
    have g1:WD [dS bs]=.ok (.tup (bs.map D.str)):=rfl;have hzk:∀h:k<hs.length,hs[j']'(by lia)=hs[k]:=λh=>absurd h (by lia)
    by_cases cm:(hs[j']'(by lia),bs)∈rs
    ·refine⟨_,by simp[g1,nn,cm,JX,-WX,-Res.bind_ok,-L2.go_ok,-Out.then_nx,Zf,WR,Zg];exact⟨rfl,rfl,rfl,rfl,rfl⟩,rs,_,_,_,_,_,rfl,BR sd cm hzk⟩
    ·refine⟨_,by simp[g1,nn,cm,JX,hsz,-WX,-Res.bind_ok,-L2.go_ok,-Out.then_nx,Zf,WR,Zg];rfl,rs++[(hs[j']'(by lia),bs)],_,_,_,_,_,by simp[rT];exact⟨rfl,rfl,rfl,rfl,rfl⟩,BS sd cm r hzk⟩
   ·simp [c,Rb,Kn,s3,s4,s5,TC,hcl,-WX,-Res.bind_ok,-L2.go_ok,-Out.then_nx,Zf,WR,Zg]
    generalize hC:YH _ _ _ _ _=oc;have qc:∃ys,oc=.ok ys/\ys.length=(cs.map dN).length/\∀y∈ys,∃b,y=D.str b/\(b∈hs\/b∈ss):=by
     rw[<- hC];refine EE λd hd=>?_
     obtain⟨x,hx,rfl⟩:=u3.mp hd;obtain⟨t,et,ht⟩:=VF (x:Int) (b:=((hs++ss).length:Int)) (by simp;lia)
     have t1:Xg (.int (x:Int)) (.int ((hs++ss).length:Int))=.ok (dN t):=by rw[Vc (by simp;lia),et]
     obtain⟨b,hb,t2⟩:=Fz (c:=D.str) (rs:=hs++ss) (i:=t) (by lia)
     refine⟨_,.str b,rfl,by simp,?_,b,rfl,u9.mp hb⟩
     generalize hs++ss=us at t1 t2;simp[Xs,t1,t2,-WX,-Res.bind_ok,-L2.go_ok,-Out.then_nx,Zf,WR,Zg]
    obtain⟨ys,rfl,hy1,hy2⟩:=qc;obtain⟨bs,rfl,hb2⟩:=N5 hy2;have hbl:bs.length<=4:=by simpa using(show(bs.map D.str).length<=4 by rw[hy1];simp;lia)
    have r:RH hs ss (hs[j]'(by lia),bs):=⟨t7 _,hbl,hb2⟩
    have v:VR (hs[j]'(by lia),bs):=Km hh' hg r
    have nn:=yI v λp hp=>Km hh' hg (sd.rh p hp)
    have g1:WD [dS bs]=.ok (.tup (bs.map D.str)):=rfl;have hzk:∀h:k<hs.length,hs[j]'(by lia)=hs[k]:=λh=>by
     have:j=k:=by
      have e2:(k:Int)%(hs.length:Int)=(k:Int):=Int.emod_eq_of_lt (by lia) (by lia)
      lia
     subst this;rfl
    by_cases cm:(hs[j]'(by lia),bs)∈rs
    ·refine⟨_,by simp[g1,nn,cm,JX,-WX,-Res.bind_ok,-L2.go_ok,-Out.then_nx,Zf,WR,Zg];exact⟨rfl,rfl,rfl,rfl,rfl⟩,rs,_,_,_,_,_,rfl,BR sd cm hzk⟩
    ·refine⟨_,by simp[g1,nn,cm,JX,hsz,-WX,-Res.bind_ok,-L2.go_ok,-Out.then_nx,Zf,WR,Zg];rfl,rs++[(hs[j]'(by lia),bs)],_,_,_,_,_,by simp[rT];exact⟨rfl,rfl,rfl,rfl,rfl⟩,BS sd cm r hzk⟩
 obtain⟨ρ,rs,rfl,g,sd⟩:=q;have n1:1<=rs.length:=by
  have:=sd.all 0 (by lia) (by lia)
  have h9:=List.length_pos_of_mem this;simp only[Vp,v0] at h9;lia
 refine⟨rs,by simp[g],by have:=sd.l;lia,O8 hh hg h5 n1 sd.nd sd.rh λp hp b hb hbh=>?_⟩
 obtain⟨j,hj,rfl⟩:=List.getElem_of_mem hbh;exact sd.all j hj (by lia)
abbrev NS (G:FD):Prop:=∀(ns:List Int) (i:Nat),∃rs:List RR,G [Up ns,dN i]=.ok (dR rs)/\rs.length<=6/\GR rs
noncomputable def ph (hs ss:List Str) (p:SH):RR:=(hs.getD p.1 "",p.2.map (sy hs ss))
def Ez(h:i<l.length):l.getD i ""∈l:=by rw[OI h];exact t7 h
def EA(nd:l.Nodup) {j:Nat} (hi:i<l.length) (hj:j<l.length) (e:l.getD i ""=l.getD j ""):i=j:=by
 rw[OI hi,OI hj] at e;exact(List.getElem_inj nd).mp e
theorem Bu{f:α->β}:∀{xs ys:List α},(∀x∈xs,∀y∈ys,f x=f y->x=y)->xs.map f=ys.map f->xs=ys
 | [],[],_,_=>rfl
 | [],_::_,_,e=>by cases e
 | _::_,[],_,e=>by cases e
 | x::xs,y::ys,h,e=>by
  simp only[w9,List.cons.injEq] at e;rw[h x z6 y z6 e.1,Bu (λa ha b hb=>h a (z5 _ ha) b (z5 _ hb)) e.2]
def Jb{f:α->β}{xs:List α} (nd:xs.Nodup) (h:∀x∈xs,∀y∈xs,f x=f y->x=y):(xs.map f).Nodup:=by
 unfold List.Nodup;rw[List.pairwise_map];exact nd.imp_of_mem λ{a b} ha hb hab e=>hab (h a ha b hb e)
theorem HA (l1:hs.length=3) (l2:ss.length=5) {x:Nat} (h:x<3\/(10<=x/\x<15)):(sy hs ss x∈hs/\x<3)\/(sy hs ss x∈ss/\10<=x):=by
 unfold sy;by_cases c:10<=x
 ·rw[if_pos c];exact .inr ⟨Ez (by lia),c⟩
 ·rw[if_neg c];exact .inl ⟨Ez (by lia),by lia⟩
theorem Nj (H:Ky hs) (hg:∀z∈ss,Si z=true) (nd:ss.Nodup) (l1:hs.length=3) (l2:ss.length=5) {x y:Nat} (hx:x<3\/(10<=x/\x<15)) (hy:y<3\/(10<=y/\y<15)) (e:sy hs ss x=sy hs ss y):x=y:=by
 have no:∀z,z∈hs->z∈ss->False:=λz a b=>by
  have h1:=(Ny (H.hh z a).ok).2.2;rw[(Lo (hg z b)).1] at h1;cases h1
 rcases HA l1 l2 hx with⟨a,a'⟩|⟨a,a'⟩<;>rcases HA l1 l2 hy with⟨b,b'⟩|⟨b,b'⟩
 ·unfold sy at e
  rw[if_neg (by lia),if_neg (by lia)] at e
  exact EA H.nd (by lia) (by lia) e
 ·exact(no _ a (e ▸ b)).elim
 ·exact(no _ (e ▸ b) a).elim
 ·unfold sy at e
  rw[if_pos a',if_pos b'] at e
  have:=EA nd (by lia) (by lia) e
  lia
theorem wC (H:Ky hs) (hg:∀z∈ss,Si z=true) (nd:ss.Nodup) (l1:hs.length=3) (l2:ss.length=5) {sh:List SH} (m:sh∈UE):GR (sh.map (ph hs ss)):=by
 obtain⟨s1,s2,s3,s4⟩:=zC sh m;refine O8 H hg (by lia) (by simpa using s1) (Jb s3 λp hp q hq e=>?_) (λp hp=>?_) λp hp b hb hbh=>?_
 ·obtain ⟨⟨a1,a2,a3⟩,_⟩:=s4 p hp
  obtain⟨⟨b1,b2,b3⟩,_⟩:=s4 q hq;obtain⟨px,pb⟩:=p;obtain⟨qx,qb⟩:=q;simp only[ph,Prod.mk.injEq] at e;have e1:px=qx:=EA H.nd (by rw[l1];exact a1) (by rw[l1];exact b1) e.1
  have e2:pb=qb:=Bu (λx hx y hy=>Nj H hg nd l1 l2 (a3 x hx) (b3 y hy)) e.2
  rw[e1,e2]
 ·obtain ⟨p,hp0,rfl⟩:=u3.mp hp
  obtain⟨⟨a1,a2,a3⟩,_⟩:=s4 p hp0;refine⟨Ez (by rw[l1];exact a1),by simp[ph];lia,λb hb=>?_⟩
  obtain⟨x,hx,rfl⟩:=u3.mp hb;exact(HA l1 l2 (a3 x hx)).imp And.left And.left
 ·obtain ⟨p,hp0,rfl⟩:=u3.mp hp
  obtain⟨⟨a1,a2,a3⟩,a4⟩:=s4 p hp0;obtain⟨x,hx,rfl⟩:=u3.mp hb;rcases HA l1 l2 (a3 x hx) with⟨_,c⟩|⟨c,c'⟩
  ·obtain ⟨q,hq,e⟩:=a4 x hx c
   refine u3.mpr ⟨_,u3.mpr ⟨q,hq,rfl⟩,?_⟩;unfold sy;rw[if_neg (by lia),<- e]
   rfl
  ·have h1:=(Ny (H.hh _ hbh).ok).2.2
   rw[(Lo (hg _ c)).1] at h1;cases h1
def rz (a0 a1 a2:Option Sl) (hs ss:List Str) (sh0:List SH) (ds:List D) (ρ:Rho):Prop:=∃(dn sh:List SH) (a b:Option Sl),ρ=[a0,a1,a2,some (.val (dS hs)),some (.val (dS ss)),some (.own (.l ((dn.map (ph hs ss)).map rT))),a,b,none]/\ds=sh.map Gf/\sh0=dn++sh
def yl (hs ss:List Str) (sh0:List SH) (o:Out):Prop:=∃ρ:Rho,o=.nx ρ/\Wl (frz ρ) 5=.ok (dR (sh0.map (ph hs ss)))
def LJ{xs:List α} (h:xs.Nodup) {lo hi:Option Int}:(YC xs lo hi).Nodup:=h.sublist ((List.take_sublist _ _).trans (List.drop_sublist _ _))
theorem Oz(xs:List α)  (h1:1<=n) (h:n<=xs.length):(YC xs none (some (n:Int))).length=n:=by
 unfold YC;rw[HT.sIx_none,HT.sIx_nat,r9,RC];lia
theorem tX(a1m:Callee P w K mg base 2 "_law_row" ["_law_script","_law_at","_law_base","_law_count"] (Zt K a1q)) {a3f:FD} (a2r:Callee P w K mg base 1 "_law_heads" ["_law_cell_here","_law_many"] (Zt K a3f)) {a3d:FD} (a2m:Callee P w K mg base 1 "_law_signs" ["_law_cell_here","_law_many"] (Zt K a3d)) {a1b:FD} (a0y:Callee P w K mg base 3 "_law_drawn_rules" ["_law_script","_law_at","_law_heads_here","_law_signs_here","_law_more"] (Zt K a1b)) {a4j:FD} (a2n:Callee P w K mg base 1 "_law_shape" ["_law_number"] (Zt K a4j)) {a3x:FD} (a2g:Callee P w K mg base 1 "_law_symbol" ["_law_number","_law_heads_here","_law_signs_here"] (Zt K a3x)) (a7d:Row a1q) (a4g:NP a3f) (a5s:NU a3d) (a7b:Shape a4j) (a4a:Ip a3x) (a7f:Drawn a1b) (F:Fun K "_law_rules" "_law_rules" GK f fd) (T:Txt P w K mg A):∃G,FnOk P w K mg base Z0 4 f fd ["_law_script","_law_at"] (Zt K G)/\NS G:=by
 refine⟨_,F.okT (k:=3) OB (λZm Ar outer s H E hr=>Zu (YU OB.nd (Zz a1m hr (ZW (dv 0) (ZW (dv 1) (ZW (ZC Ra (ZC Ra (ZC Ra ZT ZT) ZT) ZT) (ZW ZT ZU))))))
  (Zu (YU OB.nd (Zz a2r hr (ZW (ZA ZD (dv 2) ZT) (ZW ZT ZU))))
  (Zu (YU OB.nd (Zz a2m hr (ZW (ZA ZD (dv 2) ZT) (ZW ZT ZU))))
  (Zu (XH (Xk Uk (ZC ON (ZA ZD (dv 2) ZT) ZT) ZT) (Zu (Uz OB.nd (Tp ZU))
   (Zu (UA rfl (VS (Zz a2n hr (ZW (ZA ZD (dv 2) ZT) ZU))) (OM (n:=2) rfl (U8 (YT OB.nd) (U8 (YT OB.nd) OJ)))
   (Zn (Ua 5 (Z6 (ZW (ZA ZD (dv 3) (dv 6)) (ZW (KI Le T.z_tuple (by decide +kernel) (ZW (DN.de (Tt ["_law_number"] [3,4] rfl (Uy (sc:=ZX GK) (N:=["_law_script","_law_at","_law_draws","_law_names","_law_signs_here","_law_rules_here","_law_head","_law_body","_law_heads_here"]) (by decide +kernel)) (VS (dv 7)) (YT (show(["_law_number","_law_names","_law_signs_here"]:List Str).Nodup by decide +kernel)) Tq (Zz a2g hr (ZW (dv 0) (ZW (dv 1) (ZW (dv 2) ZU)))))) ZU)) ZU))))))
   (Zn (YL (dv 5))))) XA)
  (Zu (YU OB.nd (T0 (dv 3) Ux (Vk (ZC Ww ZT (ZC UW (ZA ZD (dv 2) ZT) ZT)))))
  (Zn (YL (Zz a0y hr (ZW (dv 0) (ZW (ZC Ww (dv 1) ZT) (ZW (dv 8) (ZW (T0 (dv 4) Ux (Vk (ZC Ww ZT (ZC UW (ZC ON (ZA ZD (dv 2) ZT) ZT) ZT)))) (ZW (ZC UW (ZC ON (ZA ZD (dv 2) ZT) ZT) ZT) ZU))))))))))))),?_⟩
 intro ns i;obtain⟨ds,er,hl,hd⟩:=a7d ns i 360 3 (by lia) (by lia) (by lia)
 obtain⟨d0,d1,d2,rfl⟩:=JQ hl;have er':a1q [Up ns,dN i,.int 360,.int 3]=.ok (.lst [dN d0,dN d1,dN d2]):=er;obtain⟨hs,eh,lh,hh⟩:=a4g d1 3 (by lia)
 obtain⟨ss,es,ls,hg,nds⟩:=a5s d2 5 (by lia)
 have eh':a3f [dN d1,.int 3]=.ok (dS hs):=eh;have es':a3d [dN d2,.int 5]=.ok (dS ss):=es;obtain⟨sh0,m0,e1⟩:=a7b d0;obtain⟨z1,z2,z3,z4⟩:=zC sh0 m0;have m1:Vl (.int 3) (.int 3)=.ok (.int 9):=Hx (by lia)
 have m2:Vl (.int 9) (.int 5)=.ok (.int 45):=Hx (by lia)
 have m3:Vl (.int 45) (.int 8)=.ok (.int 360):=Hx (by lia)
 have v1:Vg (dN d0) (.int 45)=.ok (.int ((d0:Int) / 45)):=OL (by lia) (by lia)
 simp[Zq,ZV,m1,m2,m3,er',Rb,Kn,S8,eh',es',v1,-WX,-Res.bind_ok,-L2.go_ok,-Out.then_nx,Zf,WR,Zg];by_cases c:(d0:Int) / 45<3
 ·simp [c,e1,Rb,-WX,-Res.bind_ok,-L2.go_ok,-Out.then_nx,Zf,WR,Zg]
  generalize hI:Yn _ _ _ _=o;have q:yl hs ss sh0 o:=by
   rw[<- hI];refine Ap (rz _ _ _ hs ss sh0) (yl hs ss sh0) ?_ ?_ (sh0.map Gf) _ ⟨[],sh0,none,none,rfl,rfl,rfl⟩
   ·rintro ρ ⟨dn,sh,a,b,rfl,e,e0⟩
    cases sh with
    | cons p sh=>cases e
    | nil =>
     rw[ZI] at e0;subst e0;exact⟨_,rfl,rfl⟩
   ·rintro d ds ρ ⟨dn,sh,a,b,rfl,e,e0⟩
    cases sh with
    | nil=>cases e
    | cons p sh =>
     cases e;have hp:p∈sh0:=by rw[e0];simp
     have hdl:dn.length<=6:=by have:=congrArg List.length e0;simp at this;lia
     obtain⟨⟨k1,k2,k3⟩,_⟩:=z4 p hp;obtain⟨x,xs⟩:=p;have k2:xs.length<=3:=k2;have k1:x<3:=k1;refine⟨_,rfl,.inl ?_⟩;have s2:=UO (c:=D.str) (rs:=hs) (i:=x) (by lia)
     have hxl:xs.length<=sizeLine:=v7 k2 (by decide)
     have hsz:dn.length<sizeLine:=RB (show dn.length<=1000 by lia) (by decide)
     simp[hxl,-WX,-Res.bind_ok,-L2.go_ok,-Out.then_nx,Zf,WR,Zg];rw[OH (Rt (sy hs ss)) λd hd=>?_]
     ·rw [LM]
      have g1:WD [dS (xs.map (sy hs ss))]=.ok (.tup ((xs.map (sy hs ss)).map D.str)):=rfl;have g2:ph hs ss (x,xs)=(hs[x]'(by lia),xs.map (sy hs ss)):=by unfold ph;rw[OI]
      refine⟨_,by simp[g1,s2,JX,hsz,-WX,-Res.bind_ok,-L2.go_ok,-Out.then_nx,Zf,WR,Zg];rfl,dn++[(x,xs)],sh,_,_,by simp[rT,g2];exact⟨rfl,rfl⟩,rfl,by rw[e0];simp⟩
     ·obtain ⟨t,ht,rfl⟩:=u3.mp hd
      have t2:=a4a t hs ss lh ls (k3 t ht);exact⟨_,rfl,by simp,by simp[Xs,t2,Rt,-WX,-Res.bind_ok,-L2.go_ok,-Out.then_nx,Zf,WR,Zg]⟩
  obtain⟨ρ,rfl,g⟩:=q;exact⟨_,by simp[g],by simpa using z2,wC hh hg nds lh ls m0⟩
 ·obtain ⟨j,ej,hj⟩:=VF (d0:Int) (b:=3) (by lia)
  have s1:Xg (dN d0) (.int 3)=.ok (dN j):=by rw[Vc (by lia),ej]
  have s3:Vg (dN d0) (.int 3)=.ok (.int ((d0:Int) / 3)):=OL (by lia) (by lia)
  obtain⟨j2,ej2,hj2⟩:=VF ((d0:Int) / 3) (b:=3) (by lia)
  have s4:Xg (.int ((d0:Int) / 3)) (.int 3)=.ok (dN j2):=by rw[Vc (by lia),ej2]
  have s5:Vg (dN d0) (.int 9)=.ok (.int ((d0:Int) / 9)):=OL (by lia) (by lia)
  obtain⟨j3,ej3,hj3⟩:=VF ((d0:Int) / 9) (b:=4) (by lia)
  have s6:Xg (.int ((d0:Int) / 9)) (.int 4)=.ok (dN j3):=by rw[Vc (by lia),ej3]
  obtain⟨hs2,lh2,nh2,eh2⟩:∃hs2:List Str,hs2.length=1+j/\Ky hs2/\Rq (dS hs) none (some (1+(j:Int)))=.ok (dS hs2):=⟨YC hs none (some ((1+j:Nat):Int)),Oz hs (by lia) (by lia),⟨λz hz=>hh.hh z (Hm hz),LJ hh.nd,λa ha b hb=>hh.fl a (Hm ha) b (Hm hb)⟩,by show Res.ok (D.lst (YC (hs.map D.str) none (some ((1+j:Nat):Int))))=_;rw[Fo]⟩
  obtain⟨ss2,ls2,ms2,es2⟩:∃ss2:List Str,ss2.length=1+j2/\(∀z∈ss2,z∈ss)/\Rq (dS ss) none (some (1+(j2:Int)))=.ok (dS ss2):=⟨YC ss none (some ((1+j2:Nat):Int)),Oz ss (by lia) (by lia),λz hz=>Hm hz,by show Res.ok (D.lst (YC (ss.map D.str) none (some ((1+j2:Nat):Int))))=_;rw[Fo]⟩
  obtain⟨rs,e,h1,h2⟩:=a7f ns (i+1) hs2 ss2 j3 (by lia) (by lia) (by lia) (by lia) nh2 (λz hz=>hg z (ms2 z hz))
  have e':a1b [Up ns,.int ((i:Int)+1),dS hs2,dS ss2,dN j3]=.ok (dR rs):=e;refine⟨rs,?_,h1,h2⟩;simp[c,Rb,s1,s3,s4,s5,s6,TC,eh2,es2,e',-WX,-Res.bind_ok,-L2.go_ok,-Out.then_nx,Zf,WR,Zg]
inductive Md where
 | leaf (s:Str)
 | node (n:Int) (cs:List Md)
def Md.ind {P:Md->Prop} (hl:∀s,P (.leaf s)) (hn:∀n cs,(∀c∈cs,P c)->P (.node n cs)) (m:Md):P m :=
 Md.rec (motive_1:=P) (motive_2:=λms=>∀c∈ms,P c) hl hn (λc h=>nomatch h) (λm ms h1 h2 c h=>by
  rcases y0.mp h with e|h
  ·rw[e];exact h1
  ·exact h2 c h) m
mutual
noncomputable def toD:Md->D
 | .leaf s=>.str s
 | .node n cs=>.tup [.int n,.lst (toDs cs)]
noncomputable def toDs:List Md->List D
 | []=>[]
 | m::ms=>toD m::toDs ms
end
mutual
noncomputable def sz:Md->Nat
 | .leaf _=>1
 | .node _ cs=>XC cs+1
noncomputable def XC:List Md->Nat
 | []=>0
 | m::ms=>sz m+XC ms
end
mutual
noncomputable def dp:Md->Nat
 | .leaf _=>1
 | .node _ cs=>VW cs+1
noncomputable def VW:List Md->Nat
 | []=>0
 | m::ms=>max (dp m) (VW ms)
end
mutual
noncomputable def tr (A:XM):Md->D
 | .leaf s=>.ins A.Leaf [("sign",.str s),("tree_size",.int 1),("tree_depth",.int 1)]
 | .node n cs=>.ins A.Node [("number",.int n),("children",.tup (YE A cs)),("tree_size",.int (1+XC cs)),("tree_depth",.int (1+VW cs))]
noncomputable def YE (A:XM):List Md->List D
 | []=>[]
 | m::ms=>tr A m::YE A ms
end
theorem Ry:∀ms,toDs ms=ms.map toD
 | []=>rfl
 | m::ms=>by rw[toDs,Ry ms];rfl
theorem QZ (A:XM):∀ms,YE A ms=ms.map (tr A)
 | []=>rfl
 | m::ms=>by rw[YE,QZ A ms];rfl
def OE (ms:List Md):(toDs ms).length=ms.length:=by rw[Ry];simp
def SR (A:XM) (ms:List Md):(YE A ms).length=ms.length:=by rw[QZ];simp
inductive Ok:Md->Prop
 | leaf {s:Str} (h:PyData.strOk s=true) (l:s.length<=1000):Ok (.leaf s)
 | node {n:Int}{cs:List Md} (h0:0<=n) (h1:n<1000) (hl:cs.length<=1000) (hc:∀c∈cs,Ok c):Ok (.node n cs)
noncomputable def Ru:D->Int
 | .ins _ gs=>match gs.lookup ("tree_size":Str) with
  | some (.int i)=>i
  | _=>0
 | _=>0
noncomputable def Te:D->Int
 | .ins _ gs=>match gs.lookup ("tree_depth":Str) with
  | some (.int i)=>i
  | _=>0
 | _=>0
inductive Tz (A:XM):D->Prop
 | mk {C:Addr}{gs:List (Str×D)}{i j:Int} (h:C=A.Leaf\/C=A.Node) (hi:gs.lookup ("tree_size":Str)=some (.int i)) (hj:gs.lookup ("tree_depth":Str)=some (.int j)) (h1:gs.lookup ("size":Str)=none) (h2:gs.lookup ("depth":Str)=none):Tz A (.ins C gs)
def Mr (A:XM) (m:Md):Tz A (tr A m):=by
 cases m with
 | leaf s=>exact .mk (.inl rfl) (i:=1) (j:=1) (by rfl) (by rfl) (by rfl) (by rfl)
 | node n cs=>exact .mk (.inr rfl) (i:=1+XC cs) (j:=1+VW cs) (by rfl) (by rfl) (by rfl) (by rfl)
theorem Nn (A:XM) (m:Md):Ru (tr A m)=sz m:=by
 cases m with
 | leaf s=>rfl
 | node n cs=>show(1+(XC cs:Int))=((XC cs+1:Nat):Int);lia
theorem BO (A:XM) (m:Md):Te (tr A m)=dp m:=by
 cases m with
 | leaf s=>rfl
 | node n cs=>show(1+(VW cs:Int))=((VW cs+1:Nat):Int);lia
noncomputable def QR (ds:List D):Int:=(ds.map Ru).sum
noncomputable def PU (ds:List D):Int:=match ds.map Te with
 | []=>0
 | i::r=>r.foldl SN i
theorem Aj (A:XM):∀ms,QR (YE A ms)=XC ms
 | []=>rfl
 | m::ms=>by
  have:=Aj A ms
  unfold QR at this |-
  rw[YE,w9,List.sum_cons,this,Nn,XC];lia
def Ja (a b:Nat):SN (a:Int) (b:Int)=((max a b:Nat):Int):=by
 unfold SN;by_cases h:a<b
 ·rw[if_pos (Int.ofNat_lt.mpr h),Nat.max_eq_right (Wz h)]
 ·rw[if_neg (λz=>h (Int.ofNat_lt.mp z)),Nat.max_eq_left (Nat.le_of_not_lt h)]
theorem Aq (A:XM):∀(ms:List Md) (k:Nat),((YE A ms).map Te).foldl SN (k:Int)=((max k (VW ms):Nat):Int)
 | [],k=>by simp[YE,VW]
 | m::ms,k=>by
  rw[YE,w9,List.foldl_cons,BO,Ja,Aq A ms,VW,Nat.max_assoc]
def wW (A:XM) (ms:List Md):PU (YE A ms)=VW ms:=by
 cases ms with
 | nil=>rfl
 | cons m ms =>
  show((YE A ms).map Te).foldl SN (Te (tr A m))=_;rw[BO,Aq,VW]
noncomputable def Zy:Md->List Md
 | .leaf _=>[]
 | .node _ cs=>cs
def Kf:C∈[A.Leaf,A.Node]↔C=A.Leaf\/C=A.Node:=by simp
structure UZ (A:XM) (g:Addr->List D->Res D):Prop where
 l:∀d,g A.Leaf [d]=.ok (.bl true)
 n:∀d,g A.Node [d]=.ok (.bl false)
noncomputable def Y4:Md->Bool
 | .leaf _=>true
 | .node _ _=>false
def Bx (A:XM) (m:Md) {x:Str} (h:x∉([("sign":Str),"tree_size","tree_depth","number","children"]:List Str)):Tj [A.Leaf,A.Node] x (tr A m)=.ok (match m with | .leaf _=>A.Leaf | .node _ _=>A.Node,tr A m):=by
 simp only[y0,u0,or_false,not_or] at h;obtain⟨h1,h2,h3,h4,h5⟩:=h;have b1:=Y9 h1;have b2:=Y9 h2;have b3:=Y9 h3;have b4:=Y9 h4;have b5:=Y9 h5;cases m<;>simp[Tj,tr,List.lookup,b1,b2,b3,b4,b5]
def QY{g:Addr->List D->Res D} (p:UZ A g) (m:Md):((Tj [A.Leaf,A.Node] "is_leaf" (tr A m)).bind λy=>YD (g y.1 [y.2]))=.ok (.bl (Y4 m)):=by
 rw[Bx A m (by decide +kernel)]
 cases m with
 | leaf s=>show YD (g A.Leaf _)=_;rw[p.l];rfl
 | node n cs=>show YD (g A.Node _)=_;rw[p.n];rfl
def L4 (A:XM) (n:Int) (cs:List Md):TJ [A.Node] "children" (tr A (.node n cs))=.ok (.tup (YE A cs)):=by
 show(if A.Node∈[A.Node] then _ else _)=_
 rw[if_pos (by simp)]
 rfl
def OF (A:XM) (n:Int) (cs:List Md):TJ [A.Node] "number" (tr A (.node n cs))=.ok (.int n):=by
 show(if A.Node∈[A.Node] then _ else _)=_
 rw[if_pos (by simp)]
 rfl
def K4 (A:XM) (s:Str):TJ [A.Leaf] "sign" (tr A (.leaf s))=.ok (.str s):=by
 show(if A.Leaf∈[A.Leaf] then _ else _)=_
 rw[if_pos (by simp)]
 rfl
structure RL (G:FD):Prop where
 i:∀i,G [.int i]=.ok (.bl true)
 b:∀b,G [.bl b]=.ok (.bl false)
 s:∀s,G [.str s]=.ok (.bl false)
 n:G [.non]=.ok (.bl false)
 l:∀ds,G [.lst ds]=.ok (.bl false)
def sF (F:Fun K "is_leaf" "Leaf.is_leaf" Dn f fd) (T:Txt P w K mg A):∃G,FnOk P w K mg base Z0 1 f fd ["self"] (Zt K G)/\∀d,G [d]=.ok (.bl true):=by
 refine⟨_,F.okT (k:=0) rW (λZm Ar outer s H E hr=>Zn (YL XB)),?_⟩
 intro d;simp[Zq,ZV]
def sE (F:Fun K "is_leaf" "Node.is_leaf" Dm f fd) (T:Txt P w K mg A):∃G,FnOk P w K mg base Z0 1 f fd ["self"] (Zt K G)/\∀d,G [d]=.ok (.bl false):=by
 refine⟨_,F.okT (k:=0) rV (λZm Ar outer s H E hr=>Zn (YL XB)),?_⟩
 intro d;simp[Zq,ZV]
def yP (F:Fun K "size" "Tree.size" Gv f fd) (T:Txt P w K mg A):∃G,FnOk P w K mg base Z0 1 f fd ["self"] (Zt K G)/\∀d,Tz A d->G [d]=.ok (.int (Ru d)):=by
 refine⟨_,F.okT (k:=0) sR (λZm Ar outer s H E hr=>Zn (YL (W4 T.f_tree_size (dv 0)))),?_⟩
 intro d h;cases h with
 | mk h hi hj h1 h2 =>
  rw[<- Kf] at h;simp[Zq,ZV,TJ,h,hi,Ru]
def yE (F:Fun K "depth" "Tree.depth" GC f fd) (T:Txt P w K mg A):∃G,FnOk P w K mg base Z0 1 f fd ["self"] (Zt K G)/\∀d,Tz A d->G [d]=.ok (.int (Te d)):=by
 refine⟨_,F.okT (k:=0) sB (λZm Ar outer s H E hr=>Zn (YL (W4 T.f_tree_depth (dv 0)))),?_⟩
 intro d h;cases h with
 | mk h hi hj h1 h2 =>
  rw[<- Kf] at h;simp[Zq,ZV,TJ,h,hj,Te]
def sL {g_is_leaf:Addr->List D->Res D} (m_is_leaf:∀C∈[A.Leaf,A.Node],Zp P w K mg base 1 C "is_leaf" ["self"] (g_is_leaf C)) (a0j:UZ A g_is_leaf) (F:Fun K "children_of" "children_of" DJ f fd) (T:Txt P w K mg A):∃G,FnOk P w K mg base Z0 2 f fd ["tree"] (Zt K G)/\∀m,G [tr A m]=.ok (.tup (YE A (Zy m))):=by
 refine⟨_,F.okT (k:=1) sU (λZm Ar outer s H E hr=>Zn (YL (HR (X9 (Rc m_is_leaf hr (dv 0))) (Z6 ZU) (W4 T.f_children (dv 0))))),?_⟩
 intro m;simp[Zq,ZV,QY a0j];cases m with
 | leaf s=>simp[Y4,Zy,YE]
 | node n cs=>simp[Y4,L4,Zy]
noncomputable def gLeaf:List D->Res (List (Str×D))
 | [d]=>.ok [("sign",d),("tree_size",.int 1),("tree_depth",.int 1)]
 | _=>.bad
open Classical in
noncomputable def gNode (A:XM):List D->Res (List (Str×D))
 | [n,c]=>match Ya c with
  | some ds=>if (∀d∈ds,Tz A d)/\ds.length<=1000 then .ok [("number",n),("children",.tup ds),("tree_size",.int (1+QR ds)),("tree_depth",.int (1+PU ds))] else .bad
  | none=>.bad
 | _=>.bad
def xv (A:XM) (n:Int) (ms:List Md) (h:ms.length<=1000) {c:D} (e:Ya c=some (YE A ms)):gNode A [.int n,c]=.ok [("number",.int n),("children",.tup (YE A ms)),("tree_size",.int (1+XC ms)),("tree_depth",.int (1+VW ms))]:=by
 have k:(∀d∈YE A ms,Tz A d)/\(YE A ms).length<=1000:=⟨λd m=>by
  rw[QZ] at m;obtain⟨x,_,rfl⟩:=u3.mp m;exact Mr A x,by rw[SR];exact h⟩
 unfold gNode;simp only[e];rw[if_pos k,Aj,wW]
def O7 (a C:Addr) (gs:List (Str×D)) (ρ:Rho):T3 (some (.own (.i a C gs))::ρ) 0=.ok (a,C,gs):=rfl
def On (a C:Addr) (gs:List (Str×D)) (ρ:Rho):T9 a C (.nx (some (.own (.i a C gs))::ρ))=.ok gs:=if_pos ⟨rfl,rfl⟩
def zW (f:Str) (d:D):Um f d []=[(f,d)]:=rfl
def R6{f:Str}{r:List (Str×D)} (h:g≠f):Um f d ((g,x)::r)=(g,x)::Um f d r:=if_neg h
def J9{f:Str}{r:List (Str×D)} (h:f≠g):List.lookup f ((g,x)::r)=List.lookup f r:=by rw[u5,Y9 h]
def J8{f:Str}{r:List (Str×D)}:List.lookup f ((f,x)::r)=some x:=by rw[u5];simp
def RP(h:D->D) (k:∀d∈ds,fT [some (.val d)]=.ok true/\fe [some (.val d)]=.ok (h d)):YH (λd ρ=>.ok (ρ.set 0 (some (.val d)))) fT fe [none] ds=.ok (ds.map h) :=
 OH h λd hd=>⟨[some (.val d)],rfl,(k d hd).1,(k d hd).2⟩
def PN(h:Tz A d):U6 [(A.Leaf,true),(A.Node,true)] [] d=.ok (.bl true):=by
 cases h with
 | @mk C gs i j h hi hj h1 h2 =>
  have e:List.lookup C [(A.Leaf,true),(A.Node,true)]=some true:=by
   rw[u5];by_cases c:(C==A.Leaf)=true
   ·rw[c]
   ·rw [Bool.eq_false_iff.mpr c,u5]
    rcases h with h|h
    ·rw[h] at c;simp at c
    ·rw[h];simp
  show WS _ C=_;unfold WS;rw[e]
def xg{g:Addr->List D->Res D} (p:∀C d,C∈[A.Leaf,A.Node]->Tz A d->g C [d]=.ok (.int (Ru d))) (h:Tz A d):((Tj [A.Leaf,A.Node] "size" d).bind λy=>YD (g y.1 [y.2]))=.ok (.int (Ru d)):=by
 cases id h with
 | @mk C gs i j hC hi hj h1 h2 =>
  have hm:=Kf.mpr hC;unfold Tj;simp only[hm,h1,and_self,if_true,Res.bind_ok];rw[p C _ hm h];rfl
def vO{g:Addr->List D->Res D} (p:∀C d,C∈[A.Leaf,A.Node]->Tz A d->g C [d]=.ok (.int (Te d))) (h:Tz A d):((Tj [A.Leaf,A.Node] "depth" d).bind λy=>YD (g y.1 [y.2]))=.ok (.int (Te d)):=by
 cases id h with
 | @mk C gs i j hC hi hj h1 h2 =>
  have hm:=Kf.mpr hC;unfold Tj;simp only[hm,h2,and_self,if_true,Res.bind_ok];rw[p C _ hm h];rfl
def PK (ds:List D):items (.tup ds)=.ok ds:=rfl
def AY (ds:List D):items (.lst ds)=.ok ds:=rfl
def Sq (ρ:Rho):Xs 1 [] ρ=[none]:=rfl
theorem Ew (h:D->Int):∀ds:List D,X7 (ds.map λd=>.int (h d))=some (ds.map h)
 | []=>rfl
 | d::ds=>by rw[w9,X7,Ew h ds];rfl
def Ft(S:Nat->Rho->Prop) (Q:Out->Prop) (hQ:∀o,Q o->VZ o)
  (step:∀n ρ,S n ρ->(fT (frz ρ)=.ok false/\Q (.nx ρ))\/(fT (frz ρ)=.ok true/\((∃ρ2 n2,n2<n/\tb ρ=.nx ρ2/\S n2 ρ2)\/∃v,tb ρ=.rt v/\Q (.rt v)))) (n:Nat) (ρ:Rho) (h:S n ρ):Q (wD fT tb ρ):=by
 suffices ∃k,Q (YR fT tb k ρ) by
  obtain⟨k,q⟩:=this;rw[Ks rfl (hQ _ q)];exact q
 induction n using Nat.strongRecOn generalizing ρ with
 | ind n ih =>
  rcases step n ρ h with⟨e,q⟩|⟨e,⟨ρ2,n2,l,e2,h2⟩|⟨v,e2,q⟩⟩
  ·exact⟨1,by simp only[YR,e,go_ok];exact q⟩
  ·obtain ⟨k,q⟩:=ih n2 l ρ2 h2
   exact⟨k+1,by simp only[YR,e,go_ok,e2];exact q⟩
  ·exact⟨1,by simp only[YR,e,go_ok,e2];exact q⟩
def tH (F:Fun K "__init__" "Leaf.__init__" DD f fd) (T:Txt P w K mg A):FnOk P w K mg base Z0 1 f fd ["self","sign"] (VO K A.Leaf gLeaf) :=
 F.okI0 (k:=0) sS (λds gs h=>by
  match ds,h with
  | [d],h=>rfl
  | [],h=>cases h
  | _::_::_,h=>cases h) (λZm Ar outer s H E hr=>⟨_,Zu (RA 0 T.c_Leaf T.na_Leaf_sign (dv 1))
  (Zu (RA 0 T.c_Leaf T.na_Leaf_tree_size ZT)
  (Zn (RA 0 T.c_Leaf T.na_Leaf_tree_depth ZT))),λa ds gs h=>by
  match ds,h with
  | [d],h =>
   cases h;have n1:("sign":Str)≠"tree_size":=by decide +kernel
   have n2:("sign":Str)≠"tree_depth":=by decide +kernel
   have n3:("tree_size":Str)≠"tree_depth":=by decide +kernel
   simp[WW,ZV,O7,On,zW,R6 n1,R6 n2,R6 n3]
  | [],h=>cases h
  | _::_::_,h=>cases h⟩)
set_option tactic.hygienic true in
def tF {g_size:Addr->List D->Res D} (m_size:∀C∈[A.Leaf,A.Node],Zp P w K mg base 1 C "size" ["self"] (g_size C)) {g_depth:Addr->List D->Res D} (m_depth:∀C∈[A.Leaf,A.Node],Zp P w K mg base 1 C "depth" ["self"] (g_depth C)) (a6k:∀C d,C∈[A.Leaf,A.Node]->Tz A d->g_size C [d]=.ok (.int (Ru d))) (a6c:∀C d,C∈[A.Leaf,A.Node]->Tz A d->g_depth C [d]=.ok (.int (Te d))) (F:Fun K "__init__" "Node.__init__" L0 f fd) (T:Txt P w K mg A):FnOk P w K mg base Z0 2 f fd ["self","number","children"] (VO K A.Node (gNode A)) :=
 F.okI0 (k:=1) yA (λds gs h=>by
  match ds,h with
  | [n,c],h=>rfl
  | [],h=>cases h
  | [_],h=>cases h
  | _::_::_::_,h=>cases h) (λZm Ar outer s H E hr=>⟨_,Zu (RA 0 T.c_Node T.na_Node_number (dv 1))
  (Zu (RA 0 T.c_Node T.na_Node_children (KI Le T.z_tuple (by decide +kernel) (ZW (dv 2) ZU)))
  (Zu (Hd ["child"] [] rfl (Uy (sc:=ZX L0) (N:=["self","number","children","trees"]) (by decide +kernel)) yA.nd (VS (BG 0 T.c_Node T.na_Node_children)) (YT (show(["child"]:List Str).Nodup by decide +kernel)) (HE (X9 (NC T.o_Tree T.m_Tree T.z_isinstance (by decide +kernel) (dv 0)))) (dv 0))
  (Zu (RA 0 T.c_Node T.na_Node_tree_size (ZC Ww ZT (Yh (IE rfl) T.z_sum (by decide +kernel) (ZW (DN.de (Tt ["child"] [] rfl (Uy (sc:=ZX L0) (N:=["self","number","children","trees"]) (by decide +kernel)) (VS (dv 3)) (YT (show(["child"]:List Str).Nodup by decide +kernel)) Tq (Rc m_size hr (dv 0)))) ZU))))
  (Zn (RA 0 T.c_Node T.na_Node_tree_depth (ZC Ww ZT (LN rfl T.z_max (by decide +kernel) (DN.de (Tt ["child"] [] rfl (Uy (sc:=ZX L0) (N:=["self","number","children","trees"]) (by decide +kernel)) (VS (dv 3)) (YT (show(["child"]:List Str).Nodup by decide +kernel)) Tq (Rc m_depth hr (dv 0)))) ZT))))))),λa ds gs h=>by
  match ds,h with
  | [n,c],h =>
   unfold gNode at h;simp only at h;split at h
   ·rename_i ds e
    split at h
    ·rename_i hk
     cases h;have et:WD [c]=.ok (.tup ds):=by
      cases c<;>first|(cases e;rfl)|cases e
     have n1:("number":Str)≠"children":=by decide +kernel
     have n2:("number":Str)≠"tree_size":=by decide +kernel
     have n3:("number":Str)≠"tree_depth":=by decide +kernel
     have n4:("children":Str)≠"tree_size":=by decide +kernel
     have n5:("children":Str)≠"tree_depth":=by decide +kernel
     have n6:("tree_size":Str)≠"tree_depth":=by decide +kernel
     have hz:ds.length<=sizeLine:=v7 hk.2 (by decide)
     have c1:=RP (ds:=ds) (fT:=λρ=>((Wl ρ 0).bind (U6 [(A.Leaf,true),(A.Node,true)] [])).bind UI) (fe:=λρ=>Wl ρ 0) id λd m=>⟨by simp[PN (hk.1 d m)],rfl⟩
     have c2:=RP (ds:=ds) (fT:=λx=>Res.ok true) (fe:=λρ=>(Wl ρ 0).bind λx=>(Tj [A.Leaf,A.Node] (Str.ofString "size") x).bind λy=>YD (g_size y.fst [y.snd])) (λd=>.int (Ru d)) λd m=>⟨rfl,by simp[xg a6k (hk.1 d m)]⟩
     have c3:=RP (ds:=ds) (fT:=λx=>Res.ok true) (fe:=λρ=>(Wl ρ 0).bind λx=>(Tj [A.Leaf,A.Node] (Str.ofString "depth") x).bind λy=>YD (g_depth y.fst [y.snd])) (λd=>.int (Te d)) λd m=>⟨rfl,by simp[vO a6c (hk.1 d m)]⟩
     rw[List.map_id] at c1;have es:Pq [.lst (ds.map λd=>.int (Ru d))]=.ok (.int (QR ds)):=by
      unfold Pq;simp only[Ew];rfl
     have em:We (.lst (ds.map λd=>.int (Te d))) (.int 0)=.ok (.int (PU ds)):=by
      unfold We PU;simp only[Ew];cases ds<;>rfl
     simp[WW,ZV,O7,On,et,zW,R6 n1,R6 n2,R6 n3,R6 n4,R6 n5,R6 n6,J9 n1.symm,J8,PK,AY,Sq,Wx hz,c1,c2,c3,es,em,VD]
    ·cases h
   ·cases h
  | [],h=>cases h
  | [_],h=>cases h
  | _::_::_::_,h=>cases h⟩)
def Rr{a:Str} (h:PyData.strOk a=true) (k:PyData.strOk b=true):V1 (.str a) (.str b)=.ok (.bl (decide (a=b))):=by
 show V1 _ _=_;unfold V1;rw[Hn h,Hn k];show Res.ok (D.bl (a==b))=_;rfl
def O5 (i j:Int):V1 (.int i) (.int j)=.ok (.bl (decide (i=j))):=by
 show Res.ok (D.bl (i==j))=_;rfl
noncomputable def Xy:Md->Md->Bool
 | .leaf s,.leaf t=>decide (s=t)
 | .node n cs,.node n' cs'=>decide (n=n')&&decide (cs.length=cs'.length)
 | _,_=>false
def Hw{l:List D} (h:ρ[i]?=some (some (.own (.l (l++[x]))))):(RW ρ i).bind (Sm ρ i)=.ok (x,ρ.set i (some (.own (.l l)))):=by
 unfold RW;rw[h];show Sm ρ i (OD.l,l++[x])=_;unfold Sm;simp
def K6 {m:Md}:0<sz m:=by cases m<;>simp[sz]
theorem Nr:∀(a b:List Md),XC (a++b)=XC a+XC b
 | [],b=>by simp[XC]
 | m::a,b=>by simp[XC,Nr a b];lia
def K5 (A:XM) (a b:List Md):YE A (a++b)=YE A a++YE A b:=by simp[QZ]
theorem Fi:∀ms:List Md,ms.length<=XC ms
 | []=>w4 _
 | m::ms=>by have:=Fi ms;have:=K6 (m:=m);simp[XC];lia
noncomputable def prs (A:XM) (ps:List (Md×Md)):List D:=ps.map λp=>.tup [tr A p.1,tr A p.2]
noncomputable def Uw:List (Md×Md)->Nat
 | []=>0
 | p::ps=>sz p.1+Uw ps
def Qu (A:XM) (a b:List (Md×Md)):prs A (a++b)=prs A a++prs A b:=by simp[prs]
def B6 (A:XM) (a:List (Md×Md)):(prs A a).length=a.length:=by simp[prs]
theorem Hs:∀a b,Uw (a++b)=Uw a+Uw b
 | [],b=>by simp[Uw]
 | p::a,b=>by simp[Uw,Hs a b];lia
theorem Fc:∀ps,ps.length<=Uw ps
 | []=>w4 _
 | p::ps=>by have:=Fc ps;have:=K6 (m:=p.1);simp[Uw];lia
theorem Ai:∀(a b:List Md),Uw (a.zip b)<=XC a
 | [],b=>by simp[Uw]
 | x::a,[]=>by simp[Uw]
 | x::a,y::b=>by have:=Ai a b;simp[Uw,XC];lia
theorem QU {a b:Md} (h:Xy a b=true):Uw ((Zy a).zip (Zy b))<sz a:=by
 have:=Ai (Zy a) (Zy b)
 cases a<;>simp[sz,Zy,Uw,XC] at *
 lia
theorem B5 (A:XM):∀(a b:List Md),Wi (YE A a) (YE A b)=prs A (a.zip b)
 | [],b=>rfl
 | x::a,[]=>rfl
 | x::a,y::b=>by
  have:=B5 A a b
  unfold Wi prs at *
  simp[YE] at *
  exact this
def PC {a b:Md} (h:Xy a b=false):a≠b:=λe=>by
 subst e;cases a<;>simp[Xy] at h
theorem AT:∀{a b:List Md},a.length=b.length->(a=b↔∀p∈a.zip b,p.1=p.2)
 | [],[],_=>by simp
 | x::a,y::b,h=>by
  have:=AT (a:=a) (b:=b) (by simpa using h)
  simp;rw[this]
  simp
 | [],_::_,h=>by simp at h
 | _::_,[],h=>by simp at h
def xn {a b:Md} (h:Xy a b=true):a=b↔∀p∈(Zy a).zip (Zy b),p.1=p.2:=by
 cases a with
 | leaf s =>
  cases b with
  | leaf t=>simp[Xy] at h;simp[Zy,h]
  | node n cs=>simp[Xy] at h
 | node n cs =>
  cases b with
  | leaf t=>simp[Xy] at h
  | node n' cs' =>
   simp[Xy] at h;rw[<- AT (show(Zy (.node n cs)).length=(Zy (.node n' cs')).length from h.2)]
   simp[Zy,h.1]
def Ok.kid {m c:Md} (h:Ok m) (hc:c∈Zy m):Ok c:=by
 cases h with
 | leaf=>cases hc
 | node h0 h1 hl h=>exact h c hc
theorem sj {g_is_leaf:Addr->List D->Res D} (m_is_leaf:∀C∈[A.Leaf,A.Node],Zp P w K mg base 1 C "is_leaf" ["self"] (g_is_leaf C)) (a0j:UZ A g_is_leaf) (F:Fun K "are_alike_here" "are_alike_here" Dq f fd) (T:Txt P w K mg A):∃G,FnOk P w K mg base Z0 2 f fd ["one","other"] (Zt K G)/\∀a b,Ok a->Ok b->G [tr A a,tr A b]=.ok (.bl (Xy a b)):=by
 refine⟨_,F.okT (k:=1) rZ (λZm Ar outer s H E hr=>Zu (XH (WB (Tu (X9 (Rc m_is_leaf hr (dv 0))) (SV (X9 (Rc m_is_leaf hr (dv 1)))))) (Zn (YL (VG (Rc m_is_leaf hr (dv 0)) (VG (Rc m_is_leaf hr (dv 1)) (UB (Ub (Xq (Yj hr)) (W4 T.f_sign (dv 0)) (W4 T.f_sign (dv 1)))))))) XA)
  (Zn (YL (VG (Ub (Xq (Yj hr)) (W4 T.f_number (dv 0)) (W4 T.f_number (dv 1))) (UB (Ub (Xq (Yj hr)) (Yh X3 T.z_len (by decide +kernel) (ZW (W4 T.f_children (dv 0)) ZU)) (Yh X3 T.z_len (by decide +kernel) (ZW (W4 T.f_children (dv 1)) ZU)))))))),?_⟩
 intro a b ha hb;simp[Zq,ZV,QY a0j];cases ha with
 | leaf h l =>
  cases hb with
  | leaf h2 l2=>simp[Y4,K4,Rr h h2,Xy,QY a0j]
  | node=>simp[Y4,Xy,QY a0j]
 | @node n cs h0 h1 hl hc =>
  cases hb with
  | leaf h2 l2=>simp[Y4,Xy,QY a0j]
  | @node n' cs' k0 k1 kl kc =>
   simp[Y4,OF,L4,Yv,O5,Xy,SR];by_cases c:n=n'<;>simp[c,OF,L4,Yv,O5,Xy,SR]
   lia
theorem xH {a0g:FD} (a0e:Callee P w K mg base 2 "children_of" ["tree"] (Zt K a0g)) {a2h:FD} (a1h:Callee P w K mg base 2 "are_alike_here" ["one","other"] (Zt K a2h)) (a0t:∀m,a0g [tr A m]=.ok (.tup (YE A (Zy m)))) (a0q:∀a b,Ok a->Ok b->a2h [tr A a,tr A b]=.ok (.bl (Xy a b))) (F:Fun K "alike" "alike" ES f fd) (T:Txt P w K mg A):∃G,FnOk P w K mg base Z0 3 f fd ["one","other"] (Zt K G)/\∀a b,Ok a->Ok b->sz a<=10000->∃c,G [tr A a,tr A b]=.ok (.bl c)/\(c=true↔a=b):=by
 refine⟨_,F.okT (k:=2) EI (λZm Ar outer s H E hr=>Zu (Uz EI.nd (Tp (ZW (Z6 (ZW (dv 0) (ZW (dv 1) ZU))) ZU)))
  (Zu (EC (Xk Ui (Yh X3 T.z_len (by decide +kernel) (ZW (dv 2) ZU)) ZT) (Zu (SE EI.nd (HI 2))
   (Zu (XH (VQ (X9 (Zz a1h hr (ZW (ZA ZD (dv 3) ZT) (ZW (ZA ZD (dv 3) ZT) ZU))))) (Zn (YL XB)) XA)
   (Zn (HC 2 (DN.de (BC rfl T.z_list T.z_zip (ZW (Zz a0e hr (ZW (ZA ZD (dv 3) ZT) ZU)) (ZW (Zz a0e hr (ZW (ZA ZD (dv 3) ZT) ZU)) ZU)))))))))
  (Zn (YL XB)))),?_⟩
 intro a b ha hb hz;simp[Zq,ZV];generalize hI:wD _ _ _=o;have q:(∃ρ,o=.nx ρ/\a=b)\/(o=.rt (.bl false)/\a≠b):=by
  rw[<- hI];refine Ft (S:=λn ρ=>∃YW x,ρ=[some (.val (tr A a)),some (.val (tr A b)),some (.own (.l (prs A YW))),x]/\(a=b↔∀p∈YW,p.1=p.2)/\(∀p∈YW,Ok p.1/\Ok p.2)/\Uw YW=n/\n<=10000)
   (Q:=λo=>(∃ρ,o=.nx ρ/\a=b)\/(o=.rt (.bl false)/\a≠b)) (λo h=>by rcases h with⟨ρ,e,_⟩|⟨e,_⟩<;>(rw[e];trivial)) (λn ρ h=>?_) (sz a) _ ⟨[(a,b)],none,rfl,by simp,by simp;exact⟨ha,hb⟩,by simp[Uw],hz⟩
  obtain⟨YW,x,rfl,hab,hok,hn,hl⟩:=h;rcases List.eq_nil_or_concat YW with rfl|⟨YW,p,rfl⟩
  ·left
   refine⟨by simp[Yv,prs],.inl ⟨_,rfl,hab.mpr λp h=>nomatch h⟩⟩
  ·right
   obtain⟨p1,p2⟩:=p;rw[List.concat_eq_append] at *
   have ok:=hok (p1,p2) (by simp)
   have pw:=Hw (ρ:=[some (.val (tr A a)),some (.val (tr A b)),some (.own (.l (prs A (YW++[(p1,p2)])))),x]) (i:=2) (l:=prs A YW) (x:=.tup [tr A p1,tr A p2]) (by simp[prs])
   have i0:Xi (.tup [tr A p1,tr A p2]) (.int 0)=.ok (tr A p1):=rfl;have i1:Xi (.tup [tr A p1,tr A p2]) (.int 1)=.ok (tr A p2):=rfl;refine⟨by simp[Yv,prs],?_⟩
   rw[pw];cases hh:Xy p1 p2 with
   | false =>
    right;refine⟨_,by simp[i0,i1,a0q _ _ ok.1 ok.2,hh],.inr ⟨rfl,λe=>?_⟩⟩
    exact PC hh (hab.mp e (p1,p2) (by simp))
   | true =>
    left;have hs:=Hs YW [(p1,p2)]
    have hz2:=QU hh;have hk:=xn hh;have l1:=Fc YW;have l2:=Fc ((Zy p1).zip (Zy p2));simp[Uw] at hs;refine⟨_,Uw (YW++(Zy p1).zip (Zy p2)),by rw[Hs];lia,by simp[i0,i1,a0q _ _ ok.1 ok.2,hh,a0t,Rk,U3,Ya,B5];rw[if_pos (v7 (show _<=20000 by rw[B6,B6];lia) (by decide))],YW++(Zy p1).zip (Zy p2),_,by simp[Qu];exact rfl,?_,λp m=>?_,rfl,by rw[Hs];lia⟩
    ·rw [hab]
     constructor
     ·intro h p m
      rcases u9.mp m with m|m
      ·exact h p (by simp[m])
      ·exact hk.mp (h (p1,p2) (by simp)) p m
     ·intro h p m
      rcases u9.mp m with m|m
      ·exact h p (by simp[m])
      ·obtain rfl:=v8.mp m
       exact hk.mpr λp m=>h p (by simp[m])
    ·rcases u9.mp m with m | m
     ·exact hok p (by simp[m])
     ·obtain ⟨x1,x2⟩:=p
      have m:=WK m;exact⟨ok.1.kid m.1,ok.2.kid m.2⟩
 rcases q with⟨ρ,rfl,e⟩|⟨rfl,e⟩
 ·exact .inr (by simp[e])
 ·exact .inl (by simp[e])
end K14
namespace L2
open PySem PySem.Spec PyProof.Rows
variable {K:W.Frag}{B:Hp×Hp}{ρ:Rho}{σ:St}{α:Type}{i k k':Nat}{x:Str}{X:Cx}{e c:Expr}{es:List Expr}{p pos:Pos}{P:Program}{w:World}{mg:MG}{base:Heap}{ps N:List Str}{fT:Rho->Res Bool}{xq:XQ}
section
variable {ρ2:Rho}{F H F1 H1 F2 H2 F' H':Hp}{a:Addr}{h:HO}{o:OD}{as:List Ag}{sl:List Sl}{vs:List V}
def Ll{l:List α}{x:α} (h:i<l.length):(l++[x])[i]?=l[i]?:=Lp h
theorem Nx{l:List α}{x y:α} (e:(l++[x])[i]?=some y):l[i]?=some y\/(i=l.length/\y=x):=by
 rcases Nat.lt_or_ge i l.length with z|z
 ·rw[Ll z] at e;exact .inl e
 ·rw [NI z] at e
  cases k:i - l.length with
  | zero=>rw[k] at e;cases e;exact .inr ⟨by lia,rfl⟩
  | succ n=>rw[k] at e;cases e
def Lm{l:List α}{x y:α} (e:l[i]?=some y):(l++[x])[i]?=some y:=by
 rw[Ll (x0.mp e).1];exact e
theorem Rel.more (R:Rel K B ρ σ F1 H1) (s:Stp F1 H1 F2 H2) (n1:F2 a=none) (n2:H1 a=none) (e:H2 a=some h) (r:Ro K F2 a h o):Rel K B (ρ++[some (.own o)]) (σ++[some (.ref a)]) F2 H2:=by
 have R2:=R.step s;have nb:∀{i:Nat}{o':OD}{a':Addr},ρ[i]?=some (some (.own o'))->σ[i]?=some (some (.ref a'))->a'≠a:=λ{i o' a'} e1 e2 z=>by
  obtain⟨b,hh,p1,p2,p3,p4,p5⟩:=R.own i o' e1;rw[e2] at p1;cases p1;rw[z,n2] at p4;cases p4
 have at_end:∀{i:Nat}{b:Addr},(σ++[some (.ref a)])[i]?=some (some (.ref b))->i=ρ.length->b=a:=λ{i b} e1 e2=>by
  rcases Nx e1 with z|⟨_,z⟩
  ·have:=(x0.mp z).1
   rw[R.len] at this;lia
  ·cases z;rfl
 have at_in:∀{i:Nat}{y:Option V}{u:Option Sl},ρ[i]?=some u->(σ++[some (.ref a)])[i]?=some y->σ[i]?=some y:=λ{i y u} e1 e2=>by
  rw[Ll (by rw[R.len];exact(x0.mp e1).1)] at e2;exact e2
 refine⟨R2.st,by rw[t5,t5,R.len];rfl,λi d e1=>?_,λi o' e1=>?_,λi j o' u b e1 e2 e3 e4=>?_⟩
 ·rcases Nx e1 with z | ⟨_,z⟩
  ·obtain ⟨v,p1,p2⟩:=R2.val i d z
   exact⟨v,Lm p1,p2⟩
  ·cases z
 ·rcases Nx e1 with z | ⟨z1,z⟩
  ·obtain ⟨b,hh,p1,p2⟩:=R2.own i o' z
   exact⟨b,hh,Lm p1,p2⟩
  ·cases z
   refine⟨a,h,?_,n1,?_,e,r⟩
   ·rw[z1,<- R.len];simp
   ·cases q:B.2 a with
    | none=>rfl
    | some x=>rw[R.st.hh a x q] at n2;cases n2
 ·rcases Nx e1 with z | ⟨z1,z⟩ <;> rcases Nx e2 with y | ⟨y1,y⟩
  ·exact R.dis i j o' u b z y (at_in z e3) (at_in y e4)
  ·exact absurd (at_end e4 y1) (nb z (at_in z e3))
  ·exact absurd (at_end e3 z1) (nb y (at_in y e4))
  ·rw[z1,y1]
def Agr.more {x:V} (g:Agr K F σ vs as):Agr K F (σ++[some x]) (vs++[x]) (as++[.o σ.length]):=by
 induction g with
 | nil=>exact .o (by simp) .nil
 | v p _ ih=>exact .v p ih
 | o p _ ih=>exact .o (Lm p) ih
def uL (h:ZK ρ as=.ok sl):ZK (ρ++[some (.own o)]) (as++[.o ρ.length])=.ok (sl++[.own (unp o)]):=by
 induction as generalizing sl with
 | nil=>cases h;simp[ZK]
 | cons x as ih =>
  cases x with
  | v d =>
   cases e:ZK ρ as with
   | ok s=>rw[ZK,e] at h;cases h;simp[ZK,ih e]
   | err _=>rw[ZK,e] at h;cases h
   | bad=>rw[ZK,e] at h;cases h
  | o j =>
   cases q:ρ[j]? with
   | none=>rw[ZK,q] at h;cases h
   | some y =>
    cases y with
    | none=>rw[ZK,q] at h;cases h
    | some y =>
     cases y with
     | val d=>rw[ZK,q] at h;cases h
     | own o1 =>
      cases e:ZK ρ as with
      | ok s=>rw[ZK,q,e] at h;cases h;rw[List.cons_append,ZK,Lm q,ih e];rfl
      | err _=>rw[ZK,q,e] at h;cases h
      | bad=>rw[ZK,q,e] at h;cases h
set_option tactic.hygienic true in
theorem FI:∀{as:List Ag}{sl:List Sl},ZK ρ as=.ok sl->∀j∈W8 as,j<ρ.length
 | [],_,_,j,m=>by cases m
 | .v d::as,sl,h,j,m=>by
  cases e:ZK ρ as with
  | ok s=>exact FI e j m
  | err _=>rw[ZK,e] at h;cases h
  | bad=>rw[ZK,e] at h;cases h
 | .o i::as,sl,h,j,m=>by
  rw[ZK] at h;split at h
  ·rename_i o q
   cases e:ZK ρ as with
   | ok s =>
    rcases y0.mp m with rfl|m
    ·exact(x0.mp q).1
    ·exact FI e j m
   | err _=>rw[e] at h;cases h
   | bad=>rw[e] at h;cases h
  ·cases h
theorem Fs:∀(as:List Ag) (n:Nat),W8 (as++[.o n])=W8 as++[n]
 | [],_=>rfl
 | .v _::as,n=>Fs as n
 | .o j::as,n=>by rw[List.cons_append,W8,Fs as n];rfl
theorem Mv.less (R:Rel K B ρ σ F1 H1) (s:Stp F1 H1 F2 H2) (n2:H1 a=none) (m:Mv K B (ρ++[some (.own o)]) (σ++[some (.ref a)]) F2 H2 ρ2 F' H'):Mv K B ρ σ F1 H1 (ρ2.take ρ.length) F' H':=by
 have l2:ρ2.length=ρ.length+1:=by
  have:=m.rel.len
  rw[t5,R.len] at this;exact this.symm
 have tk:∀{i:Nat}{y:Option Sl},(ρ2.take ρ.length)[i]?=some y->ρ2[i]?=some y/\i<σ.length:=λ{i y} e=>by
  have hl:=(x0.mp e).1;rw[r9] at hl;rw[List.getElem?_take_of_lt (by lia)] at e
  exact⟨e,by rw[R.len];lia⟩
 refine⟨⟨m.rel.st,by rw[r9,R.len];lia,λi d e=>?_,λi o' e=>?_,λi j o' u b e1 e2 e3 e4=>?_⟩,?_,s.ff.trans m.ff,λb x n e=>?_,λb n e=>?_⟩
 ·obtain ⟨e1,hl⟩:=tk e
  obtain⟨v,p1,p2⟩:=m.rel.val i d e1;rw[Ll hl] at p1;exact⟨v,p1,p2⟩
 ·obtain ⟨e1,hl⟩:=tk e
  obtain⟨b,hh,p1,p2⟩:=m.rel.own i o' e1;rw[Ll hl] at p1;exact⟨b,hh,p1,p2⟩
 ·exact m.rel.dis i j o' u b (tk e1).1 (tk e2).1 (Lm e3) (Lm e4)
 ·have:=congrArg (List.take ρ.length) m.sh
  unfold Td at this |-
  rw[<- List.map_take,<- List.map_take,List.take_left'  rfl] at this;exact this
 ·refine m.hh b x (fun i o' e1 e2=>?_) (s.hh b x e)
  rcases Nx e1 with z|⟨z1,z⟩
  ·rw [Ll (by rw [R.len];exact (x0.mp z).1)] at e2
   exact n i o' z e2
  ·rcases Nx e2 with y | ⟨_,y⟩
   ·have:=(x0.mp y).1
    rw[R.len] at this;lia
   ·cases y
    rw[n2] at e;cases e
 ·exact m.no b (s.no b n e) (JW s.hh e)
end
def Mt (K:W.Frag) (f:Rho->Res ((List Ag×OD)×Rho)):TA:=λσ H Q=>∃B F ρ,Rel K B ρ σ F H /\
 (f ρ).all (λr=>∀vs a h F1 H1 F' H',Mv K B ρ σ F H r.2 F1 H1->Stp F1 H1 F' H'->F' a=none->H1 a=none->H' a=some h->Ro K F' a h r.1.2->Agr K F' σ vs r.1.1->Q (vs++[.ref a]) H') (λ_=>False)
structure Kw (X:Cx) (es:List Expr) (f:Rho->Res ((List Ag×OD)×Rho)):Prop where
 out:PA X es (Mt X.K f)
 ns:es.all Zk=true
section
variable {fx:Rho->Res (D×Rho)}{fn:Rho->Res OD}{fs:Rho->Res ((List Ag×OD)×Rho)}
def NF (hn:DN X XW e fn) (hs:autoParam (Zk e=true) aa._auto_1):Kw X [e] (λρ=>(YD (fn ρ)).bind λo=>.ok (([],o),ρ)) :=
 ⟨λpos ZY s σ H Q I z9=>Xt z9 λB F ρ R q=>Ta hn.out R8 hs pos ZY s σ H Q I ⟨B,F,ρ,R,R7 (Res.all_mono (Res.all_bind.mp q) (λo q a h F' H' st n1 n2 e r=>q [] a h F H F' H' (Mv.refl R) st n1 n2 e r .nil) λ_ z=>z)⟩,by rw[t9,hs];rfl⟩
def EY (ha:DX X e fx) (hr:Kw X es fs) (hs:autoParam (Zk e=true) aa._auto_1):Kw X (e::es) (λρ=>(fx ρ).bind λd=>(fs d.2).bind λr=>.ok ((.v d.1::r.1.1,r.1.2),r.2)) :=
 ⟨λpos ZY s σ H Q I z9=>Xt z9 λB F ρ R q=>Ta ha.out hr.out hs pos ZY s σ H Q I (QJ R q λd v F1 H1 m1 p1 q1 =>
  ⟨B,F1,d.2,m1.rel,Res.all_mono (Res.all_bind.mp q1) (λr q2 vs a h F2 H2 F' H' m2 st n1 n2 e ro g=>q2 (v::vs) a h F2 H2 F' H' (m1.trans m2) st n1 n2 e ro (.v ((p1.same m2.ff).same st.ff) g)) λ_ z=>z⟩),by rw[t9,hs,hr.ns];rfl⟩
def NG (j:Nat) (hr:Kw X es fs) (hN:autoParam (X.N[j]?=some x) aa._auto_1) (hv:autoParam (Ut X.env.scope x) ae._auto_1) (hd:autoParam ((x==("__debug__":Str))=false) ac._auto_1)
  (Xa:autoParam ((x==("__classdict__":Str))=false) ac._auto_1):Kw X (.Name x pos::es) (λρ=>if WV ρ j=true then (fs ρ).bind λr=>.ok ((.o j::r.1.1,r.1.2),r.2) else .bad) :=
 ⟨λpos ZY s σ H Q I z9=>Xt z9 λB F ρ R q=>Ta (U2 hN hv hd Xa) hr.out rfl pos ZY s σ H Q I (by
  dsimp only at q;by_cases w:WV ρ j=true
  ·rw [if_pos w] at q
   obtain⟨o,e⟩:=zl w;obtain⟨a,h,p1,p2⟩:=R.own j o e;exact⟨.ref a,p1,B,F,ρ,R,Res.all_mono (Res.all_bind.mp q) (λr q2 vs b h F2 H2 F' H' m2 st n1 n2 e ro g=>q2 (.ref a::vs) b h F2 H2 F' H' m2 st n1 n2 e ro (.o p1 g)) λ_ z=>z⟩
  ·rw[if_neg w] at q;exact q.elim),by rw[t9,hr.ns];rfl⟩
theorem Kt{g:List Sl->Res (D×List Sl)} (h:Callee P w K mg base k x ps (Uv K g)) (hr:Room k' X.A) (ha:Kw X (e::es) fs) (hk:autoParam (k<=k') ac._auto_1) (hg:autoParam (Gl X x) aa._auto_1)
  (eP:autoParam (X.prog=P) aa._auto_1) (ew:autoParam (X.w=w) aa._auto_1) (eK:autoParam (X.K=K) aa._auto_1) (em:autoParam (X.mg=mg) aa._auto_1) (eb:autoParam (X.base=base) aa._auto_1) (WJ:autoParam ((x==("__debug__":Str))=false) ac._auto_1) :
  DX X (.Call (.Name x p) (e::es) [] pos) (λρ=>(fs ρ).bind λr=>(YD (Wn r.2 r.1.1)).bind λsl=>(YD (g (sl++[.own (unp r.1.2)]))).bind λu=>.ok (u.1,(Yo (r.1.1++[.o r.2.length]) u.2 (r.2++[some (.own r.1.2)])).take r.2.length)) :=
 DX.of (HM h hr hk ha.out hg eP ew eK em eb WJ ha.ns) λB F ρ σ H Q R q=>⟨B,F,ρ,R,Res.all_mono (Res.all_bind.mp q) (λr q1 vs a h F1 H1 F2 H2 m1 st n1 n2 e2 ro ag=>by
  subst eK;cases w1:Wn r.2 r.1.1 with
  | err x=>rw[w1] at q1;exact q1.elim
  | bad=>rw[w1] at q1;exact q1.elim
  | ok sl =>
   rw[w1] at q1;have w2:(W8 r.1.1).Nodup/\ZK r.2 r.1.1=.ok sl:=by
    unfold Wn gd at w1;split at w1
    ·exact⟨by assumption,w1⟩
    ·cases w1
   have R3:=m1.rel.more st n1 n2 e2 ro;have ag3:=Agr.more (x:=.ref a) ag;rw[m1.rel.len] at ag3;have sl3:=uL (o:=r.1.2) w2.2;have nd3:(W8 (r.1.1++[.o r.2.length])).Nodup:=by
    rw[Fs,List.nodup_append];refine⟨w2.1,by simp,λx hx y hy z=>?_⟩
    have:=FI w2.2 x hx
    rw[v8] at hy;lia
   refine⟨F2,Wt (σ++[some (.ref a)]) (r.1.1++[.o r.2.length]) H2,sl++[.own (unp r.1.2)],by rw[ZI];exact R3.hand sl3 nd3 ag3,by rw[ZI];exact zn R3 sl3 ag3,?_⟩
   have q2:((YD (g (sl++[.own (unp r.1.2)]))).bind _).all _ _:=q1;cases w3:g (sl++[.own (unp r.1.2)]) with
   | err x=>rw[w3] at q2;exact q2.elim
   | bad=>rw[w3] at q2;exact q2.elim
   | ok u =>
    rw[w3] at q2;intro v F' H' m p;rw[ZI] at m;exact q2 v F' H' (m1.trans (Mv.less m1.rel st n2 (Mv.call R3 sl3 nd3 ag3 m))) p) λ_ z=>z⟩
end
noncomputable def Vv (fT:Rho->Res Bool) (i:Nat) (ρ:Rho):List D->Out
 | []=>.nx (ρ.set i none)
 | d::ds=>match fT (frz (ρ.set i (some (.val d)))) with
  | .ok false=>Vv fT i ρ ds
  | _=>.bad
set_option tactic.hygienic true in
theorem A3:∀{ds:List D},Vv fT i ρ ds=.bad\/(Vv fT i ρ ds=.nx (ρ.set i none)/\∀d∈ds,fT (frz (ρ.set i (some (.val d))))=.ok false)
 | []=>.inr ⟨rfl,λd h=>nomatch h⟩
 | d::ds=>by
  unfold Vv;split
  ·rename_i e
   rcases A3 (ds:=ds) with h|⟨h,k⟩
   ·exact .inl h
   ·refine .inr ⟨h,fun x m=>?_⟩
    rcases y0.mp m with rfl|m
    ·exact e
    ·exact k x m
  ·exact .inl rfl
theorem Bc:∀{ds:List D},(∀d∈ds,fT (frz (ρ.set i (some (.val d))))=.ok false)->Vv fT i ρ ds=.nx (ρ.set i none)
 | [],_=>rfl
 | d::ds,h=>by
  unfold Vv;rw[h d z6];exact Bc λx m=>h x (z5 _ m)
def Rel.away{σ':St}{F H H':Hp} (R:Rel K B ρ σ F H) (hh:Same H H') (l:σ'.length=σ.length) (e:∀b,b≠i->σ'[b]?=σ[b]?):Rel K B (ρ.set i none) σ' F H':=by
 have at_:∀{b:Nat}{y:Sl},(ρ.set i none)[b]?=some (some y)->ρ[b]?=some (some y)/\σ'[b]?=σ[b]?:=λ{b y} q=>by
  by_cases z:b=i
  ·subst z
   rw[List.getElem?_set,if_pos rfl] at q;split at q<;>cases q
  ·rw [Va z] at q
   exact⟨q,e b z⟩
 refine⟨R.st.trans (Stp.only R.fh hh),by rw[List.length_set,l];exact R.len,λb d q=>?_,λb o q=>?_,λb b' o u a q q' s s'=>?_⟩
 ·obtain ⟨q1,q2⟩:=at_ q
  rw[q2];exact R.val b d q1
 ·obtain ⟨q1,q2⟩:=at_ q
  rw[q2];obtain⟨a,h,p1,p2,p3,p4,p5⟩:=R.own b o q1;exact⟨a,h,p1,p2,p3,hh _ _ p4,p5⟩
 ·obtain ⟨q1,q2⟩:=at_ q
  obtain⟨q3,q4⟩:=at_ q';exact R.dis b b' o u a q1 q3 (q2 ▸ s) (q4 ▸ s')
section
variable {a:List Stmt}{ta:TS}{l:Str}{px pl p2:Pos}
theorem Pd(j:Nat) (hcalm:X.calm=true) (hN:X.N.Nodup) (ht:DT X XW c fT) (ha:PSs X a ta) (hp:autoParam (PassesOwn (model X.prog X.w) X.A X.env X.xe) ao._auto_1)
  (hi:autoParam (X.N.findIdx? (λy=>y==x)=some i) aa._auto_1) (hx:autoParam (Loc X.env.scope x) ah._auto_1) (hf:autoParam (X.fn x=true\/X.env.scope.names.lookup x=some .local) ah._auto_1)
  (hj:autoParam (X.N[j]?=some l) aa._auto_1) (hvs:autoParam (Ut X.env.scope l) ae._auto_1) (hd:autoParam ((l==("__debug__":Str))=false) ac._auto_1) (Xa:autoParam ((l==("__classdict__":Str))=false) ac._auto_1) (hs:autoParam (∀x,foldedSetIterable (.Name l pl) X.env x=pure x) af._auto_1) :
  DS X xq (.For (.Name x px) (.Name l pl) [.If c a [] p2] [] pos) (λρ=>(VY ρ j).go ρ λds=>Vv fT i ρ ds) :=
 DS.of (BW hp hcalm (EV (U2 hj hvs hd Xa)) (Js hN hi hx hf) (Hv (Sn ht.out ha EU)) hs) λB F ρ σ H T R q=>by
  have q:=q.out;obtain⟨ds,eo,q1⟩:=L8 (Wy q);obtain⟨b,h,g1,g2,g3,g4,g5⟩:=R.own j _ eo;cases g5 with
  | @l xs _ hr =>
   rcases A3 (fT:=fT) (i:=i) (ρ:=ρ) (ds:=ds) with z|⟨z,hall⟩
   ·rw[z] at q1;exact q1.elim
   rw[z] at q1;have hl:=hr.length;refine⟨.ref b,g1,b,rfl,⟨xs,.inl (.inl g4)⟩,λk m σ' H'=>m+k=ds.length/\Same H H'/\σ'.length=σ.length/\∀b,b≠i->σ'[b]?=σ[b]?,⟨ds.length,rfl,Same.refl _,rfl,λ_ _=>rfl⟩,?_⟩
   rintro k m σ' H' ⟨hm,hH,XJ,hsame⟩;have Rn:=R.away hH XJ hsame;have sq:Wr X.K H' b xs:=.inl (.inl (hH _ _ g4));by_cases hk:k<ds.length
   ·right
    refine⟨⟨xs,xs[k]'(by lia),sq,by simp⟩,λσ2 H2=>m - 1+(k+1)=ds.length/\Same H H2/\σ2.length=σ.length/\∀b,b≠i->σ2[b]?=σ[b]?,λσ2 H2 p=>⟨m - 1,by lia,p⟩,λy H5 w=>?_⟩
    obtain⟨rfl,w⟩:=w;have ex:=w xs sq;obtain⟨v,hv,pv⟩:=hr.get (y9 hk);rw[ex] at hv;cases hv;have R2:=Rn.set (i:=i) pv;refine⟨B,F,_,R2,?_⟩;rw[List.set_set,hall _ (t7 hk)];intro H6 s6;rw[if_neg OS];exact⟨by lia,hH.trans s6.hh,by rw[List.length_set];exact XJ,λb hb=>by rw[Va hb];exact hsame b hb⟩
   ·left
    exact⟨⟨xs,sq,by lia⟩,q1 σ' F H' Rn⟩
end
def UT (K:W.Frag) (g:List D->Res (List D)):Sp:=λvs H Q _=>∃F ds,Same F H/\Rps K F vs ds/\(YD (g ds)).all (λes=>∀a h F' H',Stp F H F' H'->F' a=none->H a=none->H' a=some h->Ro K F' a h (.l es)->Q (.ref a) H') (λ_=>False)
section
variable {fs:Rho->Res (List D)}
def HD{f:List D->Res (List D)} (h:Callee P w K mg base k x ps (UT K f)) (hr:Room k' X.A) (ha:DA X xq (e::es) fs) (hk:autoParam (k<=k') ac._auto_1) (hg:autoParam (Gl X x) aa._auto_1)
  (eP:autoParam (X.prog=P) aa._auto_1) (ew:autoParam (X.w=w) aa._auto_1) (eK:autoParam (X.K=K) aa._auto_1) (em:autoParam (X.mg=mg) aa._auto_1) (eb:autoParam (X.base=base) aa._auto_1) (WJ:autoParam ((x==("__debug__":Str))=false) ac._auto_1):DN X xq (.Call (.Name x p) (e::es) [] pos) (λρ=>(fs ρ).bind λds=>(YD (f ds)).bind λes=>.ok (.l es)) :=
 ⟨λZY s σ H Q I z9=>Xt z9 λB F ρ R q=>HM h hr hk ha.out hg eP ew eK em eb WJ ha.ns ZY s σ H Q I (X2 R q λds vs F1 H1 s1 R1 p1 q1=>by
  subst eK;refine⟨F1,ds,R1.fh,by rw[ZI];exact p1,?_⟩
  cases e:f ds with
  | ok es=>rw[e] at q1;exact λa h F' H' st n1 n2 e1 r=>q1 a h F' H' (s1.trans st) n1 (s1.hh.free n2) e1 r
  | err x=>rw[e] at q1;exact q1.elim
  | bad=>rw[e] at q1;exact q1.elim)⟩
def IN{f:FD} (h:Callee P w K mg base k x ps (Zt K f)) (hr:Room k' X.A) (hk:autoParam (k<=k') ac._auto_1) (hg:autoParam (Gl X x) aa._auto_1)
  (eP:autoParam (X.prog=P) aa._auto_1) (ew:autoParam (X.w=w) aa._auto_1) (eK:autoParam (X.K=K) aa._auto_1) (em:autoParam (X.mg=mg) aa._auto_1) (eb:autoParam (X.base=base) aa._auto_1) (WJ:autoParam ((x==("__debug__":Str))=false) ac._auto_1):DE X xq (.Call (.Name x p) [] [] pos) (λ_=>YD (f [])) :=
 ⟨λZY s σ H Q I z9=>Xt z9 λB F ρ R q=>by
  subst eP ew eK em eb;obtain⟨a,fd,G,hb,hkp,hm⟩:=h;refine YA (K9 I hg hm ?_ WJ);refine W.callWith_K0 I.kIn hkp (Kh (us:=[]) (vs:=[]) G (hr.mono hk) hb .nil V7 I .nil ⟨F,[],R.fh,.nil,?_⟩);cases e:f [] with
  | ok d=>rw[e] at q;exact λv F' H' st pv=>q v F' H' st pv
  | err x=>rw[e] at q;exact q.elim
  | bad=>rw[e] at q;exact q.elim⟩
end
def Fun.okN0{qual:Str}{st:Stmt}{f:Addr}{fd:FuncData}{t:Rho->UC} (F:Fun K x qual st f fd) (S:FnScope N ps (ZX st))
  (Xm:∀(Zm:Value) (A:Around) (outer:List Env) (s:Shared) (H:Hp) (E:XK),Room k (A.deeper (envOfC qual (ZX st) s.heap.objs.size f Zm))->DRB (VC Z0 P w K mg base N qual (ZX st) f Zm A outer s H E).nox XW (Z3 st) t) :
  FnOk P w K mg base Z0 (k+1) f fd ps (UT K (runN N.length ps.length t)) :=
 F.ok S (λvs H Q E ⟨G,ds,fh,r,q⟩=>by
  rw[r.length];unfold runN at q;split at q
  ·assumption
  ·exact q.elim) λZm A outer s H vs Q E hr ⟨G,ds,fh,r,q⟩=>by
  refine⟨_,(Xm Zm A outer s H E hr).out,(G,H),G,_,r.begin fh,⟨?_⟩⟩;unfold runN at q;split at q
  ·generalize t (ZV N.length ds)=o at q
   cases o with
   | rn es=>exact q
   | er x ρ=>exact q.elim
   | bad=>exact q.elim
  ·exact q.elim
end L2
namespace K14
open PySem L2 PySem.Spec PyProof.Rows
variable {α:Type}{P:Program}{w:World}{K:W.Frag}{mg:MG}{base:Heap}{f:Addr}{fd:FuncData}{A:XM}{i k d:Nat}
def Wo (ρ:Rho) (g:Rho->XN):Vy (.nx ρ) g=g ρ:=VH rfl rfl
def M9(a:α) (k:α->XN):(Res.ok a).gm k=k a:=VH rfl rfl
def Nd{β:Type} [Inhabited β] {P:α->Prop}{Q:α->β->Prop} (h:∀x,P x->∃y,Q x y):∃f:α->β,∀x,P x->Q x (f x):=by
 classical
 refine⟨λx=>if h':∃y,Q x y then h'.choose else default,λx px=>?_⟩
 have h':=h x px;simp only[dif_pos h'];exact h'.choose_spec
@[simp] theorem yz (a:Addr) (o:OD):(OD.p a o).toD=o.toD:=rfl
@[simp] theorem KO (a:Addr) (ds:List D) (ρ:Rho):TL (some (.own (.p a (.l ds)))::ρ) 0=.ok (a,ds):=rfl
noncomputable abbrev X8 (a c:Int) (k:Nat):OD:=.l [.int a,.int c,dN k]
def RF (G:List Sl->Res (D×List Sl)):Prop:=∀(a c:Int) (k b:Nat),0<b->b<1000->k<1000->∃(m:Nat) (a':Int),m<b/\G [.own (X8 a c k),.val (dN b)]=.ok (dN m,[.own (X8 a' c (k+1)),.val (dN b)])
def tt (F:Fun K "_law_stream" "_law_stream" Ds f fd) (T:Txt P w K mg A):∃G,FnOk P w K mg base Z0 1 f fd ["_law_cell_here"] (UT K G)/\∀c:Int,G [.int c]=.ok [.int (c - 1000000000000000000),.int c,dN 0]:=by
 refine⟨_,F.okN0 (k:=0) tf (λZm Ar outer s H E hr=>BB (Tp (ZW (ZC Nz (dv 0) (ZC HN ZT ZT)) (ZW (dv 0) (ZW ZT ZU))))),?_⟩
 intro c;have cp:Tx 10 18:=by decide
 have r0:Pb (.int 10) (.int 18)=.ok (.int 1000000000000000000):=by
  show gd _ _=_;rw[Wx cp];rfl
 simp[L2.runN,ZV,QC,r0,-WX]
theorem uq {a3g:FD} (a0z:Callee P w K mg base 1 "_law_stir" ["_law_cell_here","_law_k"] (Zt K a3g)) (a6j:∀(c:Int) (k:Nat),k<=1000->∃n:Int,a3g [.int c,dN k]=.ok (.int n)) (F:Fun K "_law_draw" "_law_draw" DZ f fd) (T:Txt P w K mg A):∃G,FnOk P w K mg base Z0 2 f fd ["_law_left","_law_many"] (Uv K G)/\RF G:=by
 refine⟨_,F.okM (k:=1) yG (λZm Ar outer s H E hr=>U9 (ED 0 ZT (ZC Ww (ZA ZD (dv 0) ZT) ZT))
  (OO (Xk Q5 (ZA ZD (dv 0) ZT) (ZC HN ZT ZT)) (U9 (YU yG.nd (DE.flat (ZC UW (ZA ZD (dv 0) ZT) (dv 1))))
   (U9 (ED 0 ZT (ZC ON (ZA ZD (dv 0) ZT) (dv 1)))
   (Sz (WO (xq:=XW) (dv 2)))))
  (Sz (WO (xq:=XW) (DE.flat (ZC UW (ZC ON (Zz a0z hr (ZW (ZA ZD (dv 0) ZT) (ZW (ZA ZD (dv 0) ZT) ZU))) ZT) (dv 1))))))),?_⟩
 intro a c k b hb hb2 hk;have cp:Tx 10 18:=by decide
 have r0:Pb (.int 10) (.int 18)=.ok (.int 1000000000000000000):=by
  show gd _ _=_;rw[Wx cp];rfl
 have hb':(0:Int)<b:=by lia
 by_cases hc:(1000000000000000000:Int)<=c
 ·obtain ⟨m,e,hm⟩:=Q0 a (b:=b) hb
  have r1:Xg (.int a) (.int b)=.ok (.int m):=by rw[Vc hb',e]
  have r2:Vg (.int a) (.int b)=.ok (.int (a / b)):=by rw[OL hb' (by lia)]
  refine⟨m,a / b,hm,RU λA=>?_⟩
  simp[UR,Xr,W7,Rb,Kn,S8,TV,T7,WQ,V2,hc,r0,r1,r2,-WX]
 ·obtain ⟨t,et⟩:=a6j c (k+1) (by lia)
  obtain⟨m,e,hm⟩:=Q0 (t / 8) (b:=b) hb;have r1:Xg (.int (t / 8)) (.int b)=.ok (.int m):=by rw[Vc hb',e]
  have r2:Vg (.int t) (.int 8)=.ok (.int (t / 8)):=by rw[OL (by lia) (by lia)]
  have et:a3g [.int c,.int ((k:Int)+1)]=.ok (.int t):=et;refine⟨m,a,hm,RU λA=>?_⟩
  simp[UR,Xr,W7,Rb,Kn,S8,TV,T7,WQ,V2,hc,r0,et,r1,r2,-WX]
def Made (A:XM) (d:Nat) (G:FD):Prop:=∀m,dp m<=d->Ok m->G [toD m]=.ok (tr A m)
def Ih (A:XM) (d:Nat) (G:FD):Prop:=∀m,dp m<=d->Ok m->G [tr A m,toD m]=.ok (.bl true)
def HB (s:Str):Wk [toD (.leaf s),.ty "str"]=.ok (.bl true):=rfl
def HG (n:Int) (cs:List Md):Wk [toD (.node n cs),.ty "str"]=.ok (.bl false):=rfl
def Ko (n:Int) (cs:List Md):Xi (toD (.node n cs)) (.int 0)=.ok (.int n):=rfl
def S7 (n:Int) (cs:List Md):Xi (toD (.node n cs)) (.int 1)=.ok (.lst (toDs cs)):=rfl
theorem Hl:∀{cs:List Md}{c:Md},c∈cs->dp c<=VW cs
 | x::cs,c,h=>by
  rcases y0.mp h with rfl|h
  ·simp[VW];lia
  ·have:=Hl h;simp[VW];lia
def LI{c:α->D}{fT:Rho->Res Bool}{fe:Rho->Res D}{ds:List α} (h:α->D) (k:∀d∈ds,fT [some (.val (c d))]=.ok true/\fe [some (.val (c d))]=.ok (h d)):YH (λd ρ=>.ok (ρ.set 0 (some (.val d)))) fT fe [none] (ds.map c)=.ok (ds.map h):=by
 induction ds with
 | nil=>rfl
 | cons x ds ih =>
  have h1:=k x z6;have h2:=ih λd m=>k d (z5 _ m)
  simp[YH,h1.1,h1.2,h2]
def Oc (A:XM) (b1 b2:Bool) (tx:List (Addr×Bool)) (s:Str):U6 [(A.Leaf,b1),(A.Node,b2)] tx (tr A (.leaf s))=.ok (.bl b1):=by
 show WS _ A.Leaf=_;unfold WS;simp[List.lookup]
def S4(ne:A.Leaf≠A.Node) (b1 b2:Bool) (tx:List (Addr×Bool)) (n:Int) (cs:List Md):U6 [(A.Leaf,b1),(A.Node,b2)] tx (tr A (.node n cs))=.ok (.bl b2):=by
 show WS _ A.Node=_;unfold WS
 have:(A.Node==A.Leaf)=false:=Y9 ne.symm
 simp[List.lookup,this]
def eq_self {s:Str} (h:PyData.strOk s=true):V1 (.str s) (.str s)=.ok (.bl true):=by
 rw[Rr h h];simp
def CC (i j:Int):Pa (.int i) (.int j)=.ok (.bl (decide (i≠j))):=by
 show Res.ok (D.bl (!(i==j)))=_;by_cases h:i=j<;>simp[h]
theorem BK (A:XM):∀cs:List Md,Wi (YE A cs) (toDs cs)=cs.map λc=>.tup [tr A c,toD c]
 | []=>rfl
 | c::cs=>by
  have:=BK A cs
  unfold Wi at *
  simp[YE,toDs] at *
  exact this
theorem FN {g:D->Rho->Res Rho}{tb:Rho->Out} (S:List D->Rho->Prop) (Q:Out->Prop) (nil:∀ρ,S [] ρ->Q (.nx ρ))
  (cons:∀d ds ρ,S (d::ds) ρ->∃ρ1,g d ρ=.ok ρ1/\((∃ρ2,tb ρ1=.nx ρ2/\S ds ρ2)\/(∃v,tb ρ1=.rt v/\Q (.rt v))\/∃x ρ2,tb ρ1=.er x ρ2/\Q (.er x ρ2))):∀ds ρ,S ds ρ->Q (Yn g tb ds ρ)
 | [],ρ,h=>nil ρ h
 | d::ds,ρ,h=>by
  obtain⟨ρ1,e,k⟩:=cons d ds ρ h;simp only[Yn,e,R9,go_ok];rcases k with⟨ρ2,k1,k2⟩|⟨v,k1,k2⟩|⟨x,ρ2,k1,k2⟩
  ·rw[k1];exact FN S Q nil cons ds ρ2 k2
  ·rw[k1];exact k2
  ·rw[k1];exact k2
def J5 (ds:List D):Yv [.tup ds]=.ok (.int ds.length):=rfl
def Iv (ds:List D):Wk [.tup ds,.ty "tuple"]=.ok (.bl true):=rfl
def Oe (ds:List D):Yv [.lst ds]=.ok (.int ds.length):=rfl
theorem AI:∀{cs:List Md}{c:Md},c∈cs->sz c<=XC cs
 | x::cs,c,h=>by
  rcases y0.mp h with rfl|h
  ·simp[XC]
  ·have:=AI h;simp[XC];lia
def NA{c:α->D}{rs:List α}{x:α} (h:rs[i]?=some x):Xi (.lst (rs.map c)) (.int (i:Int))=.ok (c x):=Kp (by rw[w6,h];rfl)
theorem um(h3:3<=k) {a3h:FD} (a1n:Callee P w K mg base k "_law_made" ["_law_model"] (Zt K a3h)) {g_Node:List D->Res (List (Str×D))} (k_Node:Y1 P w K mg base 2 "Node" A.Node ["self","number","children"] g_Node) {g_Leaf:List D->Res (List (Str×D))} (k_Leaf:Y1 P w K mg base 1 "Leaf" A.Leaf ["self","sign"] g_Leaf) (a2x:∀(n:Int) (ms:List Md),ms.length<=1000->∀{c:D},Ya c=some (YE A ms)->g_Node [.int n,c]=.ok [("number",.int n),("children",.tup (YE A ms)),("tree_size",.int (1+XC ms)),("tree_depth",.int (1+VW ms))]) (a3l:∀s:Str,g_Leaf [.str s]=.ok [("sign",.str s),("tree_size",.int 1),("tree_depth",.int 1)])  (a6n:Made A d a3h) (F:Fun K "_law_made" "_law_made" GE f fd) (T:Txt P w K mg A):∃G,FnOk P w K mg base Z0 (k+1) f fd ["_law_model"] (Zt K G)/\Made A (d+1) G:=by
 refine⟨_,F.okT (k:=k) ub (λZm Ar outer s H E hr=>Zu (XH (X9 (Yh UX T.z_isinstance (by decide +kernel) (ZW (dv 0) (ZW (X0 T.z_str (T:="str") (by decide +kernel)) ZU)))) (Zn (YL (Rx k_Leaf (hk:=by lia) hr (ZW (dv 0) ZU)))) XA)
  (Zn (YL (Rx k_Node (hk:=by lia) hr (ZW (ZA ZD (dv 0) ZT) (ZW (DN.de (Tt ["_law_child"] [] rfl (Uy (sc:=ZX GE) (N:=["_law_model"]) (by decide +kernel)) (VS (ZA ZD (dv 0) ZT)) (YT (show(["_law_child"]:List Str).Nodup by decide +kernel)) Tq (Zz a1n (hk:=by lia) hr (ZW (dv 0) ZU)))) ZU)))))),?_⟩
 intro m hd ok;cases ok with
 | @leaf s h l =>
  have pl:g_Leaf [toD (.leaf s)]=.ok [("sign",.str s),("tree_size",.int 1),("tree_depth",.int 1)]:=a3l s;simp[Zq,ZV,HB,pl,tr]
 | @node n cs h0 h1 hl hc =>
  have hz:(toDs cs).length<=sizeLine:=by rw[OE];exact Tr hl
  have c1:YH (λd ρ=>.ok (ρ.set 0 (some (.val d)))) (λx=>Res.ok true) (λρ=>((Wl ρ 0).bind λd=>Res.ok [d]).bind λds=>YD (a3h ds)) [none] (toDs cs)=.ok (YE A cs):=by
   rw[Ry,QZ];refine LI (tr A) λc m=>⟨rfl,?_⟩
   have:=Hl m
   simp only[dp] at hd;simp[a6n c (by lia) (hc c m)]
  have g1:=a2x n cs hl (c:=.lst (YE A cs)) rfl;simp[Zq,ZV,HG,Ko,S7,AY,Sq,Wx hz,c1,g1];rfl
theorem vZ(h3:3<=k) {a5q:FD} (a2q:Callee P w K mg base k "_law_is" ["_law_tree","_law_model"] (Zt K a5q))  (p_is:Ih A d a5q) (F:Fun K "_law_is" "_law_is" EJ f fd) (T:Txt P w K mg A):∃G,FnOk P w K mg base Z0 (k+1) f fd ["_law_tree","_law_model"] (Zt K G)/\Ih A (d+1) G:=by
 refine⟨_,F.okT (k:=k) Eb (λZm Ar outer s H E hr=>Zu (XH (X9 (Yh UX T.z_isinstance (by decide +kernel) (ZW (dv 1) (ZW (X0 T.z_str (T:="str") (by decide +kernel)) ZU)))) (Zn (YL (VG (NC T.o_Leaf T.m_Leaf T.z_isinstance (by decide +kernel) (dv 0)) (VG (RT (NC T.o_Node T.m_Node T.z_isinstance (by decide +kernel) (dv 0))) (UB (Ub (Xq (Yj hr)) (W4 T.f_sign (dv 0)) (dv 1))))))) XA)
  (Zu (XH (WB (Tu (VQ (X9 (NC T.o_Node T.m_Node T.z_isinstance (by decide +kernel) (dv 0)))) (Tu (X9 (NC T.o_Leaf T.m_Leaf T.z_isinstance (by decide +kernel) (dv 0))) (SV (Xk (UP (Yj hr)) (W4 T.f_number (dv 0)) (ZA ZD (dv 1) ZT)))))) (Zn (YL XB)) XA)
  (Zu (XH (WB (Tu (VQ (X9 (Yh UX T.z_isinstance (by decide +kernel) (ZW (W4 T.f_children (dv 0)) (ZW (X0 T.z_tuple (T:="tuple") (by decide +kernel)) ZU))))) (SV (Xk (UP (Yj hr)) (Yh X3 T.z_len (by decide +kernel) (ZW (W4 T.f_children (dv 0)) ZU)) (Yh X3 T.z_len (by decide +kernel) (ZW (ZA ZD (dv 1) ZT) ZU)))))) (Zn (YL XB)) XA)
  (Zu (UA rfl (LV T.z_zip (ZW (W4 T.f_children (dv 0)) (ZW (ZA ZD (dv 1) ZT) ZU))) (OM (n:=2) rfl (U8 (YT Eb.nd) (U8 (YT Eb.nd) OJ)))
  (Zn (XH (VQ (X9 (Zz a2q (hk:=by lia) hr (ZW (dv 2) (ZW (dv 3) ZU))))) (Zn (YL XB)) XA)))
  (Zn (YL XB)))))),?_⟩
 intro m hd ok;cases ok with
 | @leaf s h l =>
  have es:V1 (.str s) (toD (.leaf s))=.ok (.bl true):=eq_self h;simp[Zq,ZV,HB,Oc,K4,es]
 | @node n cs h0 h1 hl hc =>
  simp[Zq,ZV,HG,S4 T.ne,OF,L4,Ko,S7,CC,Iv,J5,Oe,SR,OE,U3,Ya,BK];generalize hI:Yn _ _ _ _=o;have q:∃ρ,o=.nx ρ:=by
   rw[<- hI];refine FN (S:=λds ρ=>∃cs' x1 x2,ρ=[some (.val (tr A (.node n cs))),some (.val (toD (.node n cs))),x1,x2]/\ds=cs'.map (λc=>.tup [tr A c,toD c])/\∀c∈cs',c∈cs) (Q:=λo=>∃ρ,o=.nx ρ) (λρ _=>⟨ρ,rfl⟩) ?_ _ _ ⟨cs,none,none,rfl,rfl,λc m=>m⟩
   rintro d1 ds ρ ⟨cs',x1,x2,rfl,e,hm⟩;cases cs' with
   | nil=>simp at e
   | cons c cs' =>
    obtain⟨rfl,rfl⟩:d1=.tup [tr A c,toD c]/\ds=cs'.map (λc=>.tup [tr A c,toD c]):=by simpa using e
    have hc1:=hm c z6
    have:=Hl hc1
    simp only[dp] at hd;refine⟨_,rfl,.inl ⟨_,by simp[p_is c (by lia) (hc c hc1)];exact⟨rfl,rfl⟩,cs',_,_,rfl,rfl,λx m=>hm x (z5 _ m)⟩⟩
  obtain⟨ρ,rfl⟩:=q;simp
end K14
namespace L2
open PySem PySem.Spec PyProof.Rows
variable {X:Cx}{xq:XQ}{m x:Str}{p pos:Pos}
section
variable {o e:Expr}{es:List Expr}{fo:Rho->Res D}{fs:Rho->Res (List D)}{Yw:Pos}{Cs:List Addr}
def IP {P:Program}{w:World}{K:W.Frag}{mg:MG}{base:Heap}{k k':Nat}{ps:List Str}{g:Addr->List D->Res D}{pl:Sem Bool} (h:∀C∈Cs,Zp P w K mg base k C m ps (g C)) (hr:Room k' X.A) (ho:DE X xq o fo) (ha:DA X xq (e::es) fs) (hk:autoParam (k<=k') ac._auto_1)
  (eP:autoParam (X.prog=P) aa._auto_1) (ew:autoParam (X.w=w) aa._auto_1) (eK:autoParam (X.K=K) aa._auto_1) (em:autoParam (X.mg=mg) aa._auto_1) (eb:autoParam (X.base=base) aa._auto_1)
  (ht:autoParam (eval (.Call (.Attribute o m Yw) (e::es) [] pos) X.env=(do
   let ov <- eval o X.env
   standAt Yw.atName
   let (f,first) <- holding [ov] (getMethod ov m pl)
   callWith pos f first (backTo pos (starEach (e::es) X.env)) (backToKw pos (keywordEach [] X.env)))) aa._auto_1) :
  DE X xq (.Call (.Attribute o m Yw) (e::es) [] pos) (λρ=>(fo ρ).bind λx=>(Tj Cs m x).bind λy=>(fs ρ).bind λds=>YD (g y.1 (y.2::ds))):=⟨λZY s σ H Q I z9=>Xt z9 λB F ρ R q=>by
 subst eP ew eK em eb;refine W.methodCall_KW (pl:=pl) (Z2 (ho.out ZY s σ H (λx H1=>∃C a dx fs0,C∈Cs/\x=.ref a/\H1 a=some (.ins C dx fs0)/\fs0.lookup m=none/\Sb X.K xq fs σ H1 λvs H2=>Zt X.K (g C) (.ref a::vs) H2 Q E0) I (Yd R q λd v F1 H1 s1 R1 p1 q1=>?_)) λu s1 ⟨x,H1,I1,rx,C,a,dx,fs0,hC,ex,ea,l,q⟩=>?_) ht
 ·obtain ⟨C,a,dx,fs0,hC,rfl,e1,e2,q2⟩:=By p1 (Res.all_bind.mp q1)
  exact⟨C,a,dx,fs0,hC,rfl,R1.fh _ _ e1,e2,X2 R1 q2 λds vs F2 H2 s2 R2 p2 q3=>BP R2.fh (.cons (p1.same s2.ff) p2) (s1.trans s2) q3⟩
 ·subst ex
  obtain rfl:u=Value.ref a:=rx;obtain⟨fa,fd,c,hm,G,hb⟩:=h C hC;refine E4 I1 ea c hm l ?_;refine W.callWith_K (first:=[.ref a]) (h₀:=X.base) I.ok.mod.kin hm.kp (Z2 (ha.out pos ZY s1 σ H1 _ I1 q) λus s2 ⟨vs,H2,I2,r,q2⟩=>⟨I2.kIn,?_⟩) (Vi (Wh ha.ns).1) (SO (Wh ha.ns).2)
  exact Kh (us:=.ref a::us) (vs:=.ref a::vs) G (hr.mono hk) hb .nil V7 I2 (.cons rfl r) (by rw[ZI];exact q2)⟩
end
noncomputable def Uf (ρ:Rho) (i:Nat):Res (List D):=match ρ[i]? with
 | some (some (.own o))=>(match unp o with
  | .l ds=>.ok ds
  | _=>.bad)
 | some (some (.val (.lst ds)))=>.ok ds
 | _=>.bad
set_option tactic.hygienic true in
def xt {ρ:Rho}{i:Nat}{P:List D->Prop}{E:D->Prop} (h:(Uf ρ i).all P E):∃ds,P ds/\((∃o,ρ[i]?=some (some (.own o))/\unp o=.l ds)\/ρ[i]?=some (some (.val (.lst ds)))):=by
 unfold Uf at h;split at h
 ·rename_i o e
  split at h
  ·rename_i ds e2;exact⟨ds,h,.inl ⟨o,e,e2⟩⟩
  ·exact h.elim
 ·rename_i ds e;exact⟨ds,h,.inr e⟩
 ·exact h.elim
section
variable {lo hi:Option Expr}{fl fh:Rho->Res (Option Int)}{p2:Pos}
def Tv(j:Nat) (hl:DO X xq lo fl) (hu:DO X xq hi fh) (hN:autoParam (X.N[j]?=some x) aa._auto_1) (hvs:autoParam (Ut X.env.scope x) ae._auto_1) (hd:autoParam ((x==("__debug__":Str))=false) ac._auto_1) (Xa:autoParam ((x==("__classdict__":Str))=false) ac._auto_1) :
  DE X xq (.Subscript (.Name x p) (.Slice lo hi none p2) pos) (λρ=>(Uf ρ j).bind λds=>(fl ρ).bind λl=>(fh ρ).bind λu=>.ok (.lst (YC ds l u))) :=
 DE.of (zX AL (U2 hN hvs hd Xa) hl.out hu.out) λB F ρ σ H Q R q=>by
  obtain⟨ds,q1,hh⟩:=xt (Res.all_bind.mp q);have key:∀{F3 H3},Rel X.K B ρ σ F3 H3->∃a xs,σ[j]?=some (some (.ref a))/\Wr X.K H3 a xs/\Rps X.K F3 xs ds:=λR3=>by
   rcases hh with⟨o,eo,eu⟩|ev
   ·obtain ⟨a,h,k1,k2,k3,k4,k5⟩:=R3.own j _ eo
    have k6:=k5.unp;rw[eu] at k6;cases k6 with
    | l hr=>exact⟨a,_,k1,.inl (.inl k4),hr⟩
   ·obtain ⟨v,k1,k2⟩:=R3.val j _ ev
    cases k2 with
    | lst hq rs=>exact⟨_,_,k1,.inl (hq.same R3.fh),rs⟩
  obtain⟨a,_,g1,_,_⟩:=key R;refine⟨.ref a,g1,B,F,ρ,R,Res.all_mono (Res.all_bind.mp q1) (λl q2 F2 H2 s2=>⟨B,F2,ρ,R.step s2,Res.all_mono (Res.all_bind.mp q2) (λu q3 F3 H3 s3=>?_) λ_ z=>z⟩) λ_ z=>z⟩
  have R3:=(R.step s2).step s3;obtain⟨a',xs,k1,sq,rs⟩:=key R3;rw[g1] at k1;cases k1;exact⟨_,_,rfl,sq,λp n=>q3 _ _ _ ((s2.trans s3).trans (Stp.new R3.fh n)) (.lst (.inl WN) ((rs.cut l u).same (Stp.new R3.fh n).ff))⟩
end
end L2
namespace K14
open PySem L2 PySem.Spec PyProof.Rows
variable {A:XM}{m:Md}{γ α:Type}{fT:Rho->Res Bool}{fe:Rho->Res D}{ρ:Rho}{P q:Program}{w:World}{K:W.Frag}{mg:MG}{base h:Heap}{f C:Addr}{fd:FuncData}{a2d a0l a0d a1o a0n a0m a0g a1p a0c a2b a2t a1d a4n g:FD}{b z x s:Str}{d n k e p:Nat}{ss hs ps loose:List Str}{row cs:List Md}{B a:Out}{t tb:Rho->Out}
noncomputable abbrev gI (A:XM) (rs kk:List RR):D:=.ins A.Grammar (WC (dR rs) (dR kk))
def Hj(rs kk:List RR):Pn A.Grammar "rules" (gI A rs kk)=.ok (.tup (rs.map rT)):=by
 simp[Pn,WC,List.lookup,Vq]
def S0{m:Str} (h:(m=="rules")=false/\(m=="ranks")=false/\(m=="start")=false) (rs kk:List RR):Ma A.Grammar m (gI A rs kk)=.ok (gI A rs kk):=by
 have:(WC (dR rs) (dR kk)).lookup m=none:=by
  unfold WC;rw[u5,h.1,u5,h.2.1,u5,h.2.2];rfl
 show(if A.Grammar=A.Grammar/\_ then Res.ok _ else .bad)=_
 rw[if_pos ⟨rfl,this⟩]
@[simp] theorem J1(rs kk:List RR):Ma A.Grammar (Str.ofString "need_number") (gI A rs kk)=.ok (gI A rs kk):=S0 ⟨by decide +kernel,by decide +kernel,by decide +kernel⟩ rs kk
@[simp] theorem Ob(rs kk:List RR):Ma A.Grammar (Str.ofString "head_of") (gI A rs kk)=.ok (gI A rs kk):=S0 ⟨by decide +kernel,by decide +kernel,by decide +kernel⟩ rs kk
@[simp] theorem Oa(rs kk:List RR):Ma A.Grammar (Str.ofString "body_of") (gI A rs kk)=.ok (gI A rs kk):=S0 ⟨by decide +kernel,by decide +kernel,by decide +kernel⟩ rs kk
theorem Ud(c:γ->D) (p:γ->Bool) (e:γ->D) {g:D->Rho->Res Rho}:∀{xs:List γ},(∀x∈xs,∃ρ1,g (c x) ρ=.ok ρ1/\fT (frz ρ1)=.ok (p x)/\(p x=true->fe ρ1=.ok (e x)))->YH g fT fe ρ (xs.map c)=.ok ((xs.filter p).map e)
 | [],_=>rfl
 | x::xs,k=>by
  obtain⟨ρ1,k1,k2,k3⟩:=k x z6;have ih:=Ud c p e (xs:=xs) λy hy=>k y (z5 _ hy)
  cases h:p x with
  | true=>simp[YH,k1,k2,h,k3 h,ih]
  | false=>simp[YH,k1,k2,h,ih]
def Tg(c:γ->D) (e:γ->D) {g:D->Rho->Res Rho}{xs:List γ} (h:∀x∈xs,∃ρ1,g (c x) ρ=.ok ρ1/\fT (frz ρ1)=.ok true/\fe ρ1=.ok (e x)):YH g fT fe ρ (xs.map c)=.ok (xs.map e):=by
 rw[Ud c (λ_=>true) e λx hx=>?_,List.filter_eq_self.mpr λ_ _=>rfl]
 obtain⟨ρ1,a,b,d⟩:=h x hx;exact⟨ρ1,a,b,λ_=>d⟩
noncomputable def Uo (rs:List RR):D->Bool
 | .int n=>decide (0<=n/\n<rs.length)
 | _=>false
inductive Sc:D->Prop
 | int (n:Int):Sc (.int n)
 | str {z:Str} (h:ZH z=true):Sc (.str z)
 | bl (b:Bool):Sc (.bl b)
 | non:Sc .non
noncomputable def Yp (rs:List RR):Md->Str
 | .leaf s=>s
 | .node n _=>match rs[n.toNat]? with
  | some p=>p.1
  | none=>""
def Nu (rs:List RR):Md->Prop
 | .leaf _=>True
 | .node n _=>0<=n/\n<rs.length
def ut (F:Fun K "is_whole" "is_whole" E2 f fd) (T:Txt P w K mg A):∃G,FnOk P w K mg base Z0 1 f fd ["thing"] (Zt K G)/\RL G:=by
 refine⟨_,F.okT (k:=0) ud (λZm Ar outer s H E hr=>Zn (YL (VG (Yh UX T.z_isinstance (by decide +kernel) (ZW (dv 0) (ZW (X0 T.z_int (T:="int") (by decide +kernel)) ZU))) (UB (RT (Yh UX T.z_isinstance (by decide +kernel) (ZW (dv 0) (ZW (X0 T.z_bool (T:="bool") (by decide +kernel)) ZU)))))))),?_⟩
 refine⟨λi=>?_,λb=>?_,λs=>?_,?_,λds=>?_⟩<;>(simp[Zq,ZV];rfl)
theorem sM(a1j:Callee P w K mg base 1 "is_whole" ["thing"] (Zt K a2d)) (a3p:RL a2d) (F:Fun K "need_number" "Grammar.need_number" Df f fd) (T:Txt P w K mg A):∃G,FnOk P w K mg base Z0 2 f fd ["self","number"] (Zt K G)/\∀rs kk (n:Nat),n<rs.length->rs.length<=1000->G [gI A rs kk,dN n]=.ok .non:=by
 refine⟨_,F.okT (k:=1) sG (λZm Ar outer s H E hr=>Zn (XH (WB (Tu (VQ (X9 (Zz a1j hr (ZW (dv 1) ZU)))) (SV (VQ (Ax Uj Uk ZT (dv 1) (Yh X3 T.z_len (by decide +kernel) (ZW (HS T.cls T.na_rules (dv 0)) ZU))))))) (Zn Sy) XA)),?_⟩
 intro rs kk n hn hl;have h0:((0:Int)<=(n:Int)):=Int.natCast_nonneg n;have h1:((n:Int)<((rs.map rT).length:Nat)):=by rw[v0];lia
 simp[Zq,ZV,a3p.i,Hj];rw[if_neg (by lia)]
 rfl
def vw(m_need_number:Zp P w K mg base 2 A.Grammar "need_number" ["self","number"] a0l) (a6m:∀rs kk (n:Nat),n<rs.length->rs.length<=1000->a0l [gI A rs kk,dN n]=.ok .non) (F:Fun K "head_of" "Grammar.head_of" Dv f fd) (T:Txt P w K mg A):∃G,FnOk P w K mg base Z0 3 f fd ["self","number"] (Zt K G)/\∀rs kk (n:Nat) p,rs[n]?=some p->rs.length<=1000->G [gI A rs kk,dN n]=.ok (.str p.1):=by
 refine⟨_,F.okT (k:=2) tP (λZm Ar outer s H E hr=>Zu (Lb (TH m_need_number hr (dv 0) (ZW (dv 1) ZU)))
  (Zn (YL (ZA ZD (ZA ZD (HS T.cls T.na_rules (dv 0)) (dv 1)) ZT)))),?_⟩
 intro rs kk n p hn hl;have WA:=(x0.mp hn).1;have e1:Xi (.tup (rs.map rT)) (dN n)=.ok (rT p):=HL (by rw[w6,hn];rfl)
 simp[Zq,ZV,a6m rs kk n WA hl,Hj,e1];rfl
def vx(m_need_number:Zp P w K mg base 2 A.Grammar "need_number" ["self","number"] a0l) (a6m:∀rs kk (n:Nat),n<rs.length->rs.length<=1000->a0l [gI A rs kk,dN n]=.ok .non) (F:Fun K "body_of" "Grammar.body_of" Dw f fd) (T:Txt P w K mg A):∃G,FnOk P w K mg base Z0 3 f fd ["self","number"] (Zt K G)/\∀rs kk (n:Nat) p,rs[n]?=some p->rs.length<=1000->G [gI A rs kk,dN n]=.ok (.tup (p.2.map D.str)):=by
 refine⟨_,F.okT (k:=2) tQ (λZm Ar outer s H E hr=>Zu (Lb (TH m_need_number hr (dv 0) (ZW (dv 1) ZU)))
  (Zn (YL (ZA ZD (ZA ZD (HS T.cls T.na_rules (dv 0)) (dv 1)) ZT)))),?_⟩
 intro rs kk n p hn hl;have WA:=(x0.mp hn).1;have e1:Xi (.tup (rs.map rT)) (dN n)=.ok (rT p):=HL (by rw[w6,hn];rfl)
 simp[Zq,ZV,a6m rs kk n WA hl,Hj,e1];rfl
def si(a1j:Callee P w K mg base 1 "is_whole" ["thing"] (Zt K a2d)) (a3p:RL a2d) (F:Fun K "is_rule_number" "is_rule_number" Dp f fd) (T:Txt P w K mg A):∃G,FnOk P w K mg base Z0 2 f fd ["grammar","thing"] (Zt K G)/\∀rs kk d,Sc d->rs.length<=1000->G [gI A rs kk,d]=.ok (.bl (Uo rs d)):=by
 refine⟨_,F.okT (k:=1) rY (λZm Ar outer s H E hr=>Zn (YL (VG (Zz a1j hr (ZW (dv 1) ZU)) (UB (Fn Uj Uk ZT (dv 1) (Yh X3 T.z_len (by decide +kernel) (ZW (HS T.cls T.na_rules (dv 0)) ZU))))))),?_⟩
 intro rs kk d sc hl;cases sc with
 | int n =>
  simp[Zq,ZV,a3p.i,Hj,Yv];unfold Uo;by_cases h:0<=n
  ·by_cases h2:n<(rs.length:Int)
   ·simp[h,h2]
   ·simp[h,h2]
  ·simp[h]
 | str h=>simp[Zq,ZV,a3p.s];rfl
 | bl b=>simp[Zq,ZV,a3p.b];rfl
 | non=>simp[Zq,ZV,a3p.n];rfl
structure LA (A:XM) (g:Addr->List D->Res D):Prop where
 l:∀s d,g A.Leaf [tr A (.leaf s),d]=.ok (.str s)
 n:∀rs kk n cs p,0<=n->rs[n.toNat]?=some p->rs.length<=1000->g A.Node [tr A (.node n cs),gI A rs kk]=.ok (.str p.1)
theorem Nk{g:Addr->List D->Res D} (p:LA A g) {rs kk:List RR} (hl:rs.length<=1000)  (hm:Nu rs m):((Tj [A.Leaf,A.Node] "symbol_in" (tr A m)).bind λy=>YD (g y.1 [y.2,gI A rs kk]))=.ok (.str (Yp rs m)):=by
 rw[Bx A m (by decide +kernel)]
 cases m with
 | leaf s=>simp[p.l];rfl
 | node n cs =>
  have WA:n.toNat<rs.length:=by have:=hm.1;have:=hm.2;lia
  have e:rs[n.toNat]?=some rs[n.toNat]:=y9 WA;simp[p.n rs kk n cs _ hm.1 e hl];show _=(match rs[n.toNat]? with|some p=>p.1|none=>"")
  rw[e]
mutual
noncomputable def Yu (rs:List RR):Str->Md->Bool
 | sym,.leaf s=>XR s&&decide (s=sym)
 | sym,.node n cs=>match rs[n.toNat]? with
  | some p=>decide (p.1=sym)&&(decide (p.2.length=cs.length)&&XV rs p.2 cs)
  | none=>false
noncomputable def XV (rs:List RR):List Str->List Md->Bool
 | b::bs,c::cs=>Yu rs b c&&XV rs bs cs
 | _,_=>true
end
noncomputable def UK (rs:List RR) (sym:Str):Md->Bool
 | .leaf s=>XR s&&decide (s=sym)
 | .node n cs=>match rs[n.toNat]? with
  | some p=>decide (p.1=sym)&&decide (p.2.length=cs.length)
  | none=>false
noncomputable def SL (rs:List RR):Md->List Str
 | .leaf _=>[]
 | .node n _=>match rs[n.toNat]? with
  | some p=>p.2
  | none=>[]
theorem zr (rs:List RR):∀(bs:List Str) (cs:List Md),XV rs bs cs=(bs.zip cs).all λp=>Yu rs p.1 p.2
 | [],_=>by cases ‹List Md›<;>simp[XV]
 | _::_,[]=>by simp[XV]
 | b::bs,c::cs=>by rw[XV,zr rs bs cs];rfl
def Pl (rs:List RR) (sym:Str) (m:Md):Yu rs sym m=(UK rs sym m&&((SL rs m).zip (Zy m)).all λp=>Yu rs p.1 p.2):=by
 cases m with
 | leaf s=>rw[Yu,UK];simp[SL]
 | node n cs =>
  rw[Yu];show _=((match rs[n.toNat]? with|some p=>decide (p.1=sym)&&decide (p.2.length=cs.length)|none=>false)&&((match rs[n.toNat]? with|some p=>p.2|none=>[]).zip cs).all λp=>Yu rs p.1 p.2)
  cases rs[n.toNat]? with
  | none=>rfl
  | some p =>
   show(_&&(_&&XV rs p.2 cs))=_;rw[zr,Bool.and_assoc]
noncomputable def U7:List (Str×Md)->Nat
 | []=>0
 | p::ps=>sz p.2+U7 ps
theorem Hr:∀a b,U7 (a++b)=U7 a+U7 b
 | [],b=>by simp[U7]
 | p::a,b=>by simp[U7,Hr a b];lia
theorem Fb:∀ps,ps.length<=U7 ps
 | []=>Us _
 | p::ps=>by have:=K6 (m:=p.2);have:=Fb ps;simp[U7];lia
theorem AJ:∀(bs:List Str) (cs:List Md),U7 (bs.zip cs)<=XC cs
 | [],cs=>by simp[U7]
 | _::_,[]=>by simp[U7]
 | b::bs,c::cs=>by have:=AJ bs cs;simp[U7,XC];lia
def Ah (m:Md):XC (Zy m)<sz m:=by cases m<;>simp[Zy,sz,XC]
noncomputable def SI (A:XM) (ps:List (Str×Md)):List D:=ps.map λp=>.tup [.str p.1,tr A p.2]
theorem AU (A:XM):∀(bs:List Str) (cs:List Md),Wi (bs.map D.str) (YE A cs)=SI A (bs.zip cs)
 | [],cs=>by cases cs<;>rfl
 | _::_,[]=>rfl
 | b::bs,c::cs=>by
  have:=AU A bs cs
  simp only[w9,YE,Wi,List.zip_cons_cons,SI] at *
  rw[this]
def yc{rs:List RR} (hr:∀p∈rs,VU p)  (h:b∈SL rs m):ZH b=true:=by
 cases m with
 | leaf s=>cases h
 | node n cs =>
  change b∈(match rs[n.toNat]? with|some p=>p.2|none=>[]) at h
  cases e:rs[n.toNat]? with
  | none=>rw[e] at h;cases h
  | some p=>rw[e] at h;exact(hr p (ZP e)).gs b h
def RG (A:XM) (F:List RR->Str->Md->Bool) (n:Nat) (G:FD):Prop:=∀rs kk s m,rs.length<=1000->(∀p∈rs,VU p)->ZH s=true->Ok m->sz m<=n->G [gI A rs kk,.str s,tr A m]=.ok (.bl (F rs s m))
def UV(h:ZH z=true):PyData.strOk z=true:=by unfold ZH at h;rw[t4] at h;exact h.1
def EW(h:PyData.strOk z=true) (k:z.length<=1000):ZH z=true:=by unfold ZH;rw[h];simpa using k
def sm (F:Fun K "symbol_in" "Leaf.symbol_in" Dl f fd) (T:Txt P w K mg A):∃G,FnOk P w K mg base Z0 4 f fd ["self","grammar"] (Zt K G)/\∀s d,G [tr A (.leaf s),d]=.ok (.str s):=by
 refine⟨_,F.okT (k:=3) rS (λZm Ar outer s H E hr=>Zn (YL (W4 T.f_sign (dv 0)))),?_⟩
 intro s d;simp[Zq,ZV,K4]
theorem sk(a0b:Callee P w K mg base 2 "is_rule_number" ["grammar","thing"] (Zt K a0d))  (m_head_of:Zp P w K mg base 3 A.Grammar "head_of" ["self","number"] a1o) (p_rn:∀rs kk d,Sc d->rs.length<=1000->a0d [gI A rs kk,d]=.ok (.bl (Uo rs d))) (a6q:∀rs kk (n:Nat) p,rs[n]?=some p->rs.length<=1000->a1o [gI A rs kk,dN n]=.ok (.str p.1)) (F:Fun K "symbol_in" "Node.symbol_in" Dk f fd) (T:Txt P w K mg A):∃G,FnOk P w K mg base Z0 4 f fd ["self","grammar"] (Zt K G)/\∀rs kk n cs p,0<=n->rs[n.toNat]?=some p->rs.length<=1000->G [tr A (.node n cs),gI A rs kk]=.ok (.str p.1):=by
 refine⟨_,F.okT (k:=3) rR (λZm Ar outer s H E hr=>Zu (XH (VQ (X9 (Zz a0b hr (ZW (dv 1) (ZW (W4 T.f_number (dv 0)) ZU))))) (Zn Sy) XA)
  (Zn (YL (TH m_head_of hr (dv 1) (ZW (W4 T.f_number (dv 0)) ZU))))),?_⟩
 intro rs kk n cs p h0 e hl;have WA:=(x0.mp e).1;obtain⟨k,rfl⟩:∃k:Nat,n=(k:Int):=⟨n.toNat,by lia⟩
 have r:Uo rs (.int (k:Int))=true:=decide_eq_true ⟨h0,by simpa using WA⟩
 simp[Zq,ZV,OF,p_rn rs kk _ (.int _) hl,r,a6q rs kk k p e hl]
theorem Qt(a0i:Callee P w K mg base 2 "is_sign" ["thing"] (Zt K a0n))  (a0b:Callee P w K mg base 2 "is_rule_number" ["grammar","thing"] (Zt K a0d))  (m_head_of:Zp P w K mg base 3 A.Grammar "head_of" ["self","number"] a1o)  (m_body_of:Zp P w K mg base 3 A.Grammar "body_of" ["self","number"] a0m) (a5d:P1 WG a0n) (p_rn:∀rs kk d,Sc d->rs.length<=1000->a0d [gI A rs kk,d]=.ok (.bl (Uo rs d))) (a6q:∀rs kk (n:Nat) p,rs[n]?=some p->rs.length<=1000->a1o [gI A rs kk,dN n]=.ok (.str p.1)) (a4w:∀rs kk (n:Nat) p,rs[n]?=some p->rs.length<=1000->a0m [gI A rs kk,dN n]=.ok (.tup (p.2.map D.str))) (F:Fun K "fits" "fits" Fw f fd) (T:Txt P w K mg A):∃G,FnOk P w K mg base Z0 4 f fd ["grammar","symbol","thing"] (Zt K G)/\RG A UK 10000 G:=by
 refine⟨_,F.okT (k:=3) QI (λZm Ar outer s H E hr=>Zu (XH (X9 (NC T.o_Leaf T.m_Leaf T.z_isinstance (by decide +kernel) (dv 2))) (Zn (YL (VG (Zz a0i hr (ZW (W4 T.f_sign (dv 2)) ZU)) (UB (Ub (Xq (Yj hr)) (W4 T.f_sign (dv 2)) (dv 1)))))) XA)
  (Zu (XH (WB (Tu (VQ (X9 (NC T.o_Node T.m_Node T.z_isinstance (by decide +kernel) (dv 2)))) (SV (VQ (X9 (Zz a0b hr (ZW (dv 0) (ZW (W4 T.f_number (dv 2)) ZU)))))))) (Zn (YL XB)) XA)
  (Zn (YL (VG (Ub (Xq (Yj hr)) (TH m_head_of hr (dv 0) (ZW (W4 T.f_number (dv 2)) ZU)) (dv 1)) (UB (Ub (Xq (Yj hr)) (Yh X3 T.z_len (by decide +kernel) (ZW (TH m_body_of hr (dv 0) (ZW (W4 T.f_number (dv 2)) ZU)) ZU)) (Yh X3 T.z_len (by decide +kernel) (ZW (W4 T.f_children (dv 2)) ZU))))))))),?_⟩
 intro rs kk sy m hl hr gs ok _;cases ok with
 | @leaf s h l =>
  have e:=Rr h (UV gs);cases hs:XR s<;>simp[Zq,ZV,Oc,K4,a5d (.str s) (EW h l),WG,e,hs,UK]
 | @node n cs h0 h1 hc _ =>
  obtain⟨k,rfl⟩:∃k:Nat,n=(k:Int):=⟨n.toNat,by lia⟩
  by_cases hk:k<rs.length
  ·have e:rs[k]?=some rs[k]:=y9 hk
   have r:Uo rs (.int (k:Int))=true:=decide_eq_true ⟨h0,by lia⟩
   have o1:=hr _ (t7 hk);have e2:=Rr (UV o1.gh) (UV gs);have e3:=Rr (UV gs) (UV gs);by_cases c:rs[k].1=sy<;>simp[Zq,ZV,S4 T.ne,OF,p_rn rs kk _ (.int _) hl,r,a6q rs kk k _ e hl,a4w rs kk k _ e hl,e2,e,L4,Yv,SR,O5,UK,c,e3]
   lia
  ·have r:Uo rs (.int (k:Int))=false:=ZE (by lia)
   have e:rs[k]?=none:=HV (by lia)
   simp[Zq,ZV,S4 T.ne,OF,p_rn rs kk _ (.int _) hl,r,e,UK]
theorem uY{a7a:FD} (a6v:Callee P w K mg base 4 "fits" ["grammar","symbol","thing"] (Zt K a7a)) {g_is_leaf:Addr->List D->Res D} (m_is_leaf:∀C∈[A.Leaf,A.Node],Zp P w K mg base 1 C "is_leaf" ["self"] (g_is_leaf C))  (m_body_of:Zp P w K mg base 3 A.Grammar "body_of" ["self","number"] a0m) (a6s:RG A UK 10000 a7a) (a5g:UZ A g_is_leaf) (a4w:∀rs kk (n:Nat) p,rs[n]?=some p->rs.length<=1000->a0m [gI A rs kk,dN n]=.ok (.tup (p.2.map D.str))) (F:Fun K "is_tree" "is_tree" Ee f fd) (T:Txt P w K mg A):∃G,FnOk P w K mg base Z0 5 f fd ["grammar","symbol","thing"] (Zt K G)/\RG A Yu 10000 G:=by
 refine⟨_,F.okT (k:=4) DR (λZm Ar outer s H E hr=>Zu (Uz DR.nd (Tp (ZW (Z6 (ZW (dv 1) (ZW (dv 2) ZU))) ZU)))
  (Zu (EC (Xk Ui (Yh X3 T.z_len (by decide +kernel) (ZW (dv 3) ZU)) ZT) (Zu (SE DR.nd (HI 3))
   (Zu (XH (VQ (X9 (Zz a6v hr (ZW (dv 0) (ZW (ZA ZD (dv 4) ZT) (ZW (ZA ZD (dv 4) ZT) ZU)))))) (Zn (YL XB)) XA)
   (Zn (XH (VQ (X9 (Rc m_is_leaf hr (ZA ZD (dv 4) ZT)))) (Zn (HC 3 (DN.de (BC rfl T.z_list T.z_zip (ZW (TH m_body_of hr (dv 0) (ZW (W4 T.f_number (ZA ZD (dv 4) ZT)) ZU)) (ZW (W4 T.f_children (ZA ZD (dv 4) ZT)) ZU)))))) XA)))))
  (Zn (YL XB)))),?_⟩
 intro rs kk sy m hl hr gs ok hz;simp[Zq,ZV];generalize hI:wD _ _ _=o;have q:(∃ρ,o=.nx ρ/\Yu rs sy m=true)\/(o=.rt (.bl false)/\Yu rs sy m=false):=by
  rw[<- hI];refine Ft (S:=λn ρ=>∃YW x,ρ=[some (.val (gI A rs kk)),some (.val (.str sy)),some (.val (tr A m)),some (.own (.l (SI A YW))),x]/\(Yu rs sy m=YW.all λp=>Yu rs p.1 p.2)/\(∀p∈YW,ZH p.1=true/\Ok p.2)/\U7 YW=n/\n<=10000)
   (Q:=λo=>(∃ρ,o=.nx ρ/\Yu rs sy m=true)\/(o=.rt (.bl false)/\Yu rs sy m=false)) (λo h=>by rcases h with⟨ρ,e,_⟩|⟨e,_⟩<;>(rw[e];trivial)) (λn ρ h=>?_) (sz m) _ ⟨[(sy,m)],none,rfl,by simp,by simp;exact⟨gs,ok⟩,by simp[U7],hz⟩
  obtain⟨YW,x,rfl,hab,hok,hn,hb⟩:=h;rcases List.eq_nil_or_concat YW with rfl|⟨YW,p,rfl⟩
  ·left
   refine⟨by simp[Yv,SI],.inl ⟨_,rfl,by rw[hab];rfl⟩⟩
  ·right
   obtain⟨p1,p2⟩:=p;rw[List.concat_eq_append] at *
   obtain⟨g1,ok1⟩:=hok (p1,p2) (by simp)
   have pw:=Hw (ρ:=[some (.val (gI A rs kk)),some (.val (.str sy)),some (.val (tr A m)),some (.own (.l (SI A (YW++[(p1,p2)])))),x]) (i:=3) (l:=SI A YW) (x:=.tup [.str p1,tr A p2]) (by simp[SI])
   have i0:Xi (.tup [.str p1,tr A p2]) (.int 0)=.ok (.str p1):=rfl;have i1:Xi (.tup [.str p1,tr A p2]) (.int 1)=.ok (tr A p2):=rfl;have hs:=Hr YW [(p1,p2)];simp[U7] at hs;have e1:=a6s rs kk p1 p2 hl hr g1 ok1 (by lia)
   refine⟨by simp[Yv,SI],?_⟩
   rw[pw];rw[List.all_append,t9,List.all_nil,Bool.and_true,Pl rs p1 p2] at hab;cases hh:UK rs p1 p2 with
   | false =>
    right;refine⟨_,by simp[i0,i1,e1,hh],.inr ⟨rfl,by rw[hab,hh];simp⟩⟩
   | true =>
    left;rw[hh,Bool.true_and] at hab
    have kz:=Ah p2;have hz2:=AJ (SL rs p2) (Zy p2);have l1:=Fb YW;have l2:=Fb ((SL rs p2).zip (Zy p2));have Xe:∀q∈YW++(SL rs p2).zip (Zy p2),ZH q.1=true/\Ok q.2:=λq mq=>by
     rcases u9.mp mq with mq|mq
     ·exact hok q (by simp[mq])
     ·obtain ⟨x1,x2⟩:=q
      have mq:=WK mq;exact⟨yc hr mq.1,ok1.kid mq.2⟩
    refine⟨[some (.val (gI A rs kk)),some (.val (.str sy)),some (.val (tr A m)),some (.own (.l (SI A (YW++(SL rs p2).zip (Zy p2))))),some (.val (.tup [.str p1,tr A p2]))],U7 (YW++(SL rs p2).zip (Zy p2)),by rw[Hr];lia,?_,YW++(SL rs p2).zip (Zy p2),_,rfl,by rw[hab,List.all_append],Xe,rfl,by rw[Hr];lia⟩
    cases p2 with
    | leaf s=>simp[i0,i1,e1,hh,QY a5g,Y4,SL]
    | node n cs =>
     have n0:0<=n:=by cases ok1;assumption
     obtain⟨k,rfl⟩:∃k:Nat,n=(k:Int):=⟨n.toNat,by lia⟩
     cases e:rs[k]? with
     | none=>simp[UK,e] at hh
     | some p =>
      have eb:SL rs (.node (k:Int) cs)=p.2:=by simp[SL,e]
      rw[eb] at l2 hz2 |-
      simp[i0,i1,e1,hh,QY a5g,Y4,OF,L4,a4w rs kk k p e hl,Rk,U3,Ya,AU,Zy];rw[if_pos (v7 (show _<=20000 by unfold SI;simp only[v0];simp only[Zy] at *;lia) (by decide))]
      simp[SI]
 rcases q with⟨ρ,rfl,e⟩|⟨rfl,e⟩
 ·simp[e]
 ·simp[e]
abbrev Sg:=Str×D
noncomputable def Zj (q:Sg):D:=.tup [.str q.1,q.2]
mutual
noncomputable def Z8:Md->List Sg
 | .leaf s=>[((("shift":Str),D.str s):Sg)]
 | .node n cs=>YZ cs++[((("reduce":Str),D.int n):Sg)]
noncomputable def YZ:List Md->List Sg
 | []=>[]
 | c::cs=>Z8 c++YZ cs
end
theorem GQ:∀a b,YZ (a++b)=YZ a++YZ b
 | [],b=>by simp[YZ]
 | c::a,b=>by simp[YZ,GQ a b]
noncomputable def Tf:Md->Sg
 | .leaf s=>("shift",.str s)
 | .node n _=>("reduce",.int n)
def QQ (m:Md):Z8 m=YZ (Zy m)++[Tf m]:=by cases m<;>simp[Z8,YZ,Zy,Tf]
structure Gq (q:Sg):Prop where
 w:ZH q.1=true
 t:Sc q.2
noncomputable def W9 (rs:List RR) (row:List Md) (q:Sg):Option Md:=match q.2 with
 | .str z=>if q.1="shift"/\XR z=true then some (.leaf z) else none
 | .int n=>if q.1="reduce"/\Uo rs (.int n)=true then (match rs[n.toNat]? with
  | some p=>if p.2.length<=row.length/\(row.drop (row.length - p.2.length)).map (Yp rs)=p.2 then some (.node n (row.drop (row.length - p.2.length))) else none
  | none=>none) else none
 | _=>none
noncomputable def one (rs:List RR) (row:List Md) (q:Sg):Option (List Md):=(W9 rs row q).map λm=>row.take (row.length - (Zy m).length)++[m]
noncomputable def Yr (rs:List RR):List Md->List Sg->Option (List Md)
 | row,[]=>some row
 | row,q::qs=>(one rs row q).bind λr=>Yr rs r qs
noncomputable def Wf:List α->Option α
 | [x]=>some x
 | _=>none
noncomputable def Vh (A:XM):Option Md->D
 | none=>.non
 | some m=>tr A m
def AO {d:D} (h:Sc d):Y3 d=true:=by
 cases h with
 | str h=>exact h
 | _=>rfl
def Pz {q:Sg} (h:Gq q):Y3 (Zj q)=true:=by
 simp[Zj,Y3,WT,h.w,AO h.t]
def Qf (q:Sg):pairD (Zj q)=true:=rfl
theorem EF(h:∀b∈ss,ZH b=true):Y2 (.lst (ss.map D.str))=.ok (.list (ss.map PyData.str)):=by
 have e:(D.lst (ss.map D.str)).py=some (.list (ss.map PyData.str)):=by simp[D.py,EM]
 have s:SeqAt.shaped (.list (ss.map PyData.str))=true:=by
  have d:=GZ ss;simp[SeqAt.shaped,PyData.canLay0,Hc h,PyData.depth];lia
 unfold Y2;rw[e];simp[s]
def Ba {as bs:List Str} (h:∀b∈as,ZH b=true) (k:∀b∈bs,ZH b=true):Pa (.lst (as.map D.str)) (.lst (bs.map D.str))=.ok (.bl (!decide (as=bs))):=by
 unfold Pa;rw[EF h,EF k];show Res.ok (D.bl (!PyData.eqvAll (as.map PyData.str) (bs.map PyData.str)))=_;rw[GN]
structure Rw (rs:List RR) (m:Md):Prop where
 ok:Ok m
 nu:Nu rs m
theorem H9{rs:List RR} (hr:∀p∈rs,VU p)  (h:Rw rs m):ZH (Yp rs m)=true:=by
 cases h.ok with
 | leaf h1 l=>exact EW h1 l
 | @node n cs h0 h1 hl hc =>
  obtain⟨n0,n1⟩:=h.nu;have e:rs[n.toNat]?=some (rs[n.toNat]'(by lia)):=y9 (by lia)
  show ZH (match rs[n.toNat]? with|some p=>p.1|none=>"")=true
  rw[e];exact(hr _ (t7 (by lia))).gh
def ww (A:XM) (ms:List Md) (n:Nat):(YE A ms).drop n=YE A (ms.drop n):=by rw[QZ,QZ,List.map_drop]
def NV (A:XM) (G:FD):Prop:=∀rs kk row q,rs.length<=1000->(∀p∈rs,VU p)->(∀m∈row,Rw rs m)->row.length<=5000->Gq q->G [gI A rs kk,.lst (YE A row),Zj q]=.ok (Vh A (W9 rs row q))
set_option tactic.hygienic true in
theorem FH{rs:List RR} (hr:∀p∈rs,VU p) (hl:rs.length<=1000)  (h:∀m∈row,Rw rs m) {q:Sg} (g:Gq q)  (e:W9 rs row q=some m):Rw rs m/\(Zy m).length<=row.length:=by
 unfold W9 at e;split at e
 ·rename_i z ez
  split at e
  ·cases e
   have:=g.t
   rw[ez] at this;cases this with
   | str gz=>exact⟨⟨.leaf (UV gz) (by unfold ZH at gz;rw[t4] at gz;exact YS gz.2),trivial⟩,Us _⟩
  ·cases e
 ·rename_i n en
  split at e
  ·rename_i c
   have rn:=YS c.2;split at e
   ·rename_i p ep
    split at e
    ·rename_i c2
     cases e;have l4:=(hr p (ZP ep)).l;have ll:(row.drop (row.length - p.2.length)).length=p.2.length:=by rw[RC];lia
     exact⟨⟨.node rn.1 (by lia) (by lia) λc m=>(h c (NK m)).ok,rn⟩,by show(row.drop (row.length - p.2.length)).length<=row.length;lia⟩
    ·cases e
   ·cases e
  ·cases e
 ·cases e
def B2 (A:XM) (m:Md):Xw (tr A m)=true:=by
 induction m using Md.ind with
 | hl s=>rfl
 | hn n cs ih =>
  have:Vo (YE A cs)=true:=by
   induction cs with
   | nil=>rfl
   | cons c cs ih2=>rw[YE,Vo,ih c z6,ih2 λc m=>ih c (z5 _ m)];rfl
  simp[tr,Xw,UM,this]
def xp (A:XM) (m:Option Md):Xw (Vh A m)=true:=by cases m;rfl;exact B2 A _
def zi(l:List α):Wf l=if l.length=1 then l.head? else none:=by
 cases l with
 | nil=>rfl
 | cons x l=>cases l<;>simp[Wf]
def uZ {a2u:FD} (a1y:Callee P w K mg base 1 "is_pair" ["thing"] (Zt K a2u)) (a7i:P1 pairD a2u) (F:Fun K "is_step" "is_step" Ef f fd) (T:Txt P w K mg A):∃G,FnOk P w K mg base Z0 2 f fd ["thing","word"] (Zt K G)/\∀q w,Gq q->ZH w=true->G [Zj q,.str w]=.ok (.bl (decide (q.1=w))):=by
 refine⟨_,F.okT (k:=1) uO (λZm Ar outer s H E hr=>Zn (YL (VG (Zz a1y hr (ZW (dv 0) ZU)) (VG (Yh UX T.z_isinstance (by decide +kernel) (ZW (ZA ZD (dv 0) ZT) (ZW (X0 T.z_str (T:="str") (by decide +kernel)) ZU))) (UB (Ub (Xq (Yj hr)) (ZA ZD (dv 0) ZT) (dv 1))))))),?_⟩
 intro q w g gw;have i0:Xi (Zj q) (.int 0)=.ok (.str q.1):=rfl;have e1:Wk [.str q.1,.ty "str"]=.ok (.bl true):=rfl;simp[Zq,ZV,a7i _ (Pz g),Qf,i0,e1,Rr (UV g.w) (UV gw)]
set_option tactic.hygienic true in
theorem sC(a0i:Callee P w K mg base 2 "is_sign" ["thing"] (Zt K a0n))  (a0b:Callee P w K mg base 2 "is_rule_number" ["grammar","thing"] (Zt K a0d)) {a5n:FD} (a3m:Callee P w K mg base 2 "is_step" ["thing","word"] (Zt K a5n)) {g_symbol_in:Addr->List D->Res D} (m_symbol_in:∀C∈[A.Leaf,A.Node],Zp P w K mg base 4 C "symbol_in" ["self","grammar"] (g_symbol_in C))  (m_body_of:Zp P w K mg base 3 A.Grammar "body_of" ["self","number"] a0m) {g_Leaf:List D->Res (List (Str×D))} (k_Leaf:Y1 P w K mg base 1 "Leaf" A.Leaf ["self","sign"] g_Leaf) {g_Node:List D->Res (List (Str×D))} (k_Node:Y1 P w K mg base 2 "Node" A.Node ["self","number","children"] g_Node) (a6d:∀q w,Gq q->ZH w=true->a5n [Zj q,.str w]=.ok (.bl (decide (q.1=w)))) (a5d:P1 WG a0n) (a7j:LA A g_symbol_in) (p_rn:∀rs kk d,Sc d->rs.length<=1000->a0d [gI A rs kk,d]=.ok (.bl (Uo rs d))) (a4w:∀rs kk (n:Nat) p,rs[n]?=some p->rs.length<=1000->a0m [gI A rs kk,dN n]=.ok (.tup (p.2.map D.str))) (a2x:∀(n:Int) (ms:List Md),ms.length<=1000->∀{c:D},Ya c=some (YE A ms)->g_Node [.int n,c]=.ok [("number",.int n),("children",.tup (YE A ms)),("tree_size",.int (1+XC ms)),("tree_depth",.int (1+VW ms))]) (a3l:∀s:Str,g_Leaf [.str s]=.ok [("sign",.str s),("tree_size",.int 1),("tree_depth",.int 1)]) (F:Fun K "tree_of_step" "tree_of_step" GB f fd) (T:Txt P w K mg A):∃G,FnOk P w K mg base Z0 5 f fd ["grammar","row","step"] (Zt K G)/\NV A G:=by
 refine⟨_,F.okT (k:=4) De (λZm Ar outer s H E hr=>Zu (XH (WB (Kg (X9 (Zz a3m hr (ZW (dv 2) (ZW Yq ZU)))) (Kb (X9 (Zz a0i hr (ZW (ZA ZD (dv 2) ZT) ZU)))))) (Zn (YL (Rx k_Leaf hr (ZW (ZA ZD (dv 2) ZT) ZU)))) XA)
  (Zu (XH (WB (Tu (VQ (X9 (Zz a3m hr (ZW (dv 2) (ZW Yq ZU))))) (SV (VQ (X9 (Zz a0b hr (ZW (dv 0) (ZW (ZA ZD (dv 2) ZT) ZU)))))))) (Zn (YL Tw)) XA)
  (Zu (YU De.nd (TH m_body_of hr (dv 0) (ZW (ZA ZD (dv 2) ZT) ZU)))
  (Zu (XH (Xk Ui (Yh X3 T.z_len (by decide +kernel) (ZW (dv 3) ZU)) (Yh X3 T.z_len (by decide +kernel) (ZW (dv 1) ZU))) (Zn (YL Tw)) XA)
  (Zu (YU De.nd (T0 (dv 1) (Vk (ZC Nz (Yh X3 T.z_len (by decide +kernel) (ZW (dv 1) ZU)) (Yh X3 T.z_len (by decide +kernel) (ZW (dv 3) ZU)))) Ux))
  (Zu (XH (Xk (UP (Yj hr)) (DN.de (Tt ["child"] [0] rfl (Uy (sc:=ZX GB) (N:=["grammar","row","step","body","children"]) (by decide +kernel)) (VS (dv 4)) (YT (show(["child","grammar"]:List Str).Nodup by decide +kernel)) Tq (IP m_symbol_in hr (dv 0) (ZW (dv 1) ZU)))) (DN.de (Lc T.z_list (ZW (dv 3) ZU)))) (Zn (YL Tw)) XA)
  (Zn (YL (Rx k_Node hr (ZW (ZA ZD (dv 2) ZT) (ZW (dv 4) ZU))))))))))),?_⟩
 intro rs kk row q hl hr hw hb g;have i1:Xi (Zj q) (.int 1)=.ok q.2:=rfl;have s1:=a6d q "shift" g (by decide +kernel)
 have s2:=a6d q "reduce" g (by decide +kernel)
 have e1:=a5d q.2 (AO g.t);have e2:=p_rn rs kk q.2 g.t hl;have ne:("shift":Str)≠"reduce":=by decide +kernel
 have ne':("reduce":Str)≠"shift":=by decide +kernel
 obtain⟨wd,th⟩:=q;simp only at s1 s2 e1 e2 i1;have gt:=g.t;simp only at gt;by_cases c1:wd="shift"/\WG th=true
 ·obtain ⟨rfl,c1⟩:=c1
  cases gt with
  | str gz =>
   rename_i z;have c2:XR z=true:=c1;simp[Zq,ZV,i1,s1,e1,c1,a3l,W9,c2];rfl
  | _=>cases c1
 ·by_cases c2:wd="reduce"/\Uo rs th=true
  ·obtain ⟨rfl,c2⟩:=c2
   cases gt with
   | int n =>
    have rn:=YS c2;obtain⟨k,rfl⟩:∃k:Nat,n=(k:Int):=⟨n.toNat,by lia⟩
    have hk:k<rs.length:=by lia
    have e:rs[k]?=some rs[k]:=y9 hk;have o1:=hr _ (t7 hk);generalize hp:rs[k]=p at e o1;have l4:=o1.l;by_cases c3:p.2.length<=row.length
    ·have g3:¬ ((row.length:Int)<(p.2.length:Int)):=by lia
     have sb:RS (.int (row.length:Int)) (.int (p.2.length:Int))=.ok (.int ((row.length - p.2.length:Nat):Int)):=by show Res.ok (D.int ((row.length:Int) - (p.2.length:Int)))=_;rw[Int.ofNat_sub c3]
     have sl:Rq (.lst (YE A row)) (some ((row.length - p.2.length:Nat):Int)) none=.ok (.lst (YE A (row.drop (row.length - p.2.length)))):=by show Res.ok (D.lst (YC _ _ _))=_;rw[HU,ww]
     have lc:(row.drop (row.length - p.2.length)).length=p.2.length:=by rw[RC];lia
     generalize hc:row.drop (row.length - p.2.length)=cs at *
     have hw2:∀m∈cs,Rw rs m:=λm mm=>hw m (by rw[<- hc] at mm;exact NK mm)
     have cm:∀{fT:Rho->Res Bool}{fe:Rho->Res D}{g0:D->Rho->Res Rho}{ρ:Rho},(∀x∈cs,∃ρ1,g0 (tr A x) ρ=.ok ρ1/\fT (frz ρ1)=.ok true/\fe ρ1=.ok (.str (Yp rs x)))->YH g0 fT fe ρ (YE A cs)=.ok ((cs.map (Yp rs)).map D.str):=λh=>by rw[QZ,Tg (tr A) (λx=>D.str (Yp rs x)) h,OV];rfl
     have ls:cs.length<=sizeLine:=Tr (by lia)
     have sq:Vx [.tup (p.2.map D.str)]=.ok (.l (p.2.map D.str)):=rfl;have nE:=Ba (as:=cs.map (Yp rs)) (bs:=p.2) (λb m=>by obtain⟨x,mx,rfl⟩:=u3.mp m;exact H9 hr (hw2 x mx)) o1.gs
     have nd:=a2x (k:Int) cs (by lia) (c:=.lst (YE A cs)) rfl
     simp[Zq,ZV,i1,s1,s2,e1,e2,ne',c2,a4w rs kk k p e hl,Yv,SR,g3,sb,TC,sl,Wx ls,sq];rw[cm λx mx=>⟨_,rfl,rfl,by simp[Xs,Nk a7j hl (hw2 x mx).nu]⟩]
     have mk:W9 rs row ("reduce",.int (k:Int))=if cs.map (Yp rs)=p.2 then some (.node (k:Int) cs) else none:=by
      simp[W9,c2,e,c3,hc]
     rw[mk];generalize cs.map (Yp rs)=ss at *
     by_cases c4:ss=p.2
     ·subst c4
      simp[OD.toD,nE,nd,i1];rfl
     ·simp [OD.toD,nE,c4]
      rfl
    ·have g3:(row.length:Int)<(p.2.length:Int):=by lia
     simp[Zq,ZV,i1,s1,s2,e1,e2,ne',c2,a4w rs kk k p e hl,Yv,SR,g3,W9,e,c3];rfl
   | _=>cases c2
  ·have mk:W9 rs row (wd,th)=none:=by
    cases gt with
    | str gz=>exact if_neg λh=>c1 ⟨h.1,h.2⟩
    | int n=>exact if_neg λh=>c2 ⟨h.1,h.2⟩
    | _=>rfl
   rw[mk];generalize Zj (wd,th)=sq at s1 s2 i1 |-
   have f2:WG th=true->wd≠"shift":=λh z=>c1 ⟨z,h⟩
   have f3:Uo rs th=true->wd≠"reduce":=λh z=>c2 ⟨z,h⟩
   cases hs:WG th<;>cases hr2:Uo rs th<;>by_cases h1:wd="shift"<;>by_cases h2:wd="reduce"<;>first|exact absurd h1 (f2 hs)|exact absurd h2 (f3 hr2)|(simp[Zq,ZV,i1,s1,s2,e1,e2,hs,hr2,h1,h2,ne,ne'];rfl)
def UG (A:XM) (G:FD):Prop:=∀rs kk qs,rs.length<=1000->(∀p∈rs,VU p)->(∀q∈qs,Gq q)->qs.length<=5000->G [gI A rs kk,.lst (qs.map Zj)]=.ok (Vh A ((Yr rs [] qs).bind Wf))
theorem vh(l:List α)  (h:0<n) (hn:n<=l.length):∃x,l.take n=l.take (n - 1)++[x]:=by
 obtain⟨k,rfl⟩:∃k,n=k+1:=⟨n - 1,by lia⟩
 exact⟨l[k],by rw[List.take_succ,y9 (by lia)];rfl⟩
noncomputable abbrev ρ6 (g s:D) (l:List D) (a b c:Option Sl):Rho:=[some (.val g),some (.val s),some (.own (.l l)),a,b,c]
inductive TS (A:XM) (rs kk:List RR) (qs:List Sg) (xs:List Sg) (ρ:Rho):Prop
 | mk (row:List Md) (a b c:Option D) (e:ρ=ρ6 (gI A rs kk) (.lst (qs.map Zj)) (YE A row) (a.map Sl.val) (b.map Sl.val) (c.map Sl.val)) (hw:∀m∈row,Rw rs m) (hl:row.length+xs.length<=5000) (hp:Yr rs row xs=Yr rs [] qs) (hq:∀q∈xs,q∈qs)
inductive TQ (A:XM) (rs kk:List RR) (qs:List Sg) (o:Out):Prop
 | nx (row:List Md) (a b c:Option Sl) (e:o=.nx (ρ6 (gI A rs kk) (.lst (qs.map Zj)) (YE A row) a b c)) (hp:Yr rs [] qs=some row)
 | rt (e:o=.rt .non) (hp:Yr rs [] qs=none)
def TP (g s:D) (l:List D) (a b:D) (o:Out):Prop:=∃y:Option D,o=.nx (ρ6 g s l (some (.val a)) (some (.val b)) (y.map Sl.val))
theorem uh(a0e:Callee P w K mg base 2 "children_of" ["tree"] (Zt K a0g)) {g_is_leaf:Addr->List D->Res D} (m_is_leaf:∀C∈[A.Leaf,A.Node],Zp P w K mg base 1 C "is_leaf" ["self"] (g_is_leaf C)) (a5g:UZ A g_is_leaf) (a2v:∀m,a0g [tr A m]=.ok (.tup (YE A (Zy m)))) (F:Fun K "steps_of" "steps_of" DU f fd) (T:Txt P w K mg A):∃G,FnOk P w K mg base Z0 3 f fd ["tree"] (UT K G)/\∀m,sz m<=10000->G [tr A m]=.ok ((Z8 m).map Zj):=by
 refine⟨_,F.okN0 (k:=2) GA (λZm Ar outer s H E hr=>Fl (Uz GA.nd (Tp ZU))
  (Fl (Uz GA.nd (Tp (ZW (dv 0) ZU)))
  (Fl (EC (Xk Ui (Yh X3 T.z_len (by decide +kernel) (ZW (dv 2) ZU)) ZT) (Zu (SE GA.nd (HI 2))
   (Zu (Ua 1 (HR (X9 (Rc m_is_leaf hr (dv 3))) (Z6 (ZW Yq (ZW (W4 T.f_sign (dv 3)) ZU))) (Z6 (ZW Yq (ZW (W4 T.f_number (dv 3)) ZU)))))
   (Zn (HC 2 (DN.de (Lc T.z_list (ZW (Zz a0e hr (ZW (dv 3) ZU)) ZU))))))))
  (DRB.fix (BB (BD rfl T.z_list T.z_reversed (ZW (dv 1) ZU))))))),?_⟩
 intro m hz;simp[L2.runN,Sw,ZV];generalize hI:wD _ _ _=o;have q:∃x y,o=.nx [some (.val (tr A m)),some (.own (.l ((Z8 m).reverse.map Zj))),x,y]:=by
  rw[<- hI];refine Ft (S:=λn ρ=>∃done YW x,ρ=[some (.val (tr A m)),some (.own (.l (done.map Zj))),some (.own (.l (YE A YW))),x]/\YZ YW++done.reverse=Z8 m/\XC YW=n/\n+done.length<=10000)
   (Q:=λo=>∃x y,o=.nx [some (.val (tr A m)),some (.own (.l ((Z8 m).reverse.map Zj))),x,y]) (λo h=>by obtain⟨_,_,e⟩:=h;rw[e];trivial) (λn ρ h=>?_) (sz m) _ ⟨[],[m],none,by simp[YE],by simp[YZ],by simp[XC],hz⟩
  obtain⟨done,YW,x,rfl,hy,hn,hb⟩:=h;rcases List.eq_nil_or_concat YW with rfl|⟨YW,c,rfl⟩
  ·left
   refine⟨by simp[Yv,YE],some (.own (.l [])),x,?_⟩
   simp only[YZ,List.nil_append] at hy;rw[<- hy,List.reverse_reverse];rfl
  ·right
   rw[List.concat_eq_append] at *
   have hs:=Nr YW [c];have hp:=K6 (m:=c);have hk:=Ah c;have l1:=Fi YW;have l2:=Fi (Zy c);simp[XC] at hs;refine⟨by simp[Yv,SR],.inl ?_⟩
   have pw:=Hw (ρ:=[some (.val (tr A m)),some (.own (.l (done.map Zj))),some (.own (.l (YE A (YW++[c])))),x]) (i:=2) (l:=YE A YW) (x:=tr A c) (by simp[K5,YE])
   have hd:done.length<sizeLine:=RB (show done.length<=10000 by lia) (by decide)
   have hx:YW.length+(Zy c).length<=sizeLine:=v7 (show _<=10000 by lia) (by decide)
   have sq:Vx [.tup (YE A (Zy c))]=.ok (.l (YE A (Zy c))):=rfl;rw[pw];refine⟨[some (.val (tr A m)),some (.own (.l ((done++[Tf c]).map Zj))),some (.own (.l (YE A (YW++Zy c)))),some (.val (tr A c))],XC (YW++Zy c),by rw[Nr];lia,?_,done++[Tf c],YW++Zy c,_,rfl,?_,rfl,by rw[Nr];simp;lia⟩
   ·cases c with
    | leaf s=>simp[QY a5g,Y4,K4,a2v,hd,hx,sq,OD.toD,SR,K5,Tf,Zj]
    | node n cs=>simp[QY a5g,Y4,OF,a2v,hd,hx,sq,OD.toD,SR,K5,Tf,Zj]
   ·rw [<- hy,GQ,GQ,List.reverse_append]
    simp[YZ,QQ]
 obtain⟨x,y,rfl⟩:=q;simp[QD,Ya,OD.toD,frz,YK,QC]
theorem uW(a0e:Callee P w K mg base 2 "children_of" ["tree"] (Zt K a0g)) {a2y:FD} (a1u:Callee P w K mg base 5 "tree_of_step" ["grammar","row","step"] (Zt K a2y)) (a6d:NV A a2y) (a2v:∀m,a0g [tr A m]=.ok (.tup (YE A (Zy m)))) (F:Fun K "tree_by" "tree_by" Ec f fd) (T:Txt P w K mg A):∃G,FnOk P w K mg base Z0 6 f fd ["grammar","steps"] (Zt K G)/\UG A G:=by
 refine⟨_,F.okT (k:=5) JU (λZm Ar outer s H E hr=>Zu (Uz JU.nd (Tp ZU))
  (Zu (UA rfl (VS (dv 1)) (YT JU.nd)
  (Zu (YU JU.nd (DE.hard (Zz a1u hr (ZW (dv 0) (ZW (dv 2) (ZW (dv 3) ZU))))))
   (Zu (XH (Xk Q6 (dv 4) Tw) (Zn (YL Tw)) XA)
   (Zu (UA rfl (VS (Zz a0e hr (ZW (dv 4) ZU))) (YT JU.nd)
   (Zn (xV (HI 2))))
   (Zn (Ua 2 (dv 4)))))))
  (Zn (YL (HR (Xk (Xq (Yj hr)) (Yh X3 T.z_len (by decide +kernel) (ZW (dv 2) ZU)) ZT) (ZA ZD (dv 2) ZT) Tw))))),?_⟩
 intro rs kk qs hl hr hq hb;simp[Zq,ZV];generalize hI:Yn _ _ _ _=o;have q:TQ A rs kk qs o:=by
  rw[<- hI];refine Ka Zj (TS A rs kk qs) (TQ A rs kk qs) ?_ ?_ qs _ ⟨[],none,none,none,rfl,λm h=>(nomatch h),by simpa using hb,rfl,λq m=>m⟩
  ·rintro ρ ⟨row,a,b,c,rfl,hw,hl,hp,_⟩
   exact .nx row _ _ _ rfl hp.symm
  ·rintro q xs ρ ⟨row,a,b,c,rfl,hw,hlr,hp,hq2⟩
   simp only[u6] at hlr;have gq:=hq q (hq2 q z6);have e1:=a6d rs kk row q hl hr hw (by lia) gq
   have hd:=xp A (W9 rs row q);refine⟨_,rfl,?_⟩;refine Vf (Q:=SK _ _ _) (Vh A (W9 rs row q)) (by
    have hO:Sk (ρ6 (gI A rs kk) (.lst (qs.map Zj)) (YE A row) (some (.val (Zj q))) (b.map Sl.val) (c.map Sl.val))=true:=by cases b<;>cases c<;>rfl
    simp[frz,YK,OD.toD,e1,Ug,hO,hd]) rfl ?_
   cases em:W9 rs row q with
   | none =>
    refine .inr ⟨.non,by simp[frz,YK,em,Vh,IM,isN],.rt rfl ?_⟩
    rw[<- hp,Yr,one,em];rfl
   | some m =>
    obtain⟨rm,km⟩:=FH hr hl hw gq em;have dm:isN (tr A m)=false:=by cases m<;>rfl
    refine th (Q:=SK _ _ _) (ρ:=ρ6 (gI A rs kk) (.lst (qs.map Zj)) (YE A row) (some (.val (Zj q))) (some (.val (tr A m))) (c.map Sl.val)) (by simp[frz,YK,em,Vh,IM,dm]) ?_
    refine JP (T:=TP (gI A rs kk) (.lst (qs.map Zj)) (YE A (row.take (row.length - (Zy m).length))) (Zj q) (tr A m)) ?_ ?_
    ·refine SM (Q:=TP (gI A rs kk) (.lst (qs.map Zj)) (YE A (row.take (row.length - (Zy m).length))) (Zj q) (tr A m)) (v:=YE A (Zy m)) (by simp [a2v]) ?_
     rw[QZ A (Zy m)];refine Ka (tr A) (λcs ρ=>∃y:Option D,ρ=ρ6 (gI A rs kk) (.lst (qs.map Zj)) (YE A (row.take (row.length - (Zy m).length+cs.length))) (some (.val (Zj q))) (some (.val (tr A m))) (y.map Sl.val)/\cs.length<=(Zy m).length) (TP (gI A rs kk) (.lst (qs.map Zj)) (YE A (row.take (row.length - (Zy m).length))) (Zj q) (tr A m)) ?_ ?_ (Zy m) _ ⟨c,by rw[Nat.sub_add_cancel km,List.take_length],w4 _⟩
     ·rintro ρ ⟨y,rfl,_⟩
      exact⟨y,rfl⟩
     ·rintro x cs ρ ⟨y,rfl,hc⟩
      simp only[u6] at hc |-
      obtain⟨z,ez⟩:=vh row (n:=row.length - (Zy m).length+(cs.length+1)) (by lia) (by lia)
      rw[ez,show row.length - (Zy m).length+(cs.length+1) - 1=row.length - (Zy m).length+cs.length by lia]
      refine⟨_,rfl,.inl ⟨ρ6 (gI A rs kk) (.lst (qs.map Zj)) (YE A (row.take (row.length - (Zy m).length+cs.length))) (some (.val (Zj q))) (some (.val (tr A m))) (some (.val (tr A x))),?_,some (tr A x),rfl,by lia⟩⟩
      have pw:=Hw (ρ:=ρ6 (gI A rs kk) (.lst (qs.map Zj)) (YE A (row.take (row.length - (Zy m).length+cs.length)++[z])) (some (.val (Zj q))) (some (.val (tr A m))) (some (.val (tr A x)))) (i:=2) (l:=YE A (row.take (row.length - (Zy m).length+cs.length))) (x:=tr A z) (by simp[K5,YE])
      exact(congrArg (λr=>(YD r).go _ _) pw)
    ·rintro o ⟨y,rfl⟩
     have hz:row.length - (Zy m).length<sizeLine:=RB (show _<=10000 by lia) (by decide)
     refine .inl ⟨ρ6 (gI A rs kk) (.lst (qs.map Zj)) (YE A (row.take (row.length - (Zy m).length)++[m])) (some (.val (Zj q))) (some (.val (tr A m))) (y.map Sl.val),?_,row.take (row.length - (Zy m).length)++[m],some (Zj q),some (tr A m),y,rfl,?_,?_,?_,λq mq=>hq2 q (z5 _ mq)⟩
     ·simp[VY,SR,hz,K5,YE]
     ·intro x mx
      rcases u9.mp mx with mx|mx
      ·exact hw x (Lr mx)
      ·rw[v8] at mx;rw[mx];exact rm
     ·rw[t5,r9];simp;lia
     ·rw [<- hp,Yr,one,em]
      rfl
 cases q with
 | nx row a b c e hp =>
  subst e;rw[hp];by_cases c1:row.length=1
  ·obtain ⟨m,rfl⟩:∃ m,row=[m]:=by cases row with | nil=>cases c1 | cons m r=>cases r with | nil=>exact ⟨m,rfl⟩ | cons _ _=>cases c1
   simp[frz,YK,OD.toD,Yv,YE,O5,Wf];rfl
  ·have:Wf row=none:=by rw [zi,if_neg c1]
   have c2:¬ ((row.length:Int)=1):=by lia
   simp[frz,YK,OD.toD,Yv,SR,O5,c2,this];rfl
 | rt e hp =>
  subst e;rw[hp];rfl
def PQ (z:Str):z.cps.toList.length=z.length:=by rw[q9];rfl
def RN{Q:Out->Prop}{r:Res Bool}{A:Out}{f:Rho->Out} (b:Bool) (h:r=.ok b) (t:b=true->Q (A.andThen f)) (e:b=false->Q (B.andThen f)):Q ((r.go ρ λb=>if b=true then A else B).andThen f):=by
 rw[h];cases b with
 | true=>exact t rfl
 | false=>exact e rfl
def IA{Q:Out->Prop}{r:Res Bool}{A:Out} (b:Bool) (h:r=.ok b) (t:b=true->Q A) (e:b=false->Q B):Q (r.go ρ λb=>if b=true then A else B):=by
 rw[h];cases b with
 | true=>exact t rfl
 | false=>exact e rfl
def Ey(h:ZH z=true):z.length<=1000:=by unfold ZH at h;rw[t4] at h;exact YS h.2
mutual
theorem JZ:∀m:Md,(Z8 m).length=sz m
 | .leaf s=>rfl
 | .node n cs=>by rw[Z8,t5,GP cs,sz];simp
theorem GP:∀ms:List Md,(YZ ms).length=XC ms
 | []=>rfl
 | c::cs=>by rw[YZ,t5,JZ c,GP cs,XC]
end
def G1 (d:Nat) (G:FD):Prop:=∀m,dp m<=d->sz m<=10000->G [toD m]=.ok (.lst ((Z8 m).map Zj))
def FJ {x y:List D} (h:x.length+y.length<=20000):VD (.lst x) (.lst y)=.ok (.lst (x++y)):=Wx (v7 h (by decide))
noncomputable def Qc:Option Md->D
 | none=>.non
 | some m=>toD m
def P2 (G:FD):Prop:=∀rs m,Nu rs m->G [dR rs,toD m]=.ok (.str (Yp rs m))
def NR (G:FD):Prop:=∀rs qs,rs.length<=1000->(∀p∈rs,VU p)->(∀q∈qs,Gq q)->qs.length<=5000->G [dR rs,.lst (qs.map Zj)]=.ok (Qc ((Yr rs [] qs).bind Wf))
def zw (ms:List Md) (n:Nat):(toDs ms).drop n=toDs (ms.drop n):=by rw[Ry,Ry,List.map_drop]
def vg (ms:List Md) (n:Nat):(toDs ms).take n=toDs (ms.take n):=by rw[Ry,Ry,List.map_take]
def Eo (a b:List Md):toDs (a++b)=toDs a++toDs b:=by simp[Ry]
noncomputable abbrev ρ7 (r s:D) (l:List D) (a b c d:Option Sl):Rho:=[some (.val r),some (.val s),some (.own (.l l)),a,b,c,d]
inductive yj (rs:List RR) (qs:List Sg) (xs:List Sg) (ρ:Rho):Prop
 | mk (row:List Md) (a b c d:Option D) (e:ρ=ρ7 (dR rs) (.lst (qs.map Zj)) (toDs row) (a.map Sl.val) (b.map Sl.val) (c.map Sl.val) (d.map Sl.val)) (hw:∀m∈row,Rw rs m) (hl:row.length+xs.length<=5000) (hp:Yr rs row xs=Yr rs [] qs) (hq:∀q∈xs,q∈qs)
inductive yi (rs:List RR) (qs:List Sg) (o:Out):Prop
 | nx (row:List Md) (a b c d:Option Sl) (e:o=.nx (ρ7 (dR rs) (.lst (qs.map Zj)) (toDs row) a b c d)) (hp:Yr rs [] qs=some row)
 | rt (e:o=.rt .non) (hp:Yr rs [] qs=none)
theorem tU(h3:3<=k)  (a0s:Callee P w K mg base k "_law_steps" ["_law_model"] (Zt K a1p))  (a4b:G1 d a1p) (F:Fun K "_law_steps" "_law_steps" Dx f fd) (T:Txt P w K mg A):∃G,FnOk P w K mg base Z0 (k+1) f fd ["_law_model"] (Zt K G)/\G1 (d+1) G:=by
 refine⟨_,F.okT (k:=k) Gy (λZm Ar outer s H E hr=>Zu (XH (X9 (Yh UX T.z_isinstance (by decide +kernel) (ZW (dv 0) (ZW (X0 T.z_str (T:="str") (by decide +kernel)) ZU)))) (Zn (YL (W6 (ZW (Z6 (ZW Yq (ZW (dv 0) ZU))) ZU)))) XA)
  (Zu (YU Gy.nd (W6 ZU))
  (Zu (UA rfl (VS (ZA ZD (dv 0) ZT)) (YT Gy.nd)
  (Zn (YU Gy.nd (ZC Ww (dv 1) (Zz a0s (hk:=by lia) hr (ZW (dv 2) ZU))))))
  (Zn (YL (ZC Ww (dv 1) (W6 (ZW (Z6 (ZW Yq (ZW (ZA ZD (dv 0) ZT) ZU))) ZU)))))))),?_⟩
 intro m hd hz;cases m with
 | leaf s=>simp[Zq,ZV,HB,Z8,Zj];rfl
 | node n cs =>
  have hz2:XC cs<=9999:=by simp only[sz] at hz;lia
  simp[Zq,ZV,HG,Ko,S7];rw[Ry cs];generalize hI:Yn _ _ _ _=o;have q:∃y,o=.nx [some (.val (toD (.node n cs))),some (.val (.lst ((YZ cs).map Zj))),y]:=by
   rw[<- hI];refine Ka toD (λxs ρ=>∃ys y,ρ=[some (.val (toD (.node n cs))),some (.val (.lst ((YZ ys).map Zj))),y]/\cs=ys++xs) (λo=>∃y,o=.nx [some (.val (toD (.node n cs))),some (.val (.lst ((YZ cs).map Zj))),y]) ?_ ?_ cs _ ⟨[],none,rfl,rfl⟩
   ·rintro ρ ⟨ys,y,rfl,e⟩
    rw[ZI] at e;rw[e];exact⟨y,rfl⟩
   ·rintro x xs ρ ⟨ys,y,rfl,e⟩
    have mx:x∈cs:=by rw[e];simp
    have dx:=Hl mx;have sx:=AI mx;simp only[dp] at hd;have hy:XC ys<=9999:=by rw[e,Nr] at hz2;lia
    have e1:=a4b x (by lia) (by lia)
    have e2:=FJ (x:=(YZ ys).map Zj) (y:=(Z8 x).map Zj) (by simp[JZ,GP];lia)
    refine⟨_,rfl,.inl ⟨[some (.val (toD (.node n cs))),some (.val (.lst ((YZ (ys++[x])).map Zj))),some (.val (toD x))],by simp[e1,e2,GQ,YZ],ys++[x],_,rfl,by rw[e,List.append_assoc];rfl⟩⟩
  obtain⟨y,rfl⟩:=q;have e2:=FJ (x:=(YZ cs).map Zj) (y:=[D.tup [.str "reduce",.int n]]) (by simp[GP];lia)
  simp[Ko,e2,Z8,Zj]
set_option tactic.hygienic true in
theorem sW (F:Fun K "_law_is_sign" "_law_is_sign" Gw f fd) (T:Txt P w K mg A):∃G,FnOk P w K mg base Z0 1 f fd ["_law_thing"] (Zt K G)/\∀d,Sc d->G [d]=.ok (.bl (WG d)):=by
 refine⟨_,F.okT (k:=0) yB (λZm Ar outer s H E hr=>Zu (XH (WB (Tu (VQ (X9 (Yh UX T.z_isinstance (by decide +kernel) (ZW (dv 0) (ZW (X0 T.z_str (T:="str") (by decide +kernel)) ZU))))) (Tu (Xk Uk (Yh X3 T.z_len (by decide +kernel) (ZW (dv 0) ZU)) ZT) (SV (Xk Ui (Yh X3 T.z_len (by decide +kernel) (ZW (dv 0) ZU)) ZT))))) (Zn (YL XB)) XA)
  (Zu (YU yB.nd Yq)
  (Zn (YL (Ub (Xq (Yj hr)) (Yh X3 T.z_len (by decide +kernel) (ZW (DN.de (Tt ["_law_sign"] [1] rfl (Uy (sc:=ZX Gw) (N:=["_law_thing","_law_signs_here"]) (by decide +kernel)) (VS (dv 0)) (YT (show(["_law_sign","_law_signs_here"]:List Str).Nodup by decide +kernel)) (HE (Xk (Fg (V4 hr)) (dv 0) (dv 1))) (dv 0))) ZU)) ZT))))),?_⟩
 refine λd sc=>?_
 cases sc with
 | int n=>rfl
 | bl b=>rfl
 | non=>rfl
 | str gz =>
 rename_i z;show _=Res.ok (D.bl (XR z));have e9:Wk [.str z,.ty "str"]=.ok (.bl true):=rfl;have hl:=Eu z;have hc:WP z=z.cps.toList.map λc=>D.str ⟨#[c]⟩:=rfl
 have XJ:=PQ z;refine Sr rfl ?_;refine RN (Q:=Xj _) (!Y5 z) ?_ (λc=>?_) λc=>?_
 ·unfold Y5
  by_cases c1:1<=z.length
  ·have c2:¬ (z.length:Int)<1:=by lia
   by_cases c3:z.length<=6
   ·have c4:¬ 6<(z.length:Int):=by lia
    simp[ZV,frz,YK,e9,c1,c2,c3,c4]
   ·have c4:6<(z.length:Int):=by lia
    simp[ZV,frz,YK,e9,c1,c2,c3,c4]
  ·have c2:(z.length:Int)<1:=by lia
   simp[ZV,frz,YK,e9,c1,c2]
 ·have:XR z=false:=by unfold XR;rw [show Y5 z=false by simpa using c];rfl
  rw[this];rfl
 ·have c:Y5 z=true:=by simpa using c
  refine th (Q:=Xj _) rfl ?_;refine Vf (Q:=Xj _) (.str Wv) rfl rfl ?_;refine SM (Q:=Xj _) (v:=.bl (XR z)) ?_ rfl;have e0:(0:Int)=((0:Nat):Int):=rfl;have e1:=O5 (((z.cps.toList.filter λc=>!RZ ⟨#[c]⟩ Wv).length:Nat):Int) 0
  simp[ZV,frz,YK];rw[show items (.str z)=.ok (WP z) from rfl,Res.bind_ok,Wx (by rw[Eu];exact Tr (Ey gz)),hc,Ud (λc=>D.str ⟨#[c]⟩) (λc=>!RZ ⟨#[c]⟩ Wv) (λc=>D.str ⟨#[c]⟩) λx _=>⟨_,rfl,?_,λ_=>rfl⟩]
  ·have e2:decide ((((z.cps.toList.filter λc=>!RZ ⟨#[c]⟩ Wv).length:Nat):Int)=0)=Wu z Wv:=by
    unfold Wu;rw[Lu,decide_eq_true_eq,Ku];constructor
    ·intro h x mx
     have h:(z.cps.toList.filter λc=>!RZ ⟨#[c]⟩ Wv)=[]:=Yf (by lia)
     have:=List.filter_eq_nil_iff.mp h x mx
     simpa using this
    ·intro h
     rw[List.filter_eq_nil_iff.mpr λx mx=>by rw[h x mx];simp]
     rfl
   have e3:XR z=Wu z Wv:=by unfold XR;rw[c];rfl
   rw[e2] at e1;rw[e3];show YD (V1 (.int (((z.cps.toList.filter λc=>!RZ ⟨#[c]⟩ Wv).map λc=>D.str ⟨#[c]⟩).length:Int)) (.int 0))=_
   rw[v0,e1];rfl
  ·simp [Xs,frz,YK]
   rfl
theorem se (F:Fun K "_law_symbol_for" "_law_symbol_for" Do f fd) (T:Txt P w K mg A):∃G,FnOk P w K mg base Z0 1 f fd ["_law_rules_here","_law_model"] (Zt K G)/\P2 G:=by
 refine⟨_,F.okT (k:=0) rX (λZm Ar outer s H E hr=>Zu (XH (X9 (Yh UX T.z_isinstance (by decide +kernel) (ZW (dv 1) (ZW (X0 T.z_str (T:="str") (by decide +kernel)) ZU)))) (Zn (YL (dv 1))) XA)
  (Zn (YL (ZA ZD (ZA ZD (dv 0) (ZA ZD (dv 1) ZT)) ZT)))),?_⟩
 intro rs m hn;cases m with
 | leaf s=>simp[Zq,ZV,HB];rfl
 | node n cs =>
  obtain⟨h0,h1⟩:=hn;obtain⟨k,rfl⟩:∃k:Nat,n=(k:Int):=⟨n.toNat,by lia⟩
  have hk:k<rs.length:=by lia
  have e:rs[k]?=some rs[k]:=y9 hk;have i1:Xi (dR rs) (.int (k:Int))=.ok (rT rs[k]):=NA e;have i2:Xi (rT rs[k]) (.int 0)=.ok (.str rs[k].1):=rfl;have e3:Yp rs (.node (k:Int) cs)=rs[k].1:=by simp[Yp,e]
  simp[Zq,ZV,HG,Ko,i1,i2,e3]
def sK (F:Fun K "_law_is_rule" "_law_is_rule" DH f fd) (T:Txt P w K mg A):∃G,FnOk P w K mg base Z0 1 f fd ["_law_rules_here","_law_what"] (Zt K G)/\∀rs d,Sc d->G [dR rs,d]=.ok (.bl (Uo rs d)):=by
 refine⟨_,F.okT (k:=0) sT (λZm Ar outer s H E hr=>Zn (YL (VG (Yh UX T.z_isinstance (by decide +kernel) (ZW (dv 1) (ZW (X0 T.z_int (T:="int") (by decide +kernel)) ZU))) (VG (RT (Yh UX T.z_isinstance (by decide +kernel) (ZW (dv 1) (ZW (X0 T.z_bool (T:="bool") (by decide +kernel)) ZU)))) (UB (Fn Uj Uk ZT (dv 1) (Yh X3 T.z_len (by decide +kernel) (ZW (dv 0) ZU)))))))),?_⟩
 intro rs d sc;cases sc with
 | int n =>
  have e1:Wk [.int n,.ty "int"]=.ok (.bl true):=rfl;have e2:Wk [.int n,.ty "bool"]=.ok (.bl false):=rfl;unfold Uo;by_cases h:0<=n
  ·by_cases h2:n<(rs.length:Int)<;>simp[Zq,ZV,e1,e2,Yv,h,h2]
  ·simp[Zq,ZV,e1,e2,Yv,h]
 | str h=>rfl
 | bl b=>rfl
 | non=>rfl
set_option tactic.hygienic true in
theorem tY{a3n:FD} (a1v:Callee P w K mg base 1 "_law_is_sign" ["_law_thing"] (Zt K a3n))  (a0a:Callee P w K mg base 1 "_law_symbol_for" ["_law_rules_here","_law_model"] (Zt K a0c)) {a3o:FD} (a1w:Callee P w K mg base 1 "_law_is_rule" ["_law_rules_here","_law_what"] (Zt K a3o)) (a5d:∀d,Sc d->a3n [d]=.ok (.bl (WG d))) (a7h:∀rs d,Sc d->a3o [dR rs,d]=.ok (.bl (Uo rs d))) (a4a:P2 a0c) (F:Fun K "_law_piled" "_law_piled" GL f fd) (T:Txt P w K mg A):∃G,FnOk P w K mg base Z0 2 f fd ["_law_rules_here","_law_steps_here"] (Zt K G)/\NR G:=by
 refine⟨_,F.okT (k:=1) No (λZm Ar outer s H E hr=>Zu (Uz No.nd (Tp ZU))
  (Zu (UA rfl (VS (dv 1)) (OM (n:=2) rfl (U8 (YT No.nd) (U8 (YT No.nd) OJ)))
  (Zn (XH (WB (Kg (Xk (Xq (Yj hr)) (dv 3) Yq) (Kb (X9 (Zz a1v hr (ZW (dv 4) ZU)))))) (Zn (Ua 2 (dv 4))) (Zn (XH (WB (Kg (Xk (Xq (Yj hr)) (dv 3) Yq) (Kb (X9 (Zz a1w hr (ZW (dv 0) (ZW (dv 4) ZU))))))) (Zu (YU No.nd (DN.de (Lc T.z_list (ZW (ZA ZD (ZA ZD (dv 0) (dv 4)) ZT) ZU))))
     (Zu (YU No.nd (DE.hard (ZC Nz (Yh X3 T.z_len (by decide +kernel) (ZW (dv 2) ZU)) (Yh X3 T.z_len (by decide +kernel) (ZW (dv 5) ZU)))))
     (Zu (XH (WB (Tu (Xk Uk (dv 6) ZT) (SV (Xk (UP (Yj hr)) (DN.de (Tt ["_law_one"] [0] rfl (Uy (sc:=ZX GL) (N:=["_law_rules_here","_law_steps_here","_law_pile","_law_word","_law_what","_law_body","_law_keep"]) (by decide +kernel)) (VS (T0 (dv 2) (Vk (dv 6)) Ux)) (YT (show(["_law_one","_law_rules_here"]:List Str).Nodup by decide +kernel)) Tq (Zz a0a hr (ZW (dv 1) (ZW (dv 0) ZU))))) (dv 5))))) (Zn (YL Tw)) XA)
     (Zn (Uz No.nd (LY (Tv 2 Ux (Vk (dv 6))) (W6 (ZW (Z6 (ZW (dv 4) (ZW (Tv 2 (Vk (dv 6)) Ux) ZU))) ZU)))))))) (Zn (YL Tw)))))))
  (Zu (XH (Xk (UP (Yj hr)) (Yh X3 T.z_len (by decide +kernel) (ZW (dv 2) ZU)) ZT) (Zn (YL Tw)) XA)
  (Zn (YL (ZA ZD (dv 2) ZT)))))),?_⟩
 intro rs qs hl hr hq hb;simp[Zq,ZV];generalize hI:Yn _ _ _ _=o;have q:yi rs qs o:=by
  rw[<- hI];refine Ka Zj (yj rs qs) (yi rs qs) ?_ ?_ qs _ ⟨[],none,none,none,none,rfl,λm h=>(nomatch h),by simpa using hb,rfl,λq m=>m⟩
  ·rintro ρ ⟨row,a,b,c,d,rfl,hw,hl,hp,_⟩
   exact .nx row _ _ _ _ rfl hp.symm
  ·rintro q xs ρ ⟨row,a,b,c,d,rfl,hw,hlr,hp,hq2⟩
   simp only[u6] at hlr;have gq:=hq q (hq2 q z6);have mk:=λm (e:W9 rs row q=some m)=>FH hr hl hw gq e
   have pn:W9 rs row q=none->Yr rs [] qs=none:=λe=>by rw[<- hp,Yr,one,e];rfl
   have ps:∀m,W9 rs row q=some m->Yr rs (row.take (row.length - (Zy m).length)++[m]) xs=Yr rs [] qs:=λm e=>by rw[<- hp,Yr,one,e];rfl
   have Xe:∀(m:Md) (a b c d:Option D),W9 rs row q=some m->yj rs qs xs (ρ7 (dR rs) (.lst (qs.map Zj)) (toDs (row.take (row.length - (Zy m).length)++[m])) (a.map Sl.val) (b.map Sl.val) (c.map Sl.val) (d.map Sl.val)):=λm a b c d e=>by
    obtain⟨rm,km⟩:=mk m e;refine⟨_,a,b,c,d,rfl,λx mx=>?_,?_,ps m e,λq mq=>hq2 q (z5 _ mq)⟩
    ·rcases u9.mp mx with mx | mx
     ·exact hw x (Lr mx)
     ·rw[v8] at mx;rw[mx];exact rm
    ·rw[t5,r9];simp;lia
   obtain⟨wd,th⟩:=q;have gt:=gq.t;have gw:=gq.w;simp only at gt gw;have w1:=Rr (UV gw) (show PyData.strOk "shift"=true by decide +kernel)
   have w2:=Rr (UV gw) (show PyData.strOk "reduce"=true by decide +kernel)
   have e1:=a5d th gt;have e2:=a7h rs th gt;have ne:("shift":Str)≠"reduce":=by decide +kernel
   refine⟨ρ7 (dR rs) (.lst (qs.map Zj)) (toDs row) (some (.val (.str wd))) (some (.val th)) (c.map Sl.val) (d.map Sl.val),rfl,?_⟩;refine IA (Q:=SK _ _ _) (decide (wd="shift")&&WG th) (by
    cases hs:decide (wd="shift")<;>simp[frz,YK,w1,e1,hs]) (λc1=>?_) λc1=>?_
   ·rw [t4,decide_eq_true_eq] at c1
    obtain⟨rfl,c1⟩:=c1;cases gt with
    | str gz =>
     rename_i z;have em:W9 rs row ("shift",.str z)=some (.leaf z):=by simp[W9];exact c1
     have hz:row.length<sizeLine:=RB (show _<=10000 by lia) (by decide)
     refine .inl ⟨ρ7 (dR rs) (.lst (qs.map Zj)) (toDs (row++[.leaf z])) (some (.val (.str "shift"))) (some (.val (.str z))) (c.map Sl.val) (d.map Sl.val),by simp[VY,OE,hz,Eo,toDs,toD],?_⟩
     have:=Xe _ (some (.str "shift")) (some (.str z)) c d em
     simp only[Zy,List.length_nil,Nat.sub_zero,List.take_length] at this;exact this
    | _=>cases c1
   ·refine IA (Q:=SK _ _ _) (decide (wd="reduce")&&Uo rs th) (by
     cases hs:decide (wd="reduce")<;>simp[frz,YK,w2,e2,hs]) (λc2=>?_) λc2=>?_
    ·rw [t4,decide_eq_true_eq] at c2
     obtain⟨rfl,c2⟩:=c2;cases gt with
     | int n =>
      have rn:=YS c2;obtain⟨k,rfl⟩:∃k:Nat,n=(k:Int):=⟨n.toNat,by lia⟩
      have hk:k<rs.length:=by lia
      have e:rs[k]?=some rs[k]:=y9 hk;have o1:=hr _ (t7 hk);generalize hpk:rs[k]=p at e o1;have l4:=o1.l;have i1:Xi (dR rs) (.int (k:Int))=.ok (rT p):=NA e;have i2:Xi (rT p) (.int 1)=.ok (.tup (p.2.map D.str)):=rfl;have sq:Vx [.tup (p.2.map D.str)]=.ok (.l (p.2.map D.str)):=rfl;refine Vf (Q:=SK _ _ _) (.lst (p.2.map D.str)) (by simp[i1,i2,sq,OD.toD]) rfl ?_
      have sb:RS (.int (row.length:Int)) (.int (p.2.length:Int))=.ok (.int ((row.length:Int) - (p.2.length:Int))):=rfl;refine Vf (Q:=SK _ _ _) (.int ((row.length:Int) - (p.2.length:Int))) (by
       have hO:Sk (ρ7 (dR rs) (.lst (qs.map Zj)) (toDs row) (some (.val (.str "reduce"))) (some (.val (.int (k:Int)))) (some (.val (.lst (p.2.map D.str)))) (d.map Sl.val))=true:=by cases d<;>rfl
       simp[frz,YK,OD.toD,Yv,OE,sb,Ug,hO,Xw]) rfl ?_
      by_cases c3:p.2.length<=row.length
      ·have g3:¬ ((row.length:Int) - (p.2.length:Int)<0):=by lia
       have kp:((row.length:Int) - (p.2.length:Int))=((row.length - p.2.length:Nat):Int):=(Int.ofNat_sub c3).symm;have sl:Rq (.lst (toDs row)) (some ((row.length - p.2.length:Nat):Int)) none=.ok (.lst (toDs (row.drop (row.length - p.2.length)))):=by show Res.ok (D.lst (YC _ _ _))=_;rw[HU,zw]
       have lc:(row.drop (row.length - p.2.length)).length=p.2.length:=by rw[RC];lia
       generalize hc:row.drop (row.length - p.2.length)=cs at *
       have hw2:∀m∈cs,Rw rs m:=λm mm=>hw m (by rw[<- hc] at mm;exact NK mm)
       have cm:∀{fT:Rho->Res Bool}{fe:Rho->Res D}{g0:D->Rho->Res Rho}{ρ:Rho},(∀x∈cs,∃ρ1,g0 (toD x) ρ=.ok ρ1/\fT (frz ρ1)=.ok true/\fe ρ1=.ok (.str (Yp rs x)))->YH g0 fT fe ρ (toDs cs)=.ok ((cs.map (Yp rs)).map D.str):=λh=>by rw[Ry,Tg toD (λx=>D.str (Yp rs x)) h,OV];rfl
       have ls:cs.length<=sizeLine:=Tr (by lia)
       have nE:=Ba (as:=cs.map (Yp rs)) (bs:=p.2) (λb m=>by obtain⟨x,mx,rfl⟩:=u3.mp m;exact H9 hr (hw2 x mx)) o1.gs
       have em:W9 rs row ("reduce",.int (k:Int))=if cs.map (Yp rs)=p.2 then some (.node (k:Int) cs) else none:=by
        simp[W9,c2,e,c3,hc]
       rw[kp] at g3 |-
       refine RN (Q:=SK _ _ _) (!decide (cs.map (Yp rs)=p.2)) (by
        simp[frz,YK,g3,OD.toD,TC,sl,OE,Wx ls];rw[cm λx mx=>⟨_,rfl,rfl,by simp[Xs,a4a rs x (hw2 x mx).nu]⟩]
        show(YD (Pa (.lst ((cs.map (Yp rs)).map D.str)) (.lst (p.2.map D.str)))).bind UI=_;rw[nE]
        rfl) (λc4=>?_) λc4=>?_
       ·refine .inr ⟨.non,rfl,.rt rfl (pn ?_)⟩
        rw[em,if_neg (by simpa using c4)]
       ·have c4:cs.map (Yp rs)=p.2:=by simpa using c4
        rw[if_pos c4] at em;have f1:=Xe _ (some (.str "reduce")) (some (.int (k:Int))) (some (.lst (p.2.map D.str))) (some (.int ((row.length - p.2.length:Nat):Int))) em;rw[show(Zy (.node (k:Int) cs)).length=p.2.length from lc] at f1
        have hz:(row.take (row.length - p.2.length)).length+1<=sizeLine:=v7 (show _<=10000 by rw[r9];lia) (by decide)
        have cu:YC (toDs row) (some ((row.length - p.2.length:Nat):Int)) none=toDs cs:=by rw[HU,zw,hc]
        have cv:YC (toDs row) none (some ((row.length - p.2.length:Nat):Int))=toDs (row.take (row.length - p.2.length)):=by rw[O0,vg]
        refine .inl ⟨_,?_,f1⟩;have cat:IF (.lst (toDs (row.take (row.length - p.2.length)))) (.lst [D.tup [.int (k:Int),.lst (toDs cs)]])=.ok (.l (toDs (row.take (row.length - p.2.length)++[.node (k:Int) cs]))):=by
         rw[Eo];exact Wx (by rw[OE];exact hz)
        simp[Uf,unp,TC,cu,cv,cat]
      ·refine RN (Q:=SK _ _ _) true (by
        have g3:(row.length:Int) - (p.2.length:Int)<0:=by lia
        simp[frz,YK,g3]) (λ_=>?_) λc4=>(nomatch c4)
       refine .inr ⟨.non,rfl,.rt rfl (pn ?_)⟩;simp[W9,c2,e,c3]
     | _=>cases c2
    ·refine .inr ⟨.non,rfl,.rt rfl (pn ?_)⟩
     cases gt with
     | str gz =>
      refine if_neg λh=>?_
      have h1:wd="shift":=h.1;rw[show WG (.str _)=true from h.2,decide_eq_true h1] at c1
      cases c1
     | int n =>
      refine if_neg λh=>?_
      have h1:wd="reduce":=h.1;rw[h.2,decide_eq_true h1] at c2;cases c2
     | _=>rfl
 cases q with
 | nx row a b c d e hp =>
  subst e;rw[hp];by_cases c1:row.length=1
  ·obtain ⟨m,rfl⟩:∃ m,row=[m]:=by cases row with | nil=>cases c1 | cons m r=>cases r with | nil=>exact ⟨m,rfl⟩ | cons _ _=>cases c1
   simp[frz,YK,OD.toD,Yv,toDs,CC,Wf];rfl
  ·have:Wf row=none:=by rw [zi,if_neg c1]
   have c2:¬ ((row.length:Int)=1):=by lia
   simp[frz,YK,OD.toD,Yv,OE,CC,c2,this];rfl
 | rt e hp =>
  subst e;rw[hp];rfl
mutual
noncomputable def nn:Md->Nat
 | .leaf _=>0
 | .node _ cs=>1+Q4 cs
noncomputable def Q4:List Md->Nat
 | []=>0
 | c::cs=>nn c+Q4 cs
end
structure SX (rs:List RR):Prop where
 n:rs.length<=20
 ok:∀p∈rs,VU p
theorem Be:∀bs:List Str,toDs (bs.map Md.leaf)=bs.map D.str
 | []=>rfl
 | b::bs=>by simp[toDs,toD,Be bs]
theorem A4:∀bs:List Str,XC (bs.map Md.leaf)=bs.length
 | []=>rfl
 | b::bs=>by simp[XC,sz,A4 bs];lia
theorem A6:∀bs:List Str,VW (bs.map Md.leaf)<=1
 | []=>by simp[VW]
 | b::bs=>by have:=A6 bs;simp only[w9,VW,dp];lia
theorem A5:∀bs:List Str,Q4 (bs.map Md.leaf)=0
 | []=>rfl
 | b::bs=>by simp[Q4,nn,A5 bs]
structure FM (rs:List RR) (m:Md):Prop where
 ok:Ok m
 nu:Nu rs m
 s:sz m<=5
 d:dp m<=2
 n:nn m<=1
def SW (P:D->Prop) (o:Out):Prop:=∃v,o=.rt v/\P v
def CS{m:Nat}{ds:List D}{P:D->Prop} (hl:ds.length=m) (h:SW P (t (ZV n ds))):∃d,Zq n m t ds=.ok d/\P d:=by
 obtain⟨v,e,p⟩:=h;exact⟨v,Sr hl e,p⟩
def RI (G:FD):Prop:=∀rs h,SX rs->ZH h=true->∃d,G [dR rs,.str h]=.ok d/\∃m,d=toD m/\FM rs m
def CB(g:ZH z=true) (gs:∀b∈hs,ZH b=true):KG (.str z) (.lst (hs.map D.str))=.ok (.bl (decide (z∈hs))):=by
 rw[show KG (.str z) (.lst (hs.map D.str))=T5 (.str z) (hs.map D.str) false from Kc false _ _,B1 g gs]
 rfl
def BY(S:Nat->List γ->Rho->Prop) (Q:Out->Prop) (k:Nat) (xs:List γ) (o:Out):Prop:=(∃ρ2,o=.nx ρ2/\S (k+1) xs ρ2)\/∃v,o=.rt v/\Q (.rt v)
inductive SF (rs:List RR) (h:Str) (k:Nat) (xs:List RR) (ρ:Rho):Prop
 | mk (a b c d:Option Sl) (e:ρ=[some (.val (dR rs)),some (.val (.str h)),some (.val (.lst ((rs.map (·.1)).map D.str))),a,b,c,d]) (hx:rs.drop k=xs)
def wP{l xs:List α}{x:α} (h:l.drop k=x::xs):l[k]?=some x/\l.drop (k+1)=xs:=by
 have hk:k<l.length:=Nat.lt_of_not_le λz=>by rw[List.drop_of_length_le z] at h;cases h
 rw[FQ hk] at h;cases h;exact⟨y9 hk,rfl⟩
def M1(h:∀b∈ss,ZH b=true):V1 (.lst (ss.map D.str)) (.lst [])=.ok (.bl (decide (ss=[]))):=by
 unfold V1;have e0:Y2 (.lst [])=.ok (.list []):=Wx (by decide +kernel)
 rw[EF h,e0];show Res.ok (D.bl (PyData.eqvAll (ss.map PyData.str) (([]:List Str).map PyData.str)))=_;rw[GN]
theorem uo (F:Fun K "_law_flat" "_law_flat" JV f fd) (T:Txt P w K mg A):∃G,FnOk P w K mg base Z0 1 f fd ["_law_rules_here","_law_head"] (Zt K G)/\RI G:=by
 refine⟨_,F.okT (k:=0) L5 (λZm Ar outer s H E hr=>Zu (YU L5.nd (DN.de (Tt ["_law_one","_law_body"] [] rfl (Uy (sc:=ZX JV) (N:=["_law_rules_here","_law_head","_law_heads_here","_law_number","_law_one","_law_body","_law_inner"]) (by decide +kernel)) (VS (dv 0)) (OM (n:=2) rfl (U8 (YT (show(["_law_one","_law_body"]:List Str).Nodup by decide +kernel)) (U8 (YT (show(["_law_one","_law_body"]:List Str).Nodup by decide +kernel)) OJ))) Tq (dv 0))))
  (Zu (UA rfl (Bl T.z_enumerate (ZW (dv 0) ZU)) (OM (n:=2) rfl (U8 (YT L5.nd) (U8 (OM (n:=2) rfl (U8 (YT L5.nd) (U8 (YT L5.nd) OJ))) OJ)))
  (Zu (Hd ["_law_symbol_here"] [2] rfl (Uy (sc:=ZX JV) (N:=["_law_rules_here","_law_head","_law_heads_here","_law_number","_law_one","_law_body","_law_inner"]) (by decide +kernel)) L5.nd (VS (dv 5)) (YT (show (["_law_symbol_here","_law_heads_here"]:List Str).Nodup by decide +kernel)) (HE (Xk (T8 (V4 hr)) (dv 0) (dv 1))) (dv 0))
   (Zn (XH (WB (Kg (Xk (Xq (Yj hr)) (dv 4) (dv 1)) (Kb (Xk (Xq (Yj hr)) (dv 6) (W6 ZU))))) (Zn (YL (Z6 (ZW (dv 3) (ZW (DN.de (Lc T.z_list (ZW (dv 5) ZU))) ZU))))) XA))))
  (Zn (YL Yq)))),?_⟩
 intro rs h R gh;have hs:∀b∈rs.map (·.1),ZH b=true:=λb m=>by obtain⟨p,mp,rfl⟩:=u3.mp m;exact(R.ok p mp).gh
 have n20:=R.n;refine CS rfl ?_;refine Vf (Q:=SW _) (.lst ((rs.map (·.1)).map D.str)) (by
  simp[ZV];rw[Wx (Tr (by lia)),Tg rT (λp=>D.str p.1) λp mp=>⟨_,rfl,rfl,rfl⟩]
  simp[OD.toD]) rfl ?_
 refine JP (T:=λo=>SW (λd=>∃m,d=toD m/\FM rs m) o\/∃ρ,o=.nx ρ) ?_ ?_
 ·refine SM (Q:=fun o=>SW (fun d=>∃ m,d=toD m/\FM rs m) o\/∃ ρ,o=.nx ρ) (v:=Vn (rs.map rT)) rfl ?_
  refine Fk rT (SF rs h) (λo=>SW (λd=>∃m,d=toD m/\FM rs m) o\/∃ρ,o=.nx ρ) (λk ρ _=>.inr ⟨ρ,rfl⟩) ?_ rs 0 _ ⟨none,none,none,none,rfl,rfl⟩
  rintro k p xs ρ ⟨a,b,c,d,rfl,hx⟩;obtain⟨ek,hx2⟩:=wP hx;have mp:=ZP ek;have o1:=R.ok p mp;have l4:=o1.l;have hk:=(x0.mp ek).1;refine⟨[some (.val (dR rs)),some (.val (.str h)),some (.val (.lst ((rs.map (·.1)).map D.str))),some (.val (dN k)),some (.val (.str p.1)),some (.val (.tup (p.2.map D.str))),d],rfl,?_⟩
  have gi:∀b∈p.2.filter λb=>decide (b∈rs.map (·.1)),ZH b=true:=λb m=>o1.gs b (List.mem_filter.mp m).1
  show BY (SF rs h) (λo=>SW (λd=>∃m,d=toD m/\FM rs m) o\/∃ρ,o=.nx ρ) k xs _
  refine Vf (Q:=BY _ _ _ _) (OD.l ((p.2.filter λb=>decide (b∈rs.map (·.1))).map D.str)) (by
   simp[-List.map_map];rw[Wx (Tr (by lia)),Ud D.str (λb=>decide (b∈rs.map (·.1))) D.str λb mb=>⟨_,rfl,by simp[Xs,frz,YK,CB (o1.gs b mb) hs,-List.map_map],λ_=>rfl⟩]
   rfl) rfl ?_
  refine IA (Q:=BY _ _ _ _) (decide (p.1=h)&&decide ((p.2.filter λb=>decide (b∈rs.map (·.1)))=[])) (by
   have e1:=Rr (UV o1.gh) (UV gh);have e2:=M1 gi;cases c1:decide (p.1=h)<;>simp[frz,YK,OD.toD,e1,e2,c1]) (λc1=>?_) λc1=>?_
  ·refine .inr ⟨.tup [dN k,.lst (p.2.map D.str)],rfl,.inl ⟨_,rfl,.node (k:Int) (p.2.map Md.leaf),?_,?_⟩⟩
   ·rw[toD,Be]
   ·refine ⟨.node (by lia) (by lia) (by simp;lia) fun x mx=>?_,⟨by lia,by lia⟩,?_,?_,?_⟩
    ·obtain ⟨b,mb,rfl⟩:=u3.mp mx
     exact .leaf (UV (o1.gs b mb)) (Ey (o1.gs b mb))
    ·simp only[sz,A4];lia
    ·have:=A6 p.2;simp only[dp];lia
    ·simp only[nn,A5];lia
  ·exact .inl ⟨_,rfl,_,_,_,_,rfl,hx2⟩
 ·rintro o (⟨v,rfl,z⟩ | ⟨ρ,rfl⟩)
  ·exact⟨v,rfl,z⟩
  ·exact⟨_,rfl,.leaf "end",rfl,⟨.leaf (by decide +kernel) (by decide +kernel),trivial,by simp[sz],by simp[dp],by simp[nn]⟩⟩
section
variable {Q:XN->Prop}
def yy{f:Rho->XN} (h:a=.nx ρ) (k:Q (f ρ)):Q (Vy a f):=by rw[h];exact k
def RM{r:Res α}{ρ2:Rho}{k:α->Out}{f:Rho->XN} (v:α) (h:r=.ok v) (e:k v=.nx ρ2) (q:Q (f ρ2)):Q (Vy (r.go ρ k) f):=by rw[h];exact yy e q
def Db{T:Out->Prop}{f:Rho->XN} (q:T a) (k:∀o,T o->Q (Vy o f)):Q (Vy a f):=k _ q
def Uu {r:Res Bool}{X Y:XN} (b:Bool) (h:r=.ok b) (t:b=true->Q X) (e:b=false->Q Y):Q (r.gm λb=>if b=true then X else Y):=by
 rw[h];cases b with
 | true=>exact t rfl
 | false=>exact e rfl
end
def Yc (d:D) (p:Rho->Prop) (o:XN):Prop:=∃ρ,o=.rm d ρ/\p ρ
def Ou{m:Nat}{t:Rho->XN}{sl s:List Sl}{d:D} (hl:sl.length=m) (h:∀A,Yc d (λρ=>W7 A 0 sl ρ=.ok s) (t (Xr A 0 sl++List.replicate (n - sl.length) none))):gM n m t sl=.ok (d,s):=RU λA=>by
 obtain⟨ρ,e,u⟩:=h A;unfold UR;rw[if_pos hl,e];show(W7 A 0 sl ρ).bind _=_;rw[u];rfl
def Rh (o:OD) (ρ:Rho):WV (some (.own o)::ρ) 0=true:=rfl
def Rg (x:Option Sl) (ρ:Rho) (i:Nat):WV (x::ρ) (i+1)=WV ρ i:=rfl
abbrev GS:=Int×Nat×Int
structure P0 (e:Nat) (s:GS):Prop where
 r:-4*((e:Int)+1)<=s.2.2
 k:(s.2.1:Int)+s.2.2<=100
structure TB (rs:List RR) (e:Nat) (s:GS) (y:Md×GS):Prop where
 ok:Ok y.1
 nu:Nu rs y.1
 d:dp y.1<=e+2
 r1:y.2.2.2+1<=s.2.2
 r2:s.2.2 - 1<=y.2.2.2\/-4*(e:Int)<=y.2.2.2
 k:(y.2.2.1:Int)+y.2.2.2<=s.2.1+s.2.2
 n:(nn y.1:Int)+y.2.2.2<=s.2.2
 z:(sz y.1:Int)+5*y.2.2.2<=5*s.2.2
noncomputable def YV (Gr:Str->GS->Md×GS):List Str->GS->List Md×GS
 | [],s=>([],s)
 | b::bs,s=>((Gr b s).1::(YV Gr bs (Gr b s).2).1,(YV Gr bs (Gr b s).2).2)
structure LP (bs:List Str) (e:Nat) (s:GS) (y:List Md×GS):Prop where
 ok:∀m∈y.1,Ok m
 d:VW y.1<=e+2
 l:y.1.length=bs.length
 r1:y.2.2.2<=s.2.2
 r2:-4*((e:Int)+1)<=y.2.2.2
 k:(y.2.2.1:Int)+y.2.2.2<=s.2.1+s.2.2
 n:(Q4 y.1:Int)+y.2.2.2<=s.2.2
 z:(XC y.1:Int)+5*y.2.2.2<=5*s.2.2
theorem Bb{rs:List RR}{Gr:Str->GS->Md×GS}:∀(bs:List Str) (s:GS),(∀b∈bs,∀s,P0 e s->TB rs e s (Gr b s))->bs.length<=4->-4*((e:Int)+1)+bs.length<=s.2.2->(s.2.1:Int)+s.2.2<=100->LP bs e s (YV Gr bs s)
 | [],s,_,_,h1,h2=>⟨λm h=>(nomatch h),by simp[YV,VW],rfl,Int.le_refl _,by simp only[List.length_nil] at h1;show _<=s.2.2;lia,Int.le_refl _,by simp[YV,Q4],by simp[YV,XC]⟩
 | b::bs,s,h,hl,h1,h2=>by
  simp only[u6] at hl h1;obtain⟨p1,p2,p3,p4,p5,p6,p7,p8⟩:=h b z6 s ⟨by lia,h2⟩
  obtain⟨q1,q2,q3,q4,q5,q6,q7,q8⟩:=Bb bs (Gr b s).2 (λx m=>h x (z5 _ m)) (by lia) (by lia) (by lia)
  refine⟨λm hm=>?_,?_,?_,?_,?_,?_,?_,?_⟩
  ·rcases y0.mp hm with rfl | hm
   ·exact p1
   ·exact q1 m hm
  ·simp only[YV,VW];lia
  ·simp only[YV,u6];lia
  ·simp only[YV];lia
  ·simp only[YV];lia
  ·simp only[YV];lia
  ·simp only[YV,Q4];lia
  ·simp only[YV,XC];lia
def Kx (d:Nat) (G:List Sl->Res (D×List Sl)):Prop:=∀rs sy (c:Int) (e:Nat) (s:GS),SX rs->ZH sy=true->e<d->P0 e s->∃y:Md×GS,TB rs e s y /\
 G [.val (dR rs),.val (.str sy),.own (X8 s.1 c s.2.1),.val (dN e),.own (.l [.int s.2.2])]=.ok (toD y.1,[.val (dR rs),.val (.str sy),.own (X8 y.2.1 c y.2.2.1),.val (dN e),.own (.l [.int y.2.2.2])])
theorem Oq:∀ns:List Nat,D.pys (ns.map dN)=some (ns.map λn:Nat=>PyData.int (n:Int))
 | []=>rfl
 | n::ns=>by simp[D.pys,D.py,Oq ns]
theorem Od:∀ns:List Nat,PyData.canLayAll0 (ns.map λn:Nat=>PyData.int (n:Int))=true
 | []=>rfl
 | n::ns=>by simp[PyData.canLayAll0,PyData.canLay0,Od ns]
theorem O1:∀ns:List Nat,PyData.depthAll (ns.map λn:Nat=>PyData.int (n:Int))<=1
 | []=>by simp[PyData.depthAll]
 | n::ns=>by have:=O1 ns;simp[PyData.depthAll,PyData.depth];lia
theorem xU (ns:List Nat):V1 (.lst (ns.map dN)) (.lst [])=.ok (.bl (decide (ns=[]))):=by
 have e:(D.lst (ns.map dN)).py=some (.list (ns.map λn:Nat=>PyData.int (n:Int))):=by simp[D.py,Oq]
 have s:SeqAt.shaped (.list (ns.map λn:Nat=>PyData.int (n:Int)))=true:=by
  have d:=O1 ns;simp[SeqAt.shaped,PyData.canLay0,Od,PyData.depth];lia
 have c:Y2 (.lst (ns.map dN))=.ok (.list (ns.map λn:Nat=>PyData.int (n:Int))):=by
  unfold Y2;rw[e];simp[s]
 have e0:Y2 (.lst [])=.ok (.list []):=Wx (by decide +kernel)
 unfold V1;rw[c,e0];cases ns<;>rfl
noncomputable def W3 (rs:List RR) (sy:Str):List Nat:=(List.range rs.length).filter λk=>decide ((rs.map (·.1))[k]?=some sy)
def JE{rs:List RR}{sy:Str} (h:k∈W3 rs sy):k<rs.length:=NL.mp (List.mem_filter.mp h).1
noncomputable abbrev CI (A:Nat->Addr) (rs:List RR) (sy:Str) (c:Int) (e:Nat) (a:Int) (k:Nat) (r:Int):Rho:=[some (.val (dR rs)),some (.val (.str sy)),some (.own (.p (A 2) (X8 a c k))),some (.val (dN e)),some (.own (.p (A 4) (.l [.int r]))),some (.val (.lst ((rs.map (·.1)).map D.str))),some (.val (.lst ((W3 rs sy).map dN))),none,none,none]
noncomputable abbrev TK (A:Nat->Addr) (rs:List RR) (sy:Str) (c:Int) (e:Nat) (s:GS) (u v:D) (n:Nat) (cs:List Md) (x:Option Sl):Rho:=[some (.val (dR rs)),some (.val (.str sy)),some (.own (.p (A 2) (X8 s.1 c s.2.1))),some (.val (dN e)),some (.own (.p (A 4) (.l [.int s.2.2]))),some (.val u),some (.val v),some (.val (dN n)),some (.own (.l (toDs cs))),x]
theorem Bh{g:D->Rho->Res Rho}{A:Nat->Addr}{rs:List RR}{sy:Str}{c:Int}{e1:Nat}{u v:D}{Gr:Str->GS->Md×GS} (hg:∀d s cs x,g d (TK A rs sy c e s u v n cs x)=.ok (TK A rs sy c e s u v n cs (some (.val d)))) :
  ∀(bs:List Str) (s:GS) (cs:List Md) (x:Option Sl),(∀b∈bs,∀s,P0 e1 s->TB rs e1 s (Gr b s))->(∀b∈bs,∀s cs,P0 e1 s->cs.length<=900->tb (TK A rs sy c e s u v n cs (some (.val (.str b))))=.nx (TK A rs sy c e (Gr b s).2 u v n (cs++[(Gr b s).1]) (some (.val (.str b))))) ->
   bs.length<=4->-4*((e1:Int)+1)+bs.length<=s.2.2->(s.2.1:Int)+s.2.2<=100->cs.length+bs.length<=900->∃x',Yn g tb (bs.map D.str) (TK A rs sy c e s u v n cs x)=.nx (TK A rs sy c e (YV Gr bs s).2 u v n (cs++(YV Gr bs s).1) x')
 | [],s,cs,x,_,_,_,_,_,_=>⟨x,by simp[Yn,YV]⟩
 | b::bs,s,cs,x,h,ht,hl,h1,h2,h3=>by
  simp only[u6] at hl h1 h3;have pr:P0 e1 s:=⟨by lia,h2⟩
  obtain⟨p1,p2,p3,p4,p5,p6,p7,p8⟩:=h b z6 s pr;obtain⟨x',ih⟩:=Bh hg bs (Gr b s).2 (cs++[(Gr b s).1]) (some (.val (.str b))) (λx m=>h x (z5 _ m)) (λx m=>ht x (z5 _ m)) (by lia) (by lia) (by lia) (by simp;lia)
  refine⟨x',?_⟩;rw[w9,Yn,hg,R9,go_ok,ht b z6 s cs pr (by lia)]
  show Yn g tb (bs.map D.str) _=_;rw[ih];simp[YV]
def J0 (n:Nat):Y6 0 n=(List.range n).map dN:=by
 unfold Y6;refine List.map_congr_left λi _=>?_
 rw[Int.zero_add]
def TX (A:Nat->Addr) (rs:List RR) (sy:Str) (c:Int) (e:Nat) (s:GS) (n:Nat) (cs:List Md) (o:Out):Prop:=∃x',o=.nx (TK A rs sy c e s (.lst ((rs.map (·.1)).map D.str)) (.lst ((W3 rs sy).map dN)) n cs x')
noncomputable instance:Inhabited Md:=⟨.leaf ""⟩
theorem M2{rs:List RR}{sy:Str} (c:Int) {s:GS} (he:e<=d) (R:SX rs) (gs:ZH sy=true) (pre:P0 e s) {g_law_expanded g_law_draw:List Sl->Res (D×List Sl)} (a6t:Kx d g_law_expanded) (a2w:RF g_law_draw) (a6r:RI a2b):∃y:Md×GS,TB rs e s y/\((W3 rs sy=[]/\y=(.leaf sy,s.1,s.2.1,s.2.2 - 1))\/(W3 rs sy≠[]/\(e=0\/s.2.2 - 1<1)/\y.2=(s.1,s.2.1,s.2.2 - 1)/\a2b [dR rs,.str sy]=.ok (toD y.1)) \/
   (W3 rs sy≠[]/\e≠0/\¬ s.2.2 - 1<1/\∃ (m1:Nat) (a1:Int) (num:Nat) (p:RR) (Gr:Str->GS->Md×GS),m1<(W3 rs sy).length/\(W3 rs sy)[m1]?=some num/\rs[num]?=some p/\g_law_draw [.own (X8 s.1 c s.2.1),.val (dN (W3 rs sy).length)]=.ok (dN m1,[.own (X8 a1 c (s.2.1+1)),.val (dN (W3 rs sy).length)]) /\
    (∀b∈p.2,∀s,P0 (e - 1) s->TB rs (e - 1) s (Gr b s)/\g_law_expanded [.val (dR rs),.val (.str b),.own (X8 s.1 c s.2.1),.val (dN (e - 1)),.own (.l [.int s.2.2])]=.ok (toD (Gr b s).1,[.val (dR rs),.val (.str b),.own (X8 (Gr b s).2.1 c (Gr b s).2.2.1),.val (dN (e - 1)),.own (.l [.int (Gr b s).2.2.2])])) /\
    y=(.node num (YV Gr p.2 (a1,s.2.1+1,s.2.2 - 1)).1,(YV Gr p.2 (a1,s.2.1+1,s.2.2 - 1)).2))):=by
 have n20:=R.n;have pr:=pre.r;have pk:=pre.k;by_cases c0:W3 rs sy=[]
 ·refine⟨(.leaf sy,s.1,s.2.1,s.2.2 - 1),⟨.leaf (UV gs) (Ey gs),trivial,by simp[dp],by dsimp only;lia,.inl (by dsimp only;lia),by dsimp only;lia,by simp only[nn];lia,by simp only[sz];lia⟩,.inl ⟨c0,rfl⟩⟩
 by_cases c1:e=0\/s.2.2 - 1<1
 ·obtain ⟨d0,ef,m,rfl,f1,f2,f3,f4,f5⟩:=a6r rs sy R gs
  refine⟨(m,s.1,s.2.1,s.2.2 - 1),⟨f1,f2,by dsimp only;lia,by dsimp only;lia,.inl (by dsimp only;lia),by dsimp only;lia,by dsimp only;lia,by dsimp only;lia⟩,.inr (.inl ⟨c0,c1,rfl,ef⟩)⟩
 ·have c2:e≠0:=fun z=>c1 (.inl z)
  have c3:¬ s.2.2 - 1<1:=λz=>c1 (.inr z)
  have hl:0<(W3 rs sy).length:=List.length_pos_iff.mpr c0;have hl2:(W3 rs sy).length<=20:=v7 (List.length_filter_le _ _) (by simp;lia)
  obtain⟨m1,a1,hm1,ed⟩:=a2w s.1 c s.2.1 (W3 rs sy).length hl (by lia) (by lia)
  have en:(W3 rs sy)[m1]?=some (W3 rs sy)[m1]:=y9 hm1;have hn:=JE (t7 hm1);have ep:rs[(W3 rs sy)[m1]]?=some rs[(W3 rs sy)[m1]]:=y9 hn;generalize (W3 rs sy)[m1]=num at en hn ep;generalize rs[num]=p at ep;have o1:=R.ok p (ZP ep);have l4:=o1.l;obtain⟨Gr,hG⟩:=Nd (α:=Str×GS) (β:=Md×GS) (P:=λz=>z.1∈p.2/\P0 (e - 1) z.2) (Q:=λz y=>TB rs (e - 1) z.2 y/\g_law_expanded [.val (dR rs),.val (.str z.1),.own (X8 z.2.1 c z.2.2.1),.val (dN (e - 1)),.own (.l [.int z.2.2.2])]=.ok (toD y.1,[.val (dR rs),.val (.str z.1),.own (X8 y.2.1 c y.2.2.1),.val (dN (e - 1)),.own (.l [.int y.2.2.2])])) (λz hz=>a6t rs z.1 c (e - 1) z.2 R (o1.gs z.1 hz.1) (by lia) hz.2)
  have hG2:∀b∈p.2,∀s,P0 (e - 1) s->TB rs (e - 1) s (Gr (b,s)):=λb mb s hp=>(hG (b,s) ⟨mb,hp⟩).1
  obtain⟨q1,q2,q3,q4,q5,q6,q7,q8⟩:=Bb (Gr:=λb s=>Gr (b,s)) p.2 (a1,s.2.1+1,s.2.2 - 1) hG2 l4 (by dsimp only;lia) (by dsimp only;lia)
  dsimp only at q4 q6 q7 q8;refine⟨(.node num (YV (λb s=>Gr (b,s)) p.2 (a1,s.2.1+1,s.2.2 - 1)).1,(YV (λb s=>Gr (b,s)) p.2 (a1,s.2.1+1,s.2.2 - 1)).2),⟨.node (by lia) (by lia) (by lia) q1,⟨by lia,by lia⟩,by simp only[dp];lia,by dsimp only;lia,.inr (by dsimp only;lia),by dsimp only;lia,by simp only[nn];lia,by simp only[sz];lia⟩,.inr (.inr ⟨c0,c2,c3,m1,a1,num,p,λb s=>Gr (b,s),hm1,en,ep,ed,λb mb s hp=>hG (b,s) ⟨mb,hp⟩,rfl⟩)⟩
def QO{rs:List RR}{sy:Str}{g:D->Rho->Res Rho} (hs:∀b∈rs.map (·.1),ZH b=true) (gs:ZH sy=true) (h:∀k:Nat,∃ρ1,g (dN k) ρ=.ok ρ1/\fT (frz ρ1)=((YD (Xi (.lst ((rs.map (·.1)).map D.str)) (dN k))).bind λx=>(YD (V1 x (.str sy))).bind UI)/\fe ρ1=.ok (dN k)) :
  YH g fT fe ρ (Y6 0 rs.length)=.ok ((W3 rs sy).map dN):=by
 rw[J0,Ud dN (λk=>decide ((rs.map (·.1))[k]?=some sy)) dN λk mk=>?_]
 ·rfl
 ·obtain ⟨ρ1,h1,h2,h3⟩:=h k
  refine⟨ρ1,h1,?_,λ_=>h3⟩
  have hk:k<(rs.map (·.1)).length:=by simpa using mk
  have ek:(rs.map (·.1))[k]?=some (rs.map (·.1))[k]:=y9 hk
  have i1:Xi (.lst ((rs.map (·.1)).map D.str)) (dN k)=.ok (.str (rs.map (·.1))[k]):=NA ek
  have e1:=Rr (UV (hs _ (t7 hk))) (UV gs);rw[h2,i1,ek];generalize (rs.map (·.1))[k]=z at *
  show(YD (V1 (.str z) (.str sy))).bind UI=_;rw[e1];simp
@[simp] theorem KN (x:Option Sl) (ρ:Rho) (i:Nat):TL (x::ρ) (i+1)=TL ρ i:=rfl
@[simp] theorem Cq (a:Addr) (ds:List D) (ρ:Rho):TL (some (.own (.p a (.l ds)))::ρ) 0=.ok (a,ds):=rfl
theorem sD(h3:3<=k)  (a3c:Callee P w K mg base 1 "_law_flat" ["_law_rules_here","_law_head"] (Zt K a2b)) {g_law_draw:List Sl->Res (D×List Sl)} (a0f:Callee P w K mg base 2 "_law_draw" ["_law_left","_law_many"] (Uv K g_law_draw)) {g_law_expanded:List Sl->Res (D×List Sl)} (a0k:Callee P w K mg base k "_law_expanded" ["_law_rules_here","_law_symbol_here","_law_left","_law_deep","_law_room"] (Uv K g_law_expanded))  (a6t:Kx d g_law_expanded) (a2w:RF g_law_draw) (a6r:RI a2b) (F:Fun K "_law_expanded" "_law_expanded" JR f fd) (T:Txt P w K mg A):∃G,FnOk P w K mg base Z0 (k+1) f fd ["_law_rules_here","_law_symbol_here","_law_left","_law_deep","_law_room"] (Uv K G)/\Kx (d+1) G:=by
 refine⟨_,F.okM (k:=k) KZ (λZm Ar outer s H E hr=>U9 (YU KZ.nd (DN.de (Tt ["_law_head","_law_body"] [] rfl (Uy (sc:=ZX JR) (N:=["_law_rules_here","_law_symbol_here","_law_left","_law_deep","_law_room","_law_heads_here","_law_some","_law_number","_law_children","_law_one"]) (by decide +kernel)) (VS (dv 0)) (OM (n:=2) rfl (U8 (YT (show(["_law_head","_law_body"]:List Str).Nodup by decide +kernel)) (U8 (YT (show(["_law_head","_law_body"]:List Str).Nodup by decide +kernel)) OJ))) Tq (dv 0))))
  (U9 (Hd ["_law_k"] [1,5] rfl (Uy (sc:=ZX JR) (N:=["_law_rules_here","_law_symbol_here","_law_left","_law_deep","_law_room","_law_heads_here","_law_some","_law_number","_law_children","_law_one"]) (by decide +kernel)) KZ.nd (L3 T.z_range (ZW (Yh X3 T.z_len (by decide +kernel) (ZW (dv 0) ZU)) ZU)) (YT (show(["_law_k","_law_symbol_here","_law_heads_here"]:List Str).Nodup by decide +kernel)) (HE (Xk (Xq (Yj hr)) (ZA ZD (dv 2) (dv 0)) (dv 1))) (dv 0))
  (U9 (ED 4 ZT (ZC Nz (ZA ZD (dv 4) ZT) ZT))
  (OO (Xk (Xq (Yj hr)) (dv 6) (W6 ZU)) (Sz (WO (xq:=XW) (dv 1)))
  (OO (WB (Tu (Xk (Xq (Yj hr)) (dv 3) ZT) (SV (Xk Uk (ZA ZD (dv 4) ZT) ZT)))) (Sz (WO (xq:=XW) (Zz a3c (hk:=by lia) hr (ZW (dv 0) (ZW (dv 1) ZU)))))
  (U9 (SE KZ.nd (SJ ZD (WO (xq:=XW) (dv 6)) (UY a0f (hk:=by lia) hr (SA 2 (Vj (WO (xq:=XW) (Yh X3 T.z_len (by decide +kernel) (ZW (dv 6) ZU))) Rz)))))
  (U9 (Uz KZ.nd (Tp ZU))
  (U9 (UA rfl (VS (ZA ZD (ZA ZD (dv 0) (dv 7)) ZT)) (YT KZ.nd)
  (Zn (Ph 8 (UY a0k (hk:=by lia) hr (Vj (WO (xq:=XW) (dv 0)) (Vj (WO (xq:=XW) (dv 9)) (SA 2 (Vj (WO (xq:=XW) (ZC Nz (dv 3) ZT)) (SA 4 Rz)))))))))
  (LX 8 (Sz (WO (xq:=XW) (Z6 (ZW (dv 7) (ZW (dv 8) ZU)))))))))))))),?_⟩
 intro rs sy c e s R gs he pre;have n20:=R.n;have hs:∀b∈rs.map (·.1),ZH b=true:=λb m=>by obtain⟨p,mp,rfl⟩:=u3.mp m;exact(R.ok p mp).gh
 obtain⟨y,post,hc⟩:=M2 c (Nat.lt_succ_iff.mp he) R gs pre a6t a2w a6r;refine⟨y,post,Ou rfl λA=>?_⟩
 refine RM (Q:=Yc _ _) (.lst ((rs.map (·.1)).map D.str)) (by
  simp[Xr];rw[Wx (Tr (by lia)),Tg rT (λp=>D.str p.1) λp mp=>⟨_,rfl,rfl,rfl⟩]
  simp[OD.toD]) rfl ?_
 refine RM (Q:=Yc _ _) (OD.l ((W3 rs sy).map dN)) (by
  have rg:TN [.int (rs.length:Int)]=.ok (Y6 0 rs.length):=Ln (by lia)
  simp[Xr,Yv,rg,-List.map_map,-WX,-Res.bind_ok,-L2.go_ok,-Out.then_nx,Zf,WR,Zg];rw[Wx (Tr (by rw[Ae];lia)),QO hs gs λk=>⟨_,rfl,by simp[Xs,frz,YK,-List.map_map],rfl⟩]
  rfl) rfl ?_
 have sb:RS (.int s.2.2) (.int 1)=.ok (.int (s.2.2 - 1)):=rfl;refine yy (Q:=Yc _ _) (ρ:=CI A rs sy c e s.1 s.2.1 (s.2.2 - 1)) (by
  simp[Xr,Rb,sb,TV,T7,WQ,V2,OD.toD,-WX,-List.map_map]) ?_
 have e0:V1 (.lst ((W3 rs sy).map dN)) (.lst [])=.ok (.bl (decide (W3 rs sy=[]))):=xU _;refine Uu (Q:=Yc _ _) (decide (W3 rs sy=[])) (by simp[frz,YK,e0,-List.map_map]) (λz=>?_) λz=>?_
 ·have z:=YS z
  rcases hc with⟨_,rfl⟩|⟨h,_⟩|⟨h,_⟩
  ·exact⟨_,rfl,by simp[W7]⟩
  ·exact absurd z h
  ·exact absurd z h
 ·have z:=of_decide_eq_false z
  refine Uu (Q:=Yc _ _) (decide (e=0)||decide (s.2.2 - 1<1)) (by
   have q0:V1 (dN e) (.int 0)=.ok (.bl (decide (e=0))):=by rw[O5];simp
   cases c1:decide (e=0)<;>simp[frz,YK,OD.toD,Rb,q0,c1,-List.map_map]) (λz2=>?_) λz2=>?_
  ·rcases hc with ⟨h,_⟩ | ⟨_,h2,h3,h4⟩ | ⟨_,h2,h3,_⟩
   ·exact absurd h z
   ·obtain ⟨m,y2⟩:=y
    cases h3;simp only at h4;exact⟨CI A rs sy c e s.1 s.2.1 (s.2.2 - 1),by simp[h4,-List.map_map],by simp[W7]⟩
   ·simp at z2
    lia
  ·simp at z2
   rcases hc with⟨h,_⟩|⟨_,h2,_,_⟩|⟨_,h2,h3,m1,a1,num,p,Gr,hm,en,ep,ed,hG,rfl⟩
   ·exact absurd h z
   ·lia
   ·have o1:=R.ok p (ZP ep)
    have l4:=o1.l;have hl2:(W3 rs sy).length<=20:=v7 (List.length_filter_le _ _) (by simp;lia)
    have i1:Xi (.lst ((W3 rs sy).map dN)) (dN m1)=.ok (dN num):=NA en;have i2:Xi (dR rs) (dN num)=.ok (rT p):=NA ep;have i3:Xi (rT p) (.int 1)=.ok (.tup (p.2.map D.str)):=rfl;refine RM (Q:=Yc _ _) (dN num,CI A rs sy c e a1 (s.2.1+1) (s.2.2 - 1)) (by
     simp[Rh,Rg,Wn,ZK,W8,unp,Yo,W1,Yv,ed,i1,-List.map_map,-WX,-Res.bind_ok,-L2.go_ok,-Out.then_nx,Zf,WR,Zg]) rfl ?_
    refine RM (Q:=Yc _ _) (OD.l []) rfl rfl ?_;refine Db (T:=TX A rs sy c e (YV Gr p.2 (a1,s.2.1+1,s.2.2 - 1)).2 num (YV Gr p.2 (a1,s.2.1+1,s.2.2 - 1)).1) ?_ ?_
    ·refine SM (Q:=TX A rs sy c e (YV Gr p.2 (a1,s.2.1+1,s.2.2 - 1)).2 num (YV Gr p.2 (a1,s.2.1+1,s.2.2 - 1)).1) (v:=p.2.map D.str) (by simp [i2,i3,-List.map_map]) ?_
     have pr:=pre.r;have pk:=pre.k;refine Bh (e1:=e - 1) (λd s cs x=>rfl) p.2 (a1,s.2.1+1,s.2.2 - 1) [] none (λb mb s hp=>(hG b mb s hp).1) (λb mb s2 cs hp hcs=>?_) l4 (by dsimp only;lia) (by dsimp only;lia) (by simp;lia)
     obtain⟨_,eg⟩:=hG b mb s2 hp;have sb2:RS (dN e) (.int 1)=.ok (dN (e - 1)):=by
      show Res.ok (D.int ((e:Int) - 1))=Res.ok (D.int ((e - 1:Nat):Int));congr 2;lia
     have hz:cs.length<sizeLine:=RB hcs (by decide)
     simp[Rh,Rg,Wn,ZK,W8,unp,Yo,W1,sb2,eg,OE,hz,-List.map_map,-WX,-Res.bind_ok,-L2.go_ok,-Out.then_nx,Zf,WR,Zg];rw[Eo];rfl
    ·rintro o ⟨x',rfl⟩
     exact⟨[some (.val (dR rs)),some (.val (.str sy)),some (.own (.p (A 2) (X8 (YV Gr p.2 (a1,s.2.1+1,s.2.2 - 1)).2.1 c (YV Gr p.2 (a1,s.2.1+1,s.2.2 - 1)).2.2.1))),some (.val (dN e)),some (.own (.p (A 4) (.l [.int (YV Gr p.2 (a1,s.2.1+1,s.2.2 - 1)).2.2.2]))),some (.val (.lst ((rs.map (·.1)).map D.str))),some (.val (.lst ((W3 rs sy).map dN))),some (.val (dN num)),some (.val (.lst (toDs (YV Gr p.2 (a1,s.2.1+1,s.2.2 - 1)).1))),x'],rfl,by simp[W7]⟩
noncomputable def VN (qs:List Sg):Nat:=qs.countP λq=>decide (q.1=("reduce":Str))
structure yn (qs r:List Sg):Prop where
 g:∀q∈r,Gq q
 l:r.length<=qs.length+1
 d:VN r<=VN qs+1
noncomputable def QP (p wy:Nat) (fr:Sg) (qs:List Sg):List Sg :=
 if wy=0 then qs.take p++qs.drop (p+1) else if wy=1 then qs.take (p+1)++qs.drop p else if wy=2 then qs.take p++((qs.drop p).take 2).reverse++qs.drop (p+2) else if wy=3 then qs.take p
 else if wy=4 then qs.take p++[fr]++qs.drop p else qs.take p++[fr]++qs.drop (p+1)
def SS (a b:List Sg):VN (a++b)=VN a+VN b:=List.countP_append ..
def Ht (l:List Sg) (n:Nat):VN (l.take n)+VN (l.drop n)=VN l:=by rw[<- SS,List.take_append_drop]
def BV (l:List Sg):VN l<=l.length:=List.countP_le_length
theorem Nh(wy:Nat) {fr:Sg}{qs:List Sg} (g:Gq fr) (h:∀q∈qs,Gq q):yn qs (QP p wy fr qs):=by
 have tk:∀n,∀q∈qs.take n,Gq q:=λn q m=>h q (Lr m)
 have dr:∀n,∀q∈qs.drop n,Gq q:=λn q m=>h q (NK m)
 have ap:∀{a b:List Sg},(∀q∈a,Gq q)->(∀q∈b,Gq q)->∀q∈a++b,Gq q:=λha hb q m=>(u9.mp m).elim (ha q) (hb q)
 have fg:∀q∈[fr],Gq q:=λq m=>by rw[v8.mp m];exact g
 have r0:=Ht qs p;have r1:=Ht qs (p+1);have r2:=Ht (qs.drop p) 1;have r3:=Ht (qs.drop p) 2;rw[List.drop_drop] at r2 r3;have r4:=BV ((qs.drop p).take 1);have r5:=BV [fr];have r6:VN ((qs.drop p).take 2).reverse=VN ((qs.drop p).take 2):=List.countP_reverse;rw[r9] at r4;rw[List.length_singleton] at r5;unfold QP;by_cases c0:wy=0
 ·rw[if_pos c0];exact⟨ap (tk _) (dr _),by simp;lia,by rw[SS];lia⟩
 rw[if_neg c0];by_cases c1:wy=1
 ·rw[if_pos c1];exact⟨ap (tk _) (dr _),by simp;lia,by rw[SS];lia⟩
 rw[if_neg c1];by_cases c2:wy=2
 ·rw[if_pos c2];exact⟨ap (ap (tk _) λq m=>dr p q (Lr (List.mem_reverse.mp m))) (dr _),by simp;lia,by rw[SS,SS];lia⟩
 rw[if_neg c2];by_cases c3:wy=3
 ·rw[if_pos c3];exact⟨tk _,by simp;lia,by lia⟩
 rw[if_neg c3];by_cases c4:wy=4
 ·rw[if_pos c4];exact⟨ap (ap (tk _) fg) (dr _),by simp;lia,by rw[SS,SS];lia⟩
 rw[if_neg c4];exact⟨ap (ap (tk _) fg) (dr _),by simp;lia,by rw[SS,SS];lia⟩
noncomputable def KD:List Str:=["reduce","shift","reduce","shift","shift","go","reduce","reduce","shift","reduce"]
noncomputable def Iq (n:Nat) (h:Str):List D:=[dN n,.str "a",.bl true,.str h,.str "",.int 0,.non,.int (-1),.str "abcdefg",.str "0"]
theorem xx (n:Nat) {h:Str} (gh:ZH h=true):∀{k:Nat},k<10->∃fr:Sg,Xi (.lst (KD.map D.str)) (dN k)=.ok (.str fr.1)/\Xi (.lst (Iq n h)) (dN k)=.ok fr.2/\Gq fr:=λ{k} hk=>by
 have:k=0\/k=1\/k=2\/k=3\/k=4\/k=5\/k=6\/k=7\/k=8\/k=9:=by lia
 rcases this with rfl|rfl|rfl|rfl|rfl|rfl|rfl|rfl|rfl|rfl<;>exact⟨(_,_),rfl,rfl,by dsimp only;decide +kernel,by first|exact .int _|exact .str (by decide +kernel)|exact .str gh|exact .bl _|exact .non⟩
noncomputable def Nf (b:Bool) (qs:List Sg):Sl:=if b=true then .own (.l (qs.map Zj)) else .val (.lst (qs.map Zj))
def ym (G:List Sl->Res (D×List Sl)):Prop:=∀(b:Bool) rs qs (a c:Int) (k:Nat),SX rs->rs≠[]->(∀q∈qs,Gq q)->0<qs.length->qs.length<=900->k+4<=900->∃(r:List Sg) (a2:Int) (k2:Nat),G [Nf b qs,.val (dR rs),.own (X8 a c k)]=.ok (.lst (r.map Zj),[Nf b qs,.val (dR rs),.own (X8 a2 c k2)])/\yn qs r/\k2<=k+4
structure rl (A:Nat->Addr) (b:Bool) (qs:List Sg) (S:Option Sl):Prop where
 p:∀ls,Xr A 0 (Nf b qs::ls)=S::Xr A 1 ls
 g:∀ρ,Uf (S::ρ) 0=.ok (qs.map Zj)
 f:Option.map YK S=some (.val (.lst (qs.map Zj)))
 u:∀ls ρ,W7 A 0 (Nf b qs::ls) (S::ρ)=(W7 A 1 ls (S::ρ)).bind λr=>.ok (Nf b qs::r)
def CV (A:Nat->Addr) (b:Bool) (qs:List Sg):∃S,rl A b qs S:=by
 cases b with
 | false=>exact⟨some (.val (.lst (qs.map Zj))),λ_=>rfl,λ_=>rfl,rfl,λls ρ=>by simp[Nf,W7]⟩
 | true=>exact⟨some (.own (.p (A 0) (.l (qs.map Zj)))),λ_=>rfl,λ_=>rfl,rfl,λls ρ=>by simp[Nf,W7]⟩
theorem xZ(xs:List α) (p:Nat) (h:p<=xs.length):YC xs (some (p:Int)) (some ((p+2:Nat):Int))=(xs.drop p).take 2:=by
 unfold YC;rw[HT.sIx_nat,HT.sIx_nat,Nat.min_eq_left h];by_cases c:p+2<=xs.length
 ·rw[Nat.min_eq_left c];congr 1;lia
 ·rw[Nat.min_eq_right (by lia),YM (by simp),YM (by simp;lia)]
def TY {d:List Sg} (p:Nat):YC (d.map Zj) none (some (p:Int))=(d.take p).map Zj:=by rw[O0,List.map_take]
def TW {d:List Sg} (p:Nat):YC (d.map Zj) (some (p:Int)) none=(d.drop p).map Zj:=by rw[HU,List.map_drop]
def JD {d:List Sg} (p:Nat):YC (d.map Zj) none (some ((p:Int)+1))=(d.take (p+1)).map Zj:=TY (p+1)
def Ov {d:List Sg} (p:Nat):YC (d.map Zj) (some ((p:Int)+1)) none=(d.drop (p+1)).map Zj:=TW (p+1)
def JC {d:List Sg} (p:Nat):YC (d.map Zj) (some ((p:Int)+2)) none=(d.drop (p+2)).map Zj:=TW (p+2)
def ND (a b:List Sg) (h:a.length+b.length<=20000):VD (.lst (a.map Zj)) (.lst (b.map Zj))=.ok (.lst ((a++b).map Zj)):=by rw[FJ (by simp;exact h),OU]
def LD (p:Nat):VD (dN p) (.int 1)=.ok (dN (p+1)):=rfl
def Iw (p:Nat):VD (dN p) (.int 2)=.ok (dN (p+2)):=rfl
theorem tu {g_law_draw:List Sl->Res (D×List Sl)} (a0f:Callee P w K mg base 2 "_law_draw" ["_law_left","_law_many"] (Uv K g_law_draw)) (a2w:RF g_law_draw) (F:Fun K "_law_spoilt" "_law_spoilt" Dt f fd) (T:Txt P w K mg A):∃G,FnOk P w K mg base Z0 3 f fd ["_law_steps_here","_law_rules_here","_law_left"] (Uv K G)/\ym G:=by
 refine⟨_,F.okM (k:=2) OA (λZm Ar outer s H E hr=>U9 (SE OA.nd (UY a0f hr (SA 2 (Vj (WO (xq:=XW) (DE.flat (Yh X3 T.z_len (by decide +kernel) (ZW (dv 0) ZU)))) Rz))))
  (U9 (SE OA.nd (UY a0f hr (SA 2 (Vj (WO (xq:=XW) ZT) Rz))))
  (OO (Xk (Xq (Yj hr)) (dv 4) ZT) (Sz (WO (xq:=XW) (ZC Ww (Tv 0 Ux (Vk (dv 3))) (Tv 0 (Vk (ZC Ww (dv 3) ZT)) Ux))))
  (OO (Xk (Xq (Yj hr)) (dv 4) ZT) (Sz (WO (xq:=XW) (ZC Ww (Tv 0 Ux (Vk (ZC Ww (dv 3) ZT))) (Tv 0 (Vk (dv 3)) Ux))))
  (OO (Xk (Xq (Yj hr)) (dv 4) ZT) (U9 (YU OA.nd (DN.de (BD rfl T.z_list T.z_reversed (ZW (Tv 0 (Vk (dv 3)) (Vk (ZC Ww (dv 3) ZT))) ZU))))
   (Sz (WO (xq:=XW) (ZC Ww (ZC Ww (Tv 0 Ux (Vk (dv 3))) (dv 5)) (Tv 0 (Vk (ZC Ww (dv 3) ZT)) Ux)))))
  (OO (Xk (Xq (Yj hr)) (dv 4) ZT) (Sz (WO (xq:=XW) (Tv 0 Ux (Vk (dv 3)))))
  (U9 (YU OA.nd (W6 (ZW Yq (ZW Yq (ZW Yq (ZW Yq (ZW Yq (ZW Yq (ZW Yq (ZW Yq (ZW Yq (ZW Yq ZU))))))))))))
  (U9 (SE OA.nd (DXN.de (NH (Vj (UY a0f hr (SA 2 (Vj (WO (xq:=XW) ZT) Rz))) (Vj (WO (xq:=XW) Yq) (Vj (WO (xq:=XW) XB) (Vj (WO (xq:=XW) (ZA ZD (ZA ZD (dv 1) ZT) ZT)) (Vj (WO (xq:=XW) Yq) (Vj (WO (xq:=XW) ZT) (Vj (WO (xq:=XW) Tw) (Vj (WO (xq:=XW) (Ci Kk ZT)) (Vj (WO (xq:=XW) Yq) (Vj (WO (xq:=XW) Yq) Rz)))))))))))))
  (U9 (SE OA.nd (UY a0f hr (SA 2 (Vj (WO (xq:=XW) ZT) Rz))))
  (U9 (YU OA.nd (Z6 (ZW (ZA ZD (dv 6) (dv 8)) (ZW (ZA ZD (dv 7) (dv 8)) ZU))))
  (OO (Xk (Xq (Yj hr)) (dv 4) ZT) (Sz (WO (xq:=XW) (ZC Ww (ZC Ww (Tv 0 Ux (Vk (dv 3))) (W6 (ZW (dv 9) ZU))) (Tv 0 (Vk (dv 3)) Ux))))
  (Sz (WO (xq:=XW) (ZC Ww (ZC Ww (Tv 0 Ux (Vk (dv 3))) (W6 (ZW (dv 9) ZU))) (Tv 0 (Vk (ZC Ww (dv 3) ZT)) Ux))))))))))))))),?_⟩
 intro b rs qs a c k R hne hq h0 h9 hk;obtain⟨p,a1,hp,ed1⟩:=a2w a c k qs.length h0 (by lia) (by lia)
 obtain⟨wy,a2,hw,ed2⟩:=a2w a1 c (k+1) 7 (by decide) (by decide) (by lia)
 replace ed2:g_law_draw [.own (X8 a1 c (k+1)),.val (.int 7)]=.ok (dN wy,[.own (X8 a2 c (k+1+1)),.val (.int 7)]):=ed2
 obtain⟨tw,a3,ht,ed3⟩:=a2w a2 c (k+1+1) 20 (by decide) (by decide) (by lia)
 replace ed3:g_law_draw [.own (X8 a2 c (k+1+1)),.val (.int 20)]=.ok (dN tw,[.own (X8 a3 c (k+1+1+1)),.val (.int 20)]):=ed3
 obtain⟨wh,a4,hwh,ed4⟩:=a2w a3 c (k+1+1+1) 10 (by decide) (by decide) (by lia)
 replace ed4:g_law_draw [.own (X8 a3 c (k+1+1+1)),.val (.int 10)]=.ok (dN wh,[.own (X8 a4 c (k+1+1+1+1)),.val (.int 10)]):=ed4
 obtain⟨r0,hr0⟩:∃r0,rs[0]?=some r0:=⟨rs[0]'(List.length_pos_iff.mpr hne),y9 _⟩;have i0:Xi (dR rs) (.int 0)=.ok (rT r0):=NA hr0;have i1:Xi (rT r0) (.int 0)=.ok (.str r0.1):=rfl;obtain⟨fr,f1,f2,gf⟩:=xx tw (R.ok r0 (ZP hr0)).gh hwh;refine⟨QP p wy fr qs,if wy<4 then a2 else a4,if wy<4 then k+1+1 else k+1+1+1+1,Ou rfl λA=>?_,Nh wy gf hq,by split<;>lia⟩
 obtain⟨S,h⟩:=CV A b qs;rw[h.p];have lt:=r9 (l:=qs) (i:=p);have lt1:=r9 (l:=qs) (i:=p+1);have ld:=λn=>RC (l:=qs) (i:=n)
 have m1:=ND (qs.take p) (qs.drop (p+1)) (by rw[ld];lia)
 have m2:=ND (qs.take (p+1)) (qs.drop p) (by rw[ld];lia)
 have m3:=ND (qs.take p) ((qs.drop p).take 2).reverse (by simp;lia)
 have m4:=ND (qs.take p++((qs.drop p).take 2).reverse) (qs.drop (p+2)) (by simp;lia)
 have m5:VD (.lst ((qs.take p).map Zj)) (.lst [Zj fr])=.ok (.lst ((qs.take p++[fr]).map Zj)):=ND (qs.take p) [fr] (by simp;lia)
 have m6:=ND (qs.take p++[fr]) (qs.drop p) (by simp;lia)
 have m7:=ND (qs.take p++[fr]) (qs.drop (p+1)) (by simp;lia)
 have c2':YC (qs.map Zj) (some (p:Int)) (some ((p:Int)+2))=((qs.drop p).take 2).map Zj:=by rw[show((p:Int)+2)=((p+2:Nat):Int) from rfl,xZ _ _ (by simp;lia),List.map_take,List.map_drop]
 refine RM (Q:=Yc _ _) (dN p,[S,some (.val (dR rs)),some (.own (.p (A 2) (X8 a1 c (k+1)))),none,none,none,none,none,none,none]) (by
  simp[Xr,Rh,Rg,Wn,ZK,W8,unp,Yo,W1,Yv,frz,h.f,YK,OD.toD,V2,WQ,ed1,-List.map_map,-WX,-Res.bind_ok,-L2.go_ok,-Out.then_nx,Zf,WR,Zg,-Nq,-NB,Wo,M9]) rfl ?_
 refine RM (Q:=Yc _ _) (dN wy,[S,some (.val (dR rs)),some (.own (.p (A 2) (X8 a2 c (k+1+1)))),some (.val (dN p)),none,none,none,none,none,none]) (by
  simp[Rh,Rg,Wn,ZK,W8,unp,Yo,W1,ed2,-List.map_map,-WX,-Res.bind_ok,-L2.go_ok,-Out.then_nx,Zf,WR,Zg,-Nq,-NB,Wo,M9]) rfl ?_
 have cs:wy=0\/wy=1\/wy=2\/wy=3\/4<=wy:=by lia
 rcases cs with rfl|rfl|rfl|rfl|c4
 ·refine Uu (Q:=Yc _ _) true rfl (fun _=>?_) fun z=>nomatch z
  exact⟨[S,some (.val (dR rs)),some (.own (.p (A 2) (X8 a2 c (k+1+1)))),some (.val (dN p)),some (.val (dN 0)),none,none,none,none,none],by simp[h.g,TY,TW,TC,LD,Ov,m1,QP,-List.map_append,-List.map_take,-List.map_drop,-List.map_cons,-List.map_nil,-List.map_reverse,-List.append_assoc],by simp[h.u,W7]⟩
 ·refine Uu (Q:=Yc _ _) false rfl (fun z=>nomatch z) fun _=>?_
  refine Uu (Q:=Yc _ _) true rfl (λ_=>?_) λz=>nomatch z
  exact⟨[S,some (.val (dR rs)),some (.own (.p (A 2) (X8 a2 c (k+1+1)))),some (.val (dN p)),some (.val (dN 1)),none,none,none,none,none],by simp[h.g,TY,TW,TC,LD,JD,m2,QP,-List.map_append,-List.map_take,-List.map_drop,-List.map_cons,-List.map_nil,-List.map_reverse,-List.append_assoc],by simp[h.u,W7]⟩
 ·refine Uu (Q:=Yc _ _) false rfl (fun z=>nomatch z) fun _=>?_
  refine Uu (Q:=Yc _ _) false rfl (λz=>nomatch z) λ_=>?_
  refine Uu (Q:=Yc _ _) true rfl (λ_=>?_) λz=>nomatch z
  refine RM (Q:=Yc _ _) (.lst (((qs.drop p).take 2).reverse.map Zj)) (by simp[h.g,TC,Iw,c2',QD,Ya,OD.toD,-List.map_append,-List.map_take,-List.map_drop,-List.map_cons,-List.map_nil,-List.map_reverse,-List.append_assoc];exact List.map_reverse.symm) rfl ?_
  exact⟨[S,some (.val (dR rs)),some (.own (.p (A 2) (X8 a2 c (k+1+1)))),some (.val (dN p)),some (.val (dN 2)),some (.val (.lst (((qs.drop p).take 2).reverse.map Zj))),none,none,none,none],by simp[h.g,TY,TW,TC,Iw,JC,m3,m4,QP,-List.map_append,-List.map_take,-List.map_drop,-List.map_cons,-List.map_nil,-List.map_reverse,-List.append_assoc],by simp[h.u,W7]⟩
 ·refine Uu (Q:=Yc _ _) false rfl (fun z=>nomatch z) fun _=>?_
  refine Uu (Q:=Yc _ _) false rfl (λz=>nomatch z) λ_=>?_
  refine Uu (Q:=Yc _ _) false rfl (λz=>nomatch z) λ_=>?_
  refine Uu (Q:=Yc _ _) true rfl (λ_=>?_) λz=>nomatch z
  exact⟨[S,some (.val (dR rs)),some (.own (.p (A 2) (X8 a2 c (k+1+1)))),some (.val (dN p)),some (.val (dN 3)),none,none,none,none,none],by simp[h.g,TY,TC,QP,-List.map_append,-List.map_take,-List.map_drop,-List.map_cons,-List.map_nil,-List.map_reverse,-List.append_assoc],by simp[h.u,W7]⟩
 ·have no:∀n:Nat,n≠wy->(YD (V1 (dN wy) (.int (n:Int)))).bind UI=.ok false:=λn h=>by
   rw[O5,ZE (by lia)]
   rfl
  refine Uu (Q:=Yc _ _) false (no 0 (by lia)) (λz=>nomatch z) λ_=>?_
  refine Uu (Q:=Yc _ _) false (no 1 (by lia)) (λz=>nomatch z) λ_=>?_
  refine Uu (Q:=Yc _ _) false (no 2 (by lia)) (λz=>nomatch z) λ_=>?_
  refine Uu (Q:=Yc _ _) false (no 3 (by lia)) (λz=>nomatch z) λ_=>?_
  refine RM (Q:=Yc _ _) (.lst (KD.map D.str)) rfl rfl ?_;refine RM (Q:=Yc _ _) (.lst (Iq tw r0.1),[S,some (.val (dR rs)),some (.own (.p (A 2) (X8 a3 c (k+1+1+1)))),some (.val (dN p)),some (.val (dN wy)),none,some (.val (.lst (KD.map D.str))),none,none,none]) (by
   simp[Rh,Rg,Wn,ZK,W8,unp,Yo,W1,ed3,i0,i1,-List.map_map,-WX,-Res.bind_ok,-L2.go_ok,-Out.then_nx,Zf,WR,Zg,-Nq,-NB,Wo,M9]
   rfl) rfl ?_
  refine RM (Q:=Yc _ _) (dN wh,[S,some (.val (dR rs)),some (.own (.p (A 2) (X8 a4 c (k+1+1+1+1)))),some (.val (dN p)),some (.val (dN wy)),none,some (.val (.lst (KD.map D.str))),some (.val (.lst (Iq tw r0.1))),none,none]) (by
   simp[Rh,Rg,Wn,ZK,W8,unp,Yo,W1,ed4,-List.map_map,-WX,-Res.bind_ok,-L2.go_ok,-Out.then_nx,Zf,WR,Zg,-Nq,-NB,Wo,M9]) rfl ?_
  refine RM (Q:=Yc _ _) (Zj fr) (by simp[f1,f2,Zj,-List.map_map,-List.map_append,-List.map_take,-List.map_drop,-List.map_cons,-List.map_nil,-List.map_reverse,-List.append_assoc]) rfl ?_
  have c5:¬ wy<4:=by lia
  have d0:wy≠0:=by lia
  have d1:wy≠1:=by lia
  have d2:wy≠2:=by lia
  have d3:wy≠3:=by lia
  by_cases c6:wy=4
  ·refine Uu (Q:=Yc _ _) true (by rw [c6];rfl) (fun _=>?_) fun z=>nomatch z
   exact⟨[S,some (.val (dR rs)),some (.own (.p (A 2) (X8 a4 c (k+1+1+1+1)))),some (.val (dN p)),some (.val (dN wy)),none,some (.val (.lst (KD.map D.str))),some (.val (.lst (Iq tw r0.1))),some (.val (dN wh)),some (.val (Zj fr))],by simp[h.g,TY,TW,TC,m5,m6,QP,c6,-List.map_append,-List.map_take,-List.map_drop,-List.map_cons,-List.map_nil,-List.map_reverse,-List.append_assoc],by simp[h.u,W7,c5]⟩
  ·refine Uu (Q:=Yc _ _) false (no 4 (YN c6)) (fun z=>nomatch z) fun _=>?_
   exact⟨[S,some (.val (dR rs)),some (.own (.p (A 2) (X8 a4 c (k+1+1+1+1)))),some (.val (dN p)),some (.val (dN wy)),none,some (.val (.lst (KD.map D.str))),some (.val (.lst (Iq tw r0.1))),some (.val (dN wh)),some (.val (Zj fr))],by simp[h.g,TY,TW,Ov,TC,LD,m5,m7,QP,d0,d1,d2,d3,c6,-List.map_append,-List.map_take,-List.map_drop,-List.map_cons,-List.map_nil,-List.map_reverse,-List.append_assoc],by simp[h.u,W7,c5]⟩
set_option tactic.hygienic true in
def AA {d:D}{a:PyData} (h:Y2 d=.ok a):PyData.eqv a a=true:=by
 unfold Y2 at h;split at h
 ·unfold gd at h
  split at h
  ·rename_i s
   cases h;exact SeqAt.eqv_refl _ (XX s)
  ·cases h
 ·cases h
def Pk {d:D} (h:∃a,Y2 d=.ok a):V1 d d=.ok (.bl true):=by
 obtain⟨a,e⟩:=h;unfold V1;rw[e];show Res.ok (D.bl (PyData.eqv a a))=_;rw[AA e]
def Fh {d:D} (h:∃a,Y2 d=.ok a):Pa d d=.ok (.bl false):=by
 obtain⟨a,e⟩:=h;unfold Pa;rw[e];show Res.ok (D.bl (!PyData.eqv a a))=_;rw[AA e];rfl
def Ju {d:D} (h:Sc d):∃a,d.py=some a/\a.canLay0=true/\a.depth<=1:=by
 cases h with
 | int n=>exact⟨_,rfl,rfl,by simp[PyData.depth]⟩
 | str h=>exact⟨_,rfl,UV h,by simp[PyData.depth]⟩
 | bl b=>exact⟨_,rfl,rfl,by simp[PyData.depth]⟩
 | non=>exact⟨_,rfl,rfl,by simp[PyData.depth]⟩
theorem FB:∀{qs:List Sg},(∀q∈qs,Gq q)->∃as,D.pys (qs.map Zj)=some as/\PyData.canLayAll0 as=true/\PyData.depthAll as<=5
 | [],_=>⟨[],rfl,rfl,by simp[PyData.depthAll]⟩
 | q::qs,h=>by
  obtain⟨as,e1,e2,e3⟩:=FB (qs:=qs) λq m=>h q (z5 _ m)
  have g:=h q z6;obtain⟨a,f1,f2,f3⟩:=Ju g.t;have gs:PyData.canLay0 (.str q.1)=true:=UV g.w;refine⟨.tuple [.str q.1,a]::as,by simp[Zj,D.pys,D.py,e1,f1],by simp[PyData.canLayAll0,PyData.canLay0,e2,f2];exact UV g.w,?_⟩
  simp[PyData.depthAll,PyData.depth];lia
theorem HF {qs:List Sg} (h:∀q∈qs,Gq q):∃a,Y2 (.lst (qs.map Zj))=.ok a:=by
 obtain⟨as,e1,e2,e3⟩:=FB h;refine⟨.list as,?_⟩;have e:(D.lst (qs.map Zj)).py=some (.list as):=by simp[D.py,e1]
 have s:SeqAt.shaped (.list as)=true:=by
  simp[SeqAt.shaped,PyData.canLay0,e2,PyData.depth];lia
 unfold Y2;rw[e];simp[s]
structure PI (rs:List RR) (d:Nat) (m:Md):Prop where
 rw:Rw rs m
 f:Yu rs (Yp rs m) m=true
 d:dp m<=d+1
theorem Bi {rs:List RR}:∀{cs:List Md},(∀c∈cs,Yu rs (Yp rs c) c=true)->XV rs (cs.map (Yp rs)) cs=true
 | [],_=>rfl
 | c::cs,h=>by
  rw[w9,XV,h c z6,Bi λc m=>h c (z5 _ m)]
  rfl
theorem M0(h:∀c∈cs,dp c<=d):VW cs<=d:=by
 induction cs with
 | nil=>exact Us _
 | cons c cs ih =>
  have h1:=h c z6;have h2:=ih λc m=>h c (z5 _ m)
  simp only[VW];lia
set_option tactic.hygienic true in
def PZ{rs:List RR}{q:Sg} (e:W9 rs row q=some m):(∃z,XR z=true/\m=.leaf z)\/∃n p,q.1=("reduce":Str)/\rs[n.toNat]?=some p/\p.2.length<=row.length/\(row.drop (row.length - p.2.length)).map (Yp rs)=p.2/\m=.node n (row.drop (row.length - p.2.length)):=by
 unfold W9 at e;split at e
 ·rename_i z ez
  split at e
  ·rename_i c;cases e;exact .inl ⟨z,c.2,rfl⟩
  ·cases e
 ·rename_i n en
  split at e
  ·rename_i c
   split at e
   ·rename_i p ep
    split at e
    ·rename_i c2;cases e;exact .inr ⟨n,p,c.1,ep,c2.1,c2.2,rfl⟩
    ·cases e
   ·cases e
  ·cases e
 ·cases e
theorem Mw{rs:List RR} (hr:∀p∈rs,VU p) (hl:rs.length<=1000)  (h:∀m∈row,PI rs d m) {q:Sg} (g:Gq q)  (e:W9 rs row q=some m):PI rs (d+VN [q]) m/\XC (row.take (row.length - (Zy m).length))+sz m=XC row+1:=by
 have rw1:=(FH hr hl (λm mm=>(h m mm).rw) g e).1
 rcases PZ e with⟨z,c,rfl⟩|⟨n,p,c,ep,c1,c2,rfl⟩
 ·exact⟨⟨rw1,by simp[Yu,Yp,c],by simp[dp]⟩,by simp[Zy,sz]⟩
 ·have lc:(row.drop (row.length - p.2.length)).length=p.2.length:=by rw [RC];lia
  have e1:Yp rs (.node n (row.drop (row.length - p.2.length)))=p.1:=by simp[Yp,ep]
  have fm:=Bi (rs:=rs) (cs:=row.drop (row.length - p.2.length)) λc m=>(h c (NK m)).f
  rw[c2] at fm;have e2:=M0 (cs:=row.drop (row.length - p.2.length)) (d:=d+1) λc m=>(h c (NK m)).d
  have e3:VN [q]=1:=by simp[VN,c]
  have:=Nr (row.take (row.length - p.2.length)) (row.drop (row.length - p.2.length))
  rw[List.take_append_drop] at this;refine⟨⟨rw1,by rw[e1,Yu];simp[ep,lc,fm],by rw[e3];simp only[dp];lia⟩,?_⟩
  show XC (row.take (row.length - (row.drop (row.length - p.2.length)).length))+_=_;rw[lc];simp only[sz];lia
theorem PI.up{rs:List RR} (h:PI rs d m) (k:d<=e):PI rs e m:=⟨h.rw,h.f,v7 h.d (by lia)⟩
theorem B7 {rs:List RR} (hr:∀p∈rs,VU p) (hl:rs.length<=1000):∀{qs:List Sg}{d:Nat}{row r:List Md},(∀m∈row,PI rs d m)->(∀q∈qs,Gq q)->Yr rs row qs=some r->(∀m∈r,PI rs (d+VN qs) m)/\XC r=XC row+qs.length
 | [],d,row,r,h,_,e=>by cases e;exact⟨h,rfl⟩
 | q::qs,d,row,r,h,g,e=>by
  rw[Yr,one] at e;cases em:W9 rs row q with
  | none=>rw[em] at e;cases e
  | some m =>
   rw[em] at e;obtain⟨h1,h2⟩:=Mw hr hl h (g q z6) em;have ec:VN (q::qs)=VN [q]+VN qs:=SS [q] qs;obtain⟨k1,k2⟩:=B7 hr hl (qs:=qs) (d:=d+VN [q]) (row:=row.take (row.length - (Zy m).length)++[m]) (r:=r) (λx mx=>by
    rcases u9.mp mx with mx|mx
    ·exact(h x (Lr mx)).up (Zb _ _)
    ·rw[v8.mp mx];exact h1) (λq m=>g q (z5 _ m)) e
   refine⟨λx mx=>(k1 x mx).up (by lia),?_⟩
   rw[k2,Nr];simp[XC];lia
def Pm{rs:List RR} (h:Yu rs s m=true):Yp rs m=s:=by
 cases m with
 | leaf z=>simp[Yu] at h;exact h.2
 | node n cs =>
  rw[Yu] at h;cases e:rs[n.toNat]? with
  | none=>rw[e] at h;cases h
  | some p=>rw[e] at h;simp at h;simp[Yp,e,h.1]
theorem Au {rs:List RR}:∀{bs:List Str}{cs:List Md},bs.length=cs.length->XV rs bs cs=true->cs.map (Yp rs)=bs
 | [],[],_,_=>rfl
 | [],_::_,h,_|_::_,[],h,_=>by cases h
 | b::bs,c::cs,h,k=>by
  rw[XV,t4] at k;rw[w9,Pm k.1,Au (Nat.succ.inj h) k.2]
theorem At {rs:List RR}:∀{bs:List Str}{cs:List Md},bs.length=cs.length->XV rs bs cs=true->∀c∈cs,∃b,Yu rs b c=true
 | [],[],_,_,c,m=>by cases m
 | [],_::_,h,_,_,_|_::_,[],h,_,_,_=>by cases h
 | b::bs,c::cs,h,k,x,m=>by
  rw[XV,t4] at k;rcases y0.mp m with rfl|m
  ·exact⟨b,k.1⟩
  ·exact At (Nat.succ.inj h) k.2 x m
theorem xI {rs:List RR} (m:Md):Ok m->∀{s:Str},Yu rs s m=true->∀row qs,Yr rs row (Z8 m++qs)=Yr rs (row++[m]) qs:=by
 induction m using Md.ind with
 | hl z =>
  intro _ s h row qs;simp[Yu] at h;have e:W9 rs row ("shift",.str z)=some (.leaf z):=if_pos ⟨rfl,h.1⟩;show Yr rs row (("shift",.str z)::qs)=_;rw[Yr,one,e];simp[Zy]
 | hn n cs ih =>
  intro ok s h row qs;cases ok with
  | node n0 n1 hl hc =>
  rw[Yu] at h;cases e:rs[n.toNat]? with
  | none=>rw[e] at h;cases h
  | some p =>
   rw[e] at h;simp only[t4,decide_eq_true_eq] at h;have key:∀(ds:List Md),(∀c∈ds,c∈cs)->∀row qs,Yr rs row (YZ ds++qs)=Yr rs (row++ds) qs:=λds=>by
    induction ds with
    | nil=>intro _ row qs;simp[YZ]
    | cons c ds ih2 =>
     intro hm row qs;obtain⟨b,fb⟩:=At h.2.1 h.2.2 c (hm c z6);rw[YZ,List.append_assoc,ih c (hm c z6) (hc c (hm c z6)) fb,ih2 λx m=>hm x (z5 _ m),List.append_assoc]
     rfl
   rw[Z8,List.append_assoc,key cs λc m=>m]
   have WA:=(x0.mp e).1;have dr:(row++cs).drop ((row++cs).length - p.2.length)=cs:=by rw[h.2.1,t5,Nat.add_sub_cancel];exact List.drop_left
   have em:W9 rs (row++cs) ("reduce",.int n)=some (.node n cs):=by
    have rn:Uo rs (.int n)=true:=decide_eq_true ⟨n0,by lia⟩
    have c1:p.2.length<=(row++cs).length:=by rw[t5];lia
    have c2:=Au h.2.1 h.2.2;simp only[W9,rn,e,dr,c2];rw[if_pos ⟨trivial,trivial⟩,if_pos ⟨c1,trivial⟩]
   show Yr rs (row++cs) (("reduce",.int n)::qs)=_;rw[Yr,one,em];simp[Zy]
def Bs{rs:List RR} (ok:Ok m)  (h:Yu rs s m=true):(Yr rs [] (Z8 m)).bind Wf=some m:=by
 have:=xI m ok h [] []
 rw[ZI] at this;rw[this];rfl
def AG {P:Sg->Prop} (hL:∀z:Str,PyData.strOk z=true->z.length<=1000->P ("shift",.str z)) (hN:∀n:Int,P ("reduce",.int n)) (m:Md):Ok m->∀q∈Z8 m,P q:=by
 induction m using Md.ind with
 | hl z =>
  intro ok q mq;cases ok with
  | leaf h l=>rw[Z8,v8] at mq;rw[mq];exact hL z h l
 | hn n cs ih =>
  intro ok q mq;cases ok with
  | node n0 n1 hl hc =>
  rw[Z8] at mq;rcases u9.mp mq with mq|mq
  ·have key:∀ds:List Md,(∀c∈ds,c∈cs)->∀q∈YZ ds,P q:=λds=>by
    induction ds with
    | nil=>intro _ q m;cases m
    | cons c ds ih2 =>
     intro hm q mq;rw[YZ] at mq;rcases u9.mp mq with mq|mq
     ·exact ih c (hm c z6) (hc c (hm c z6)) q mq
     ·exact ih2 (λx m=>hm x (z5 _ m)) q mq
   exact key cs (λc m=>m) q mq
  ·rw[v8] at mq;rw[mq];exact hN n
def B3 (m:Md):Ok m->∀q∈Z8 m,Gq q:=AG (λz h l=>⟨by dsimp only;decide +kernel,.str (EW h l)⟩) (λn=>⟨by dsimp only;decide +kernel,.int n⟩) m
def Q2 (m:Md):Ok m->∀q∈Z8 m,Wk [q.2,.ty "bool"]=.ok (.bl false):=AG (λ_ _ _=>rfl) (λ_=>rfl) m
mutual
theorem zU:∀m:Md,VN (Z8 m)=nn m
 | .leaf s=>rfl
 | .node n cs=>by rw[Z8,SS,zD cs,nn,show VN [(("reduce",.int n):Sg)]=1 from rfl];lia
theorem zD:∀ms:List Md,VN (YZ ms)=Q4 ms
 | []=>rfl
 | c::cs=>by rw[YZ,SS,zU c,zD cs,Q4]
end
def MW:∀z∈OZ,RX z=false:=by decide +kernel
theorem GR.ok {rs:List RR} (g:GR rs) (h6:rs.length<=6):Ie rs/\SX rs:=by
 have okr:∀p∈rs,VU p:=λp hp=>(g.v p hp).1
 obtain⟨ss,l,sg⟩:=g.sg;have sl:=AK (BQ (rs:=rs) List.nodup_nil) (ER (P:=(·∈ss)) (λz h=>nomatch h) sg)
 have hl:=AK (ss:=Yi rs) (pool:=Vp rs) ((JT _).nodup_iff.mpr (tO _)) λz mz=>GD.mp (JY.mp mz)
 have e:(Vp rs).length=rs.length:=v0 ..;exact⟨⟨⟨okr,by lia,by lia⟩,g.n1,g.nd,λp hp b mb hb=>JY.mpr (GD.mpr ((g.cl p hp b mb).resolve_right λz=>by
  have:=MW b (Lo z).2.2
  rw[hb] at this;cases this)),by lia,by lia⟩,by lia,okr⟩
def ye (A:XM) (G:FD):Prop:=∀rs kk qs,SX rs->(∀q∈qs,Gq q)->qs.length<=4000->VN qs<=100->G [gI A rs kk,dR rs,.lst (qs.map Zj)]=.ok (.bl true)
def Mc (m:Md):isN (toD m)=false:=by cases m<;>rfl
def Me (A:XM) (m:Md):isN (tr A m)=false:=by cases m<;>rfl
noncomputable def VB:Nat->Md
 | 0=>.node 1 [.leaf "a"]
 | k+1=>.node 0 [VB k,.leaf "b",.leaf "c",.leaf "d"]
noncomputable def U4:List RR:=[("A",["A","b","c","d"]),("A",["a"])]
def BH:∀p∈U4,VU p:=λp hp=>by
 rcases y0.mp hp with rfl|hp
 ·exact⟨by decide +kernel,by decide +kernel,by decide +kernel,by decide +kernel,by decide +kernel⟩
 ·rw [v8.mp hp]
  exact⟨by decide +kernel,by decide +kernel,by decide +kernel,by decide +kernel,by decide +kernel⟩
def IL:Ie U4:=⟨⟨BH,by decide +kernel,by decide +kernel⟩,by decide +kernel,by decide +kernel,by decide +kernel,by decide +kernel,by decide +kernel⟩
def Ho(h:PyData.strOk s=true) (l:s.length<=1000):Ok (.leaf s):=.leaf h l
theorem RO:∀k,Ok (VB k)/\Yu U4 "A" (VB k)=true/\sz (VB k)=4*k+2
 | 0=>⟨.node (by decide) (by decide) (by simp) λc m=>by rw[v8.mp m];exact Ho (by decide +kernel) (by decide +kernel),by decide +kernel,by simp[VB,sz,XC]⟩
 | k+1=>by
  obtain⟨h1,h2,h3⟩:=RO k;have f1:Yu U4 "b" (.leaf "b")=true:=by decide +kernel
  have f2:Yu U4 "c" (.leaf "c")=true:=by decide +kernel
  have f3:Yu U4 "d" (.leaf "d")=true:=by decide +kernel
  refine⟨.node (by decide) (by decide) (by simp) λc m=>?_,?_,by simp[VB,sz,XC,h3];lia⟩
  ·rcases y0.mp m with rfl | m
   ·exact h1
   rcases y0.mp m with rfl|m
   ·exact Ho (by decide +kernel) (by decide +kernel)
   rcases y0.mp m with rfl|m
   ·exact Ho (by decide +kernel) (by decide +kernel)
   rw[v8.mp m];exact Ho (by decide +kernel) (by decide +kernel)
  ·show Yu U4 "A" (.node 0 [VB k,.leaf "b",.leaf "c",.leaf "d"])=true
   rw[Yu];show(decide _&&(decide _&&XV U4 ["A","b","c","d"] [VB k,.leaf "b",.leaf "c",.leaf "d"]))=true;rw[XV,XV,XV,XV,h2,f1,f2,f3];rfl
noncomputable def yr:List Sg:=[("shift",.str "b"),("shift",.str "c"),("shift",.str "d"),("reduce",.int 0)]
def P7 (k:Nat):Z8 (VB (k+1))=Z8 (VB k)++yr:=by simp[VB,Z8,YZ,yr]
def yf (A:XM) (k:Nat) (ρ:Rho):Prop:=∃x:Option D,ρ=[some (.val (gI A U4 [])),some (.val (tr A (VB k))),some (.own (.l ((Z8 (VB k)).map Zj))),x.map Sl.val,none]
def BX (A:XM) (n:Nat) (o:Out):Prop:=∃ρ,o=.nx ρ/\yf A n ρ
theorem wa(a1x:Callee P w K mg base 5 "is_tree" ["grammar","symbol","thing"] (Zt K a2t))  (a0u:Callee P w K mg base 6 "tree_by" ["grammar","steps"] (Zt K a1d)) {a6e:FD} (a2q:Callee P w K mg base 140 "_law_is" ["_law_tree","_law_model"] (Zt K a6e))  (a0a:Callee P w K mg base 1 "_law_symbol_for" ["_law_rules_here","_law_model"] (Zt K a0c)) {a4k:FD} (a2p:Callee P w K mg base 2 "_law_piled" ["_law_rules_here","_law_steps_here"] (Zt K a4k)) (a7e:NR a4k) (p_by:UG A a1d) (p_is:Ih A 130 a6e) (a4a:P2 a0c) (a6i:RG A Yu 10000 a2t) (F:Fun K "_law_by" "_law_by" EK f fd) (T:Txt P w K mg A):∃G,FnOk P w K mg base Z0 141 f fd ["_law_grammar","_law_rules_here","_law_steps_here"] (Zt K G)/\ye A G:=by
 refine⟨_,F.okT (k:=140) GV (λZm Ar outer s H E hr=>Zu (YU GV.nd (DN.de (Lc T.z_list (ZW (dv 2) ZU))))
  (Zu (YU GV.nd (Zz a2p hr (ZW (dv 1) (ZW (dv 2) ZU))))
  (Zu (YU GV.nd (Zz a0u hr (ZW (dv 0) (ZW (dv 3) ZU))))
  (Zu (XH (Xk (UP (Yj hr)) (dv 3) (dv 2)) (Zn (YL XB)) XA)
  (Zu (XH (Xk Q6 (dv 4) Tw) (Zn (YL (Ub Q6 (dv 5) Tw))) XA)
  (Zn (YL (VG (Zz a2q hr (ZW (dv 5) (ZW (dv 4) ZU))) (UB (Zz a1x hr (ZW (dv 0) (ZW (Zz a0a hr (ZW (dv 1) (ZW (dv 4) ZU))) (ZW (dv 5) ZU))))))))))))),?_⟩
 intro rs kk qs R hg hl hd;have hr:=R.ok;have l20:=R.n;refine Sr rfl ?_;refine Vf (Q:=Xj _) (.lst (qs.map Zj)) (by simp[ZV,Vx,OD.toD]) rfl ?_
 refine Vf (Q:=Xj _) (Qc ((Yr rs [] qs).bind Wf)) (by simp[ZV,a7e rs qs (by lia) hr hg (by lia)]) rfl ?_
 refine Vf (Q:=Xj _) (Vh A ((Yr rs [] qs).bind Wf)) (by simp[ZV,p_by rs kk qs (by lia) hr hg (by lia)]) rfl ?_
 refine RN (Q:=Xj _) false (by simp[ZV,frz,YK,Fh (HF hg)]) (λz=>nomatch z) λ_=>?_
 refine th (Q:=Xj _) rfl ?_;cases hp:(Yr rs [] qs).bind Wf with
 | none =>
  refine RN (Q:=Xj _) true rfl (λ_=>?_) λz=>nomatch z
  exact rfl
 | some m =>
  refine RN (Q:=Xj _) false (by simp[ZV,frz,YK,Qc,IM,Mc]) (λz=>nomatch z) λ_=>?_
  refine th (Q:=Xj _) rfl ?_;have hm:PI rs (0+VN qs) m/\sz m=qs.length:=by
   cases hq:Yr rs [] qs with
   | none=>rw[hq] at hp;cases hp
   | some r =>
    rw[hq] at hp;obtain⟨k1,k2⟩:=B7 hr (by lia) (row:=[]) (d:=0) (λm h=>(nomatch h)) hg hq
    match r,hp with
    | [x],hp =>
     cases hp;simp[XC] at k2;exact⟨k1 _ z6,k2⟩
  obtain⟨⟨h1,h2,h3⟩,h4⟩:=hm;refine SM (Q:=Xj _) (v:=.bl true) ?_ rfl;simp[ZV,Qc,Vh,p_is m (by lia) h1.ok,a4a rs m h1.nu,a6i rs kk (Yp rs m) m (by lia) hr (H9 hr h1) h1.ok (by lia),h2]
theorem tD(a3u:Callee P w K mg base 3 "alike" ["one","other"] (Zt K a4n))  (a0u:Callee P w K mg base 6 "tree_by" ["grammar","steps"] (Zt K a1d)) {a2a:List D->Res (List D)} (a0r:Callee P w K mg base 3 "steps_of" ["tree"] (UT K a2a)) {g_Leaf:List D->Res (List (Str×D))} (k_Leaf:Y1 P w K mg base 1 "Leaf" A.Leaf ["self","sign"] g_Leaf) {g_Node:List D->Res (List (Str×D))} (k_Node:Y1 P w K mg base 2 "Node" A.Node ["self","number","children"] g_Node) (k1_Grammar:OY P w K mg base 7 "Grammar" A.Grammar ["self","rules","ranks"] [.non] Ws) (p_by:UG A a1d) (a3s:∀a b,Ok a->Ok b->sz a<=10000->∃c,a4n [tr A a,tr A b]=.ok (.bl c)/\(c=true↔a=b)) (a4b:∀m,sz m<=10000->a2a [tr A m]=.ok ((Z8 m).map Zj)) (a2x:∀(n:Int) (ms:List Md),ms.length<=1000->∀{c:D},Ya c=some (YE A ms)->g_Node [.int n,c]=.ok [("number",.int n),("children",.tup (YE A ms)),("tree_size",.int (1+XC ms)),("tree_depth",.int (1+VW ms))]) (a3l:∀s:Str,g_Leaf [.str s]=.ok [("sign",.str s),("tree_size",.int 1),("tree_depth",.int 1)]) (F:Fun K "_law_chain" "_law_chain" Dz f fd) (T:Txt P w K mg A):∃G,FnOk P w K mg base Z0 12 f fd [] (Zt K G)/\G []=.ok (.bl true):=by
 refine⟨_,F.okT (k:=11) Np (λZm Ar outer s H E hr=>Zu (YU Np.nd (Bm k1_Grammar hr (ZW (W6 (ZW (Z6 (ZW Yq (ZW (Z6 (ZW Yq (ZW Yq (ZW Yq (ZW Yq ZU))))) ZU))) (ZW (Z6 (ZW Yq (ZW (Z6 (ZW Yq ZU)) ZU))) ZU))) ZU)))
  (Zu (YU Np.nd (Rx k_Node hr (ZW ZT (ZW (W6 (ZW (Rx k_Leaf hr (ZW Yq ZU)) ZU)) ZU))))
  (Zu (Uz Np.nd (Tp (ZW (Z6 (ZW Yq (ZW Yq ZU))) (ZW (Z6 (ZW Yq (ZW ZT ZU))) ZU))))
  (Zu (UA rfl (L3 T.z_range (ZW ZT ZU)) (YT Np.nd)
  (Zu (YU Np.nd (Rx k_Node hr (ZW ZT (ZW (W6 (ZW (dv 1) (ZW (Rx k_Leaf hr (ZW Yq ZU)) (ZW (Rx k_Leaf hr (ZW Yq ZU)) (ZW (Rx k_Leaf hr (ZW Yq ZU)) ZU))))) ZU))))
   (Zn (HC 2 (W6 (ZW (Z6 (ZW Yq (ZW Yq ZU))) (ZW (Z6 (ZW Yq (ZW Yq ZU))) (ZW (Z6 (ZW Yq (ZW Yq ZU))) (ZW (Z6 (ZW Yq (ZW ZT ZU))) ZU)))))))))
  (Zu (YU Np.nd (DE.hard (Zz a0u hr (ZW (dv 0) (ZW (dv 2) ZU)))))
  (Zn (YL (VG (Ub (Xq (Yj hr)) (DN.de (HD a0r hr (ZW (dv 1) ZU))) (dv 2)) (VG (Ub Q7 (dv 4) Tw) (UB (Zz a3u hr (ZW (dv 4) (ZW (dv 1) ZU))))))))))))),?_⟩
 have em:Ws [dR U4,.non]=.ok (WC (dR U4) (dR [])):=An IL;have pl:=λs=>a3l s
 have pn1:=a2x 1 [.leaf "a"] (by simp) (c:=.lst [tr A (.leaf "a")]) rfl
 have hrg:TN [.int 498]=.ok (Y6 0 498):=Ln (n:=498) (by decide)
 generalize hN:(498:Nat)=N at hrg;refine Sr rfl ?_;refine Vf (Q:=Xj _) (gI A U4 []) (by
  have:Ws [.lst [.tup [.str "A",.tup [.str "A",.str "b",.str "c",.str "d"]],.tup [.str "A",.tup [.str "a"]]],.non]=.ok (WC (dR U4) (dR [])):=em
  simp[ZV,this]) rfl ?_
 refine Vf (Q:=Xj _) (tr A (VB 0)) (by
  have:g_Node [.int 1,.lst [.ins A.Leaf [("sign",.str "a"),("tree_size",.int 1),("tree_depth",.int 1)]]]=_:=pn1
  simp[ZV,pl,this]
  rfl) rfl ?_
 refine Vf (Q:=Xj _) (OD.l ((Z8 (VB 0)).map Zj)) rfl rfl ?_;refine JP (T:=BX A N) ?_ ?_
 ·refine SM (Q:=BX A N) (v:=Y6 0 N) hrg ?_
  refine EB (yf A) (BX A N) ⟨none,rfl⟩ (λρ h=>⟨ρ,rfl,h⟩) ?_
  rintro k ρ hk ⟨x,rfl⟩;obtain⟨o1,o2,o3⟩:=RO k;have pn:=a2x 0 [VB k,.leaf "b",.leaf "c",.leaf "d"] (by simp) (c:=.lst [tr A (VB k),tr A (.leaf "b"),tr A (.leaf "c"),tr A (.leaf "d")]) rfl
  refine⟨_,rfl,.inl ⟨[some (.val (gI A U4 [])),some (.val (tr A (VB (k+1)))),some (.own (.l ((Z8 (VB (k+1))).map Zj))),some (.val (dN k)),none],?_,some (dN k),rfl⟩⟩;have hz:(Z8 (VB k)).length+4<=sizeLine:=v7 (show _<=10000 by rw[JZ];lia) (by decide)
  simp only[tr] at pn;simp[pl,pn,hz,P7];exact⟨rfl,rfl⟩
 ·rintro o ⟨ρ,rfl,x,rfl⟩
  obtain⟨o1,o2,o3⟩:=RO N;have gq:=B3 _ o1;have pb:=p_by U4 [] (Z8 (VB N)) (by decide) BH gq (by rw[JZ];lia)
  rw[Bs o1 o2] at pb;obtain⟨c,ea,hc⟩:=a3s (VB N) (VB N) o1 o1 (by lia)
  rw[hc.mpr rfl] at ea;have ps:=a4b (VB N) (by lia)
  have eq:=Pk (HF gq);generalize VB N=t at *
  refine Vf (Q:=Xj _) (tr A t) (by
   have hO:Sk [some (.val (gI A U4 [])),some (.val (tr A t)),some (.own (.l ((Z8 t).map Zj))),x.map Sl.val,none]=true:=by cases x<;>rfl
   simp[frz,YK,OD.toD,pb,Vh,Ug,hO,B2]) rfl ?_
  refine SM (Q:=Xj _) (v:=.bl true) ?_ rfl;simp[frz,YK,OD.toD,ps,eq,RQ,Me,ea,-WX,-Res.bind_ok,-L2.go_ok,-Out.then_nx,Zf,WR,Zg]
noncomputable abbrev lr (A:XM) (sc:D) (rs:List RR) (k:Nat) (s:OD) (m t:D) (q:List Sg) (x9:Option Sl):Rho:=[some (.val sc),some (.val (dR rs)),some (.val (gI A rs [])),some (.val (dN k)),some (.own s),some (.val m),some (.val t),some (.own (.l (q.map Zj))),none,x9]
noncomputable abbrev l0 (A:XM) (sc:D) (rs:List RR) (x3 x4 x5 x6 x7 x8 x9:Option Sl):Rho:=[some (.val sc),some (.val (dR rs)),some (.val (gI A rs [])),x3,x4,x5,x6,x7,x8,x9]
inductive LS (A:XM) (sc:D) (rs:List RR) (ds:List D) (ρ:Rho):Prop
 | mk (x3 x4 x5 x6 x7 x8 x9:Option Sl) (e:ρ=l0 A sc rs x3 x4 x5 x6 x7 x8 x9) (h:∀d∈ds,∃k:Nat,d=dN k)
inductive LQ (A:XM) (sc:D) (rs:List RR) (o:Out):Prop
 | mk (x3 x4 x5 x6 x7 x8 x9:Option Sl) (e:o=.nx (l0 A sc rs x3 x4 x5 x6 x7 x8 x9))
inductive L9 (A:XM) (sc:D) (rs:List RR) (k:Nat) (c:Int) (m t:D) (q:List Sg) (o:Out):Prop
 | mk (r:List Sg) (a:Int) (n:Nat) (e:o=.nx (lr A sc rs k (X8 a c n) m t q (some (.val (.lst (r.map Zj)))))) (g:∀q∈r,Gq q) (l:r.length<=400) (d:VN r<=80)
def LO (A:XM) (sc:D) (rs:List RR) (ds:List D) (o:Out):Prop:=(∃ρ2,o=.nx ρ2/\LS A sc rs ds ρ2)\/(∃v,o=.rt v/\LQ A sc rs (.rt v))\/∃x ρ2,o=.er x ρ2/\LQ A sc rs (.er x ρ2)
def Q3 {qs:List Sg} (h:∀q∈qs,Gq q):Pa (.lst (qs.map Zj)) (.lst [])=.ok (.bl (!decide (qs=[]))):=by
 obtain⟨as,e1,e2,e3⟩:=FB h;obtain⟨a,ea⟩:=HF h;have e0:Y2 (.lst [])=.ok (.list []):=Wx (by decide +kernel)
 cases qs with
 | nil=>exact Fh ⟨_,e0⟩
 | cons q qs =>
  unfold Pa;rw[ea,e0]
  have:∃x xs,a=.list (x::xs):=by
   unfold Y2 at ea;rw[show(D.lst ((q::qs).map Zj)).py=some (.list as) by simp[D.py] at e1 |-;exact e1] at ea
   unfold gd at ea;simp only at ea;split at ea
   ·cases ea
    cases as with
    | nil=>rw[w9,D.pys] at e1;cases h1:(Zj q).py with
     | none=>rw[h1] at e1;cases e1
     | some x=>rw[h1] at e1;cases h2:D.pys (qs.map Zj) with
      | none=>rw[h2] at e1;cases e1
      | some y=>rw[h2] at e1;cases e1
    | cons x xs=>exact⟨x,xs,rfl⟩
   ·cases ea
  obtain⟨x,xs,rfl⟩:=this;rfl
theorem MX(a1x:Callee P w K mg base 5 "is_tree" ["grammar","symbol","thing"] (Zt K a2t))  (a3u:Callee P w K mg base 3 "alike" ["one","other"] (Zt K a4n))  (a0u:Callee P w K mg base 6 "tree_by" ["grammar","steps"] (Zt K a1d)) {a2c:FD} (a1a:Callee P w K mg base 1 "_law_cell" ["_law_script","_law_k"] (Zt K a2c)) {a3e:FD} (a2o:Callee P w K mg base 4 "_law_rules" ["_law_script","_law_at"] (Zt K a3e)) {a4z:FD} (a1n:Callee P w K mg base 13 "_law_made" ["_law_model"] (Zt K a4z))  (a0s:Callee P w K mg base 13 "_law_steps" ["_law_model"] (Zt K a1p))  (a0a:Callee P w K mg base 1 "_law_symbol_for" ["_law_rules_here","_law_model"] (Zt K a0c)) {a5c:FD} (a1z:Callee P w K mg base 141 "_law_by" ["_law_grammar","_law_rules_here","_law_steps_here"] (Zt K a5c)) {a4l:FD} (a2s:Callee P w K mg base 12 "_law_chain" [] (Zt K a4l)) {a2a:List D->Res (List D)} (a0r:Callee P w K mg base 3 "steps_of" ["tree"] (UT K a2a)) {a3y:List D->Res (List D)} (a1t:Callee P w K mg base 1 "_law_stream" ["_law_cell_here"] (UT K a3y)) {g_law_draw:List Sl->Res (D×List Sl)} (a0f:Callee P w K mg base 2 "_law_draw" ["_law_left","_law_many"] (Uv K g_law_draw)) {g_law_expanded:List Sl->Res (D×List Sl)} (a0k:Callee P w K mg base 13 "_law_expanded" ["_law_rules_here","_law_symbol_here","_law_left","_law_deep","_law_room"] (Uv K g_law_expanded)) {g_law_spoilt:List Sl->Res (D×List Sl)} (a1i:Callee P w K mg base 3 "_law_spoilt" ["_law_steps_here","_law_rules_here","_law_left"] (Uv K g_law_spoilt)) (k1_Grammar:OY P w K mg base 7 "Grammar" A.Grammar ["self","rules","ranks"] [.non] Ws) (a7c:NS a3e) (a6x:ye A a5c) (a7g:a4l []=.ok (.bl true)) (a6u:∀(ns:List Int) (k:Nat),∃c:Int,a2c [Up ns,dN k]=.ok (.int c)) (a6w:∀c:Int,a3y [.int c]=.ok [.int (c - 1000000000000000000),.int c,dN 0]) (a2w:RF g_law_draw) (a6t:Kx 7 g_law_expanded) (a6n:Made A 10 a4z) (a4b:∀m,sz m<=10000->a2a [tr A m]=.ok ((Z8 m).map Zj)) (a7k:G1 10 a1p) (a4a:P2 a0c) (a6i:RG A Yu 10000 a2t) (p_by:UG A a1d) (a3s:∀a b,Ok a->Ok b->sz a<=10000->∃c,a4n [tr A a,tr A b]=.ok (.bl c)/\(c=true↔a=b)) (p_sp:ym g_law_spoilt) (F:Fun K "law" "law" Rf f fd) (T:Txt P w K mg A):∃G,FnOk P w K mg base Z0 142 f fd ["_law_script"] (Zt K G)/\∀ns:List Int,G [Up ns]=.ok (.bl true):=by
 refine⟨_,F.okT (k:=141) SB (λZm Ar outer s H E hr=>Zu (YU SB.nd (Zz a2o hr (ZW (dv 0) (ZW ZT ZU))))
  (Zu (YU SB.nd (Bm k1_Grammar hr (ZW (DN.de (Lc T.z_list (ZW (dv 1) ZU))) ZU)))
  (Zu (XH (WB (Tu (VQ (X9 (Zz a1z hr (ZW (dv 2) (ZW (dv 1) (ZW (W6 ZU) ZU)))))) (SV (VQ (X9 (IN a2s hr)))))) (Zn (YL XB)) XA)
  (Zu (UA rfl (wQ T.z_range (ZW ZT (ZW (Yh (IC rfl) T.z_max (by decide +kernel) (ZW ZT (ZW (Yh (ID rfl) T.z_min (by decide +kernel) (ZW (Yh X3 T.z_len (by decide +kernel) (ZW (dv 0) ZU)) (ZW ZT ZU))) ZU))) ZU))) (YT SB.nd)
  (Zu (Uz SB.nd (HD a1t hr (ZW (Zz a1a hr (ZW (dv 0) (ZW (dv 3) ZU))) ZU)))
   (Zu (SE SB.nd (Kt a0k hr (EY (WO (xq:=XW) (dv 1)) (EY (SJ ZD (SJ ZD (WO (xq:=XW) (dv 1)) (UY a0f hr (SA 4 (Vj (WO (xq:=XW) (Yh X3 T.z_len (by decide +kernel) (ZW (dv 1) ZU))) Rz)))) (WO (xq:=XW) ZT)) (NG 4 (EY (WO (xq:=XW) ZT) (NF (Tp (ZW ZT ZU)))))))))
   (Zu (YU SB.nd (Zz a1n hr (ZW (dv 5) ZU)))
   (Zu (Uz SB.nd (HD a0r hr (ZW (dv 6) ZU)))
   (Zu (XH (WB (Tu (VQ (X9 (Yh UX T.z_isinstance (by decide +kernel) (ZW (dv 7) (ZW (X0 T.z_list (T:="list") (by decide +kernel)) ZU))))) (SV (Xk (UP (Yj hr)) (dv 7) (Zz a0s hr (ZW (dv 5) ZU)))))) (Zn (YL XB)) XA)
   (Zu (Pd 7 rfl SB.nd (WB (Tu (VQ (X9 (Yh UX T.z_isinstance (by decide +kernel) (ZW (dv 8) (ZW (X0 T.z_tuple (T:="tuple") (by decide +kernel)) ZU))))) (SV (X9 (Yh UX T.z_isinstance (by decide +kernel) (ZW (ZA ZD (dv 8) ZT) (ZW (X0 T.z_bool (T:="bool") (by decide +kernel)) ZU))))))) (show DB _ XW _ _ from Zn (YL XB)).out)
   (Zu (XH (VQ (X9 (Zz a1z hr (ZW (dv 2) (ZW (dv 1) (ZW (dv 7) ZU)))))) (Zn (YL XB)) XA)
   (Zu (XH (X9 (Zz a1x hr (ZW (dv 2) (ZW (Zz a0a hr (ZW (dv 1) (ZW (dv 5) ZU))) (ZW (dv 6) ZU))))) (Zn (XH (VQ (X9 (Zz a3u hr (ZW (Zz a0u hr (ZW (dv 2) (ZW (dv 7) ZU))) (ZW (dv 6) ZU))))) (Zn (YL XB)) XA)) XA)
   (Zu (SE SB.nd (UY a1i hr (SA 7 (Vj (WO (xq:=XW) (dv 1)) (SA 4 Rz)))))
   (Zu (XH (VQ (X9 (Zz a1z hr (ZW (dv 2) (ZW (dv 1) (ZW (dv 9) ZU)))))) (Zn (YL XB)) XA)
   (Zu (XH (Xk (UP (Yj hr)) (dv 9) (W6 ZU)) (Zn (SE SB.nd (UY a1i hr (Vj (WO (xq:=XW) (dv 9)) (Vj (WO (xq:=XW) (dv 1)) (SA 4 Rz)))))) XA)
   (Zu (XH (VQ (X9 (Zz a1z hr (ZW (dv 2) (ZW (dv 1) (ZW (dv 9) ZU)))))) (Zn (YL XB)) XA)
   (Zu (xW 7)
   (Zn (XH (Xk (UP (Yj hr)) (DN.de (HD a0r hr (ZW (dv 6) ZU))) (Zz a0s hr (ZW (dv 5) ZU))) (Zn (YL XB)) XA))))))))))))))))
  (Zn (YL XB)))))),?_⟩
 intro ns;obtain⟨rs,er,h6,gr⟩:=a7c ns 0;have er:a3e [Up ns,.int 0]=.ok (dR rs):=er;obtain⟨gok,R⟩:=gr.ok h6;have n1:=gr.n1;have hne:rs≠[]:=λz=>by rw[z] at n1;cases n1
 have hr:=R.ok;have em:Ws [dR rs,.non]=.ok (WC (dR rs) (dR [])):=An gok;have b0:=a6x rs [] [] R (λq h=>(nomatch h)) (by simp) (by simp[VN])
 have b0:a5c [gI A rs [],dR rs,.lst []]=.ok (.bl true):=b0;have hc:=a6u ns;have le:Yv [Up ns]=.ok (.int (ns.length:Int)):=by rw[Oe];simp
 generalize Up ns=sc at *
 refine Sr rfl ?_;refine Vf (Q:=Xj _) (dR rs) (by simp[ZV,er]) rfl ?_
 refine Vf (Q:=Xj _) (gI A rs []) (by simp[ZV,Vx,Sx,em]) rfl ?_
 refine RN (Q:=Xj _) false (by simp[ZV,frz,YK,b0,a7g]) (λz=>nomatch z) λ_=>?_
 refine th (Q:=Xj _) rfl ?_;obtain⟨mn,emn,hmn⟩:∃mn:Int,M8 [.int (ns.length:Int),.int 20]=.ok (.int mn)/\mn<=20:=⟨_,rfl,by split<;>lia⟩
 obtain⟨mx,emx,hmx,hmx2⟩:∃mx:Int,M7 [.int 10,.int mn]=.ok (.int mx)/\10<=mx/\mx<=20:=⟨_,rfl,by split<;>lia,by split<;>lia⟩
 obtain⟨es,erg,hes⟩:∃es,Na [.int 8,.int mx]=.ok es/\∀d∈es,∃k:Nat,d=dN k:=by
  refine⟨Y6 8 (mx - 8).toNat,?_,λd hd=>?_⟩
  ·show gd _ _=_
   rw[Wx (by lia)]
  ·simp [Y6] at hd
   obtain⟨k,_,rfl⟩:=hd;exact⟨8+k,by simp⟩
 refine JP (T:=LQ A sc rs) ?_ λo h=>by
  cases h with
  | mk x3 x4 x5 x6 x7 x8 x9 e=>subst e;rfl
 refine SM (Q:=LQ A sc rs) (v:=es) (by simp[ZV,le,emn,emx,erg]) ?_
 refine FN (S:=LS A sc rs) _ (λρ h=>by
  cases h with
  | mk x3 x4 x5 x6 x7 x8 x9 e=>subst e;exact⟨x3,x4,x5,x6,x7,x8,x9,rfl⟩) ?_ _ _ ⟨_,_,_,_,_,_,_,rfl,hes⟩
 rintro d ds ρ ⟨x3,x4,x5,x6,x7,x8,x9,rfl,hds⟩;obtain⟨k,rfl⟩:=hds d z6;have hds:=λd m=>hds d (z5 _ m)
 obtain⟨c,ec⟩:=hc k;obtain⟨j,a1,hj,ed⟩:=a2w (c - 1000000000000000000) c 0 rs.length (by lia) (by lia) (by lia)
 have ej:rs[j]?=some rs[j]:=y9 hj;have i1:Xi (dR rs) (dN j)=.ok (rT rs[j]):=NA ej;have i2:Xi (rT rs[j]) (.int 0)=.ok (.str rs[j].1):=rfl;have gh:=(hr _ (t7 hj)).gh;generalize rs[j]=p at ej i1 i2 gh;obtain⟨⟨m,a2,k2,r2⟩,⟨y1,y2,y3,y4,y5,y6,y7,y8⟩,ex⟩:=a6t rs p.1 c 6 (a1,1,40) R gh (by lia) ⟨by simp,by simp⟩
 have ex:g_law_expanded [.val (dR rs),.val (.str p.1),.own (X8 a1 c 1),.val (.int 6),.own (.l [.int 40])]=.ok (toD m,[.val (dR rs),.val (.str p.1),.own (X8 a2 c k2),.val (.int 6),.own (.l [.int r2])]):=ex;simp only at y1 y2 y3 y4 y5 y6 y7 y8;have mk:=a6n m (by lia) y1
 have st:=a4b m (by lia)
 have ls:=a7k m (by lia) (by lia)
 have gq:=B3 m y1;have nb:=Q2 m y1;have ns1:=Fh (HF gq);have sl:=JZ m;have sr:=zU m;have sp0:=K6 (m:=m);have by1:=a6x rs [] (Z8 m) R gq (by lia) (by lia)
 have rw1:Rw rs m:=⟨y1,y2⟩;have it:=a6i rs [] (Yp rs m) m (by lia) hr (H9 hr rw1) y1 (by lia)
 have sy:=a4a rs m y2;have tb:=p_by rs [] (Z8 m) (by lia) hr gq (by lia)
 obtain⟨ca,ea,hca⟩:=a3s m m y1 y1 (by lia)
 rw[hca.mpr rfl] at ea;obtain⟨q1,a3,k3,e3,s3,hk3⟩:=p_sp true rs (Z8 m) a2 c k2 R hne gq (by lia) (by lia) (by lia)
 have e3:g_law_spoilt [.own (.l ((Z8 m).map Zj)),.val (dR rs),.own (X8 a2 c k2)]=.ok (.lst (q1.map Zj),[.own (.l ((Z8 m).map Zj)),.val (dR rs),.own (X8 a3 c k3)]):=e3;have s3l:=s3.l;have s3d:=s3.d;have by2:=a6x rs [] q1 R s3.g (by lia) (by lia)
 have nq:=Q3 s3.g;have pm:Yu rs (Yp rs m) m=true->(Yr rs [] (Z8 m)).bind Wf=some m:=Bs y1;generalize Yu rs (Yp rs m) m=fb at it pm;generalize (Yr rs [] (Z8 m)).bind Wf=pb at tb pm;refine⟨_,rfl,?_⟩;refine Vf (Q:=LO A sc rs ds) (OD.l [.int (c - 1000000000000000000),.int c,dN 0]) (by simp[ec,a6w]) rfl ?_
 refine Vf (Q:=LO A sc rs ds) (toD m,l0 A sc rs (some (.val (dN k))) (some (.own (X8 a2 c k2))) x5 x6 x7 x8 x9) (by
  simp[Rh,Rg,Wn,ZK,W8,unp,Yo,W1,Yv,ed,i1,i2,ex,-WX,-Res.bind_ok,-L2.go_ok,-Out.then_nx,Zf,WR,Zg,-Nq,-NB,Wo,M9]) rfl ?_
 refine Vf (Q:=LO A sc rs ds) (tr A m) (by simp[mk]) rfl ?_
 refine Vf (Q:=LO A sc rs ds) (OD.l ((Z8 m).map Zj)) (by simp[st]) rfl ?_
 have il:Wk [.lst ((Z8 m).map Zj),.ty "list"]=.ok (.bl true):=rfl;refine RN (Q:=LO A sc rs ds) false (by simp[frz,YK,OD.toD,il,ls,ns1]) (λz=>nomatch z) λ_=>?_
 refine th (Q:=LO A sc rs ds) rfl ?_;refine th (Q:=LO A sc rs ds) (ρ:=lr A sc rs k (X8 a2 c k2) (toD m) (tr A m) (Z8 m) x9) (by
  refine VH (Bc (ds:=(Z8 m).map Zj) λd md=>?_) rfl
  obtain⟨q,mq,rfl⟩:=u3.mp md;have h1:Wk [Zj q,.ty "tuple"]=.ok (.bl true):=rfl;have h2:Xi (Zj q) (.int 1)=.ok q.2:=rfl;simp[frz,YK,h1,h2,nb q mq]) ?_
 refine RN (Q:=LO A sc rs ds) false (by simp[frz,YK,OD.toD,by1]) (λz=>nomatch z) λ_=>?_
 refine th (Q:=LO A sc rs ds) rfl ?_;refine th (Q:=LO A sc rs ds) (ρ:=lr A sc rs k (X8 a2 c k2) (toD m) (tr A m) (Z8 m) x9) (by
  cases fb with
  | false=>simp[frz,YK,OD.toD,sy,it]
  | true =>
   rw[pm rfl] at tb;simp[frz,YK,OD.toD,sy,it,tb,Vh,ea]) ?_
 refine Vf (Q:=LO A sc rs ds) (.lst (q1.map Zj),lr A sc rs k (X8 a3 c k3) (toD m) (tr A m) (Z8 m) x9) (by
  simp[Rh,Rg,Wn,ZK,W8,unp,Yo,W1,e3,-List.map_map,-WX,-Res.bind_ok,-L2.go_ok,-Out.then_nx,Zf,WR,Zg,-Nq,-NB,Wo,M9]) rfl ?_
 refine RN (Q:=LO A sc rs ds) false (by simp[frz,YK,OD.toD,by2]) (λz=>nomatch z) λ_=>?_
 refine th (Q:=LO A sc rs ds) rfl ?_;refine JP (T:=L9 A sc rs k c (toD m) (tr A m) (Z8 m)) ?_ ?_
 ·refine IA (Q:=L9 A sc rs k c (toD m) (tr A m) (Z8 m)) (!decide (q1=[])) (by simp [frz,YK,OD.toD,nq]) (fun z=>?_) fun z=>?_
  ·have z:q1≠[]:=by simpa using z
   obtain⟨q2,a4,k4,e4,s4,hk4⟩:=p_sp false rs q1 a3 c k3 R hne s3.g (List.length_pos_iff.mpr z) (by lia) (by lia)
   have e4:g_law_spoilt [.val (.lst (q1.map Zj)),.val (dR rs),.own (X8 a3 c k3)]=.ok (.lst (q2.map Zj),[.val (.lst (q1.map Zj)),.val (dR rs),.own (X8 a4 c k4)]):=e4;have s4l:=s4.l;have s4d:=s4.d;refine SM (Q:=L9 A sc rs k c (toD m) (tr A m) (Z8 m)) (v:=(.lst (q2.map Zj),lr A sc rs k (X8 a4 c k4) (toD m) (tr A m) (Z8 m) (some (.val (.lst (q1.map Zj)))))) (by
    simp[Rh,Rg,Wn,ZK,W8,unp,Yo,W1,e4,-List.map_map,-WX,-Res.bind_ok,-L2.go_ok,-Out.then_nx,Zf,WR,Zg,-Nq,-NB,Wo,M9]) ?_
   exact⟨q2,a4,k4,rfl,s4.g,by lia,by lia⟩
  ·exact⟨q1,a3,k3,rfl,s3.g,by lia,by lia⟩
 rintro o ⟨q2,a4,k4,rfl,g2,l2,d2⟩;have by3:=a6x rs [] q2 R g2 (by lia) (by lia)
 refine RN (Q:=LO A sc rs ds) false (by simp[frz,YK,OD.toD,by3]) (λz=>nomatch z) λ_=>?_
 refine th (Q:=LO A sc rs ds) rfl ?_;refine th (Q:=LO A sc rs ds) rfl ?_;refine IA (Q:=LO A sc rs ds) false (by simp[frz,YK,OD.toD,st,ls,ns1]) (λz=>nomatch z) λ_=>?_
 exact .inl ⟨_,rfl,_,_,_,_,_,_,_,rfl,hds⟩
noncomputable def Tl (K:W.Frag):Bool:=K.all λp=>match p.2.cls with
 | .type T=>!(T=="list")
 | _=>true
set_option tactic.hygienic true in
def xQ(h:Tl K=true) {a:Addr}{o:Obj} (e:K.lookup a=some o):o.cls≠.type "list":=λz=>by
 have hm:(a,o)∈K:=by
  unfold Tl at h;clear h;induction K with
  | nil=>cases e
  | cons p K ih =>
   obtain⟨b,u⟩:=p;rw[u5] at e;split at e
   ·rename_i q
    cases e;rw[beq_iff_eq.mp q];exact z6
   ·exact z5 _ (ih e)
 have:=Ku.mp h _ hm
 simp only[z] at this;simp at this
theorem zT{F:Hp}:∀ns:List Int,Rps K F (ns.map V.int) (ns.map D.int)
 | []=>.nil
 | n::ns=>.cons (.int n) (zT ns)
def US (K:W.Frag):Sp:=λvs H Q _=>∃(a:Addr) (ns:List Int),vs=[.ref a]/\Wr K H a (ns.map V.int)/\∀H',Q (.bl true) H'
def PP{G:FD} (nl:Tl K=true) (h:FnOk P w K mg base Z0 k f fd ps (Zt K G)) (p:∀ns:List Int,G [Up ns]=.ok (.bl true)) :
  FnOk P w K mg base Z0 k f fd ps (US K):=h.imp λvs H Q E ⟨a,ns,e,hs,q⟩=>by
 subst e;rcases hs with hs|⟨o,ZO,n,e1,e2,_⟩
 ·refine ⟨H,[Up ns],Same.refl H,.cons (.lst hs (zT ns)) .nil,?_⟩
  rw[p ns];intro v F' H' st pv;cases pv;exact q H'
 ·exact absurd e2 (xQ nl e1)
def AtF (K:W.Frag) (x:Str) (st:Stmt):Prop:=∃f oc od kV dc pm an cd ct sl,W.nsIn K mainGlobals x=some (some (.ref f))/\K.lookup f=some ⟨oc,od,.func (W.fnOf x x (Ye st) (Z3 st) (ZX st) .none kV dc pm an cd ct),sl⟩/\W.codeIn K cd x=true/\W.keepIn K (.ref f)=true
def AtM (K:W.Frag) (C:Addr) (x q:Str) (st:Stmt):Prop:=∃f oc od kV dc pm an cd ct sl,W.findIn K (.ref C) x=some (some (.ref f))/\W.isFn K (.ref f)=true/\K.lookup f=some ⟨oc,od,.func (W.fnOf x q (Ye st) (Z3 st) (ZX st) .none kV dc pm an cd ct),sl⟩/\W.codeIn K cd q=true/\W.keepIn K (.ref f)=true
section
variable {q fl m:Str}{st:Stmt}{p1 p2 p3 p4 p5:Str}
def AtF.go (a:AtF K x st) (X:K.In h) (G:h.Ns mainGlobals mg):∃f fd,Fun K x x st f fd/\mg x=some (.ref f)/\W.keepIn K (.ref f)=true:=by
 obtain⟨f,oc,od,kV,dc,pm,an,cd,ct,sl,h1,h2,h3,h4⟩:=a;exact⟨f,_,FK h2 h3 h4,XY X G h1,h4⟩
def AtM.go (a:AtM K C x q st):∃f fd,Fun K x q st f fd/\RJ K C x f:=by
 obtain⟨f,oc,od,kV,dc,pm,an,cd,ct,sl,h1,h2,h3,h4,h5⟩:=a;exact⟨f,_,FK h3 h4 h5,h1,h2,h5⟩
abbrev bA (x q:Str) (st:Stmt) (us:List Value) (l:List (Str×Value)):Prop:=∀(kV doc pm:Value) (an:Option Addr) (Zm ct:Value),bindArgs (W.fnOf x q (Ye st) (Z3 st) (ZX st) .none kV doc pm an Zm ct) ⟨us,[]⟩=pure l
def _root_.L2.Fun.b0 (F:Fun K x q st f fd) (e:bA x q st [] []):Binds K fd [] []:=F.binds λkV doc pm an Zm ct us hl=>match us,hl with | [],_=>e kV doc pm an Zm ct
def _root_.L2.Fun.b1 (F:Fun K x q st f fd) (e:∀a,bA x q st [a] [(p1,a)]):Binds K fd [p1] []:=F.binds λkV doc pm an Zm ct us hl=>match us,hl with | [a],_=>e a kV doc pm an Zm ct
def _root_.L2.Fun.b2 (F:Fun K x q st f fd) (e:∀a b,bA x q st [a,b] [(p1,a),(p2,b)]):Binds K fd [p1,p2] []:=F.binds λkV doc pm an Zm ct us hl=>match us,hl with | [a,b],_=>e a b kV doc pm an Zm ct
def _root_.L2.Fun.b3 (F:Fun K x q st f fd) (e:∀a b c,bA x q st [a,b,c] [(p1,a),(p2,b),(p3,c)]):Binds K fd [p1,p2,p3] []:=F.binds λkV doc pm an Zm ct us hl=>match us,hl with | [a,b,c],_=>e a b c kV doc pm an Zm ct
def _root_.L2.Fun.b4 (F:Fun K x q st f fd) (e:∀a b c d,bA x q st [a,b,c,d] [(p1,a),(p2,b),(p3,c),(p4,d)]):Binds K fd [p1,p2,p3,p4] []:=F.binds λkV doc pm an Zm ct us hl=>match us,hl with | [a,b,c,d],_=>e a b c d kV doc pm an Zm ct
def _root_.L2.Fun.b5 (F:Fun K x q st f fd) (e:∀a b c d g,bA x q st [a,b,c,d,g] [(p1,a),(p2,b),(p3,c),(p4,d),(p5,g)]):Binds K fd [p1,p2,p3,p4,p5] []:=F.binds λkV doc pm an Zm ct us hl=>match us,hl with | [a,b,c,d,g],_=>e a b c d g kV doc pm an Zm ct
def X5(H:FnOk P w K mg base Z0 k f fd ps (Zt K g)) (b:Binds K fd ps []) (kp:W.keepIn K (.ref f)=true) (a:mg x=some (.ref f)):Callee P w K mg base k x ps (Zt K g):=⟨f,fd,H,b,kp,a⟩
end
def Ga {g:List Sl->Res (D×List Sl)} (H:FnOk P w K mg base Z0 k f fd ps (Uv K g)) (b:Binds K fd ps []) (kp:W.keepIn K (.ref f)=true) (a:mg x=some (.ref f)):Callee P w K mg base k x ps (Uv K g):=⟨f,fd,H,b,kp,a⟩
def Se(c:Cls K C) (m:RJ K C x f) (H:FnOk P w K mg base Z0 k f fd ps (Zt K g)) (b:Binds K fd ps []):Zp P w K mg base k C x ps g:=⟨f,fd,c,m,H,b⟩
def Go{R:Addr->α->Prop} (h1:∃g,R A.Leaf g) (h2:∃g,R A.Node g):∃g:Addr->α,∀C∈[A.Leaf,A.Node],R C (g C):=by
 classical
 obtain⟨g1,h1⟩:=h1;obtain⟨g2,h2⟩:=h2;refine⟨λC=>if C=A.Leaf then g1 else g2,λC hC=>?_⟩
 by_cases c:C=A.Leaf
 ·rw[c];simp only[if_true];exact h1
 ·rcases Kf.mp hC with h | h
  ·exact absurd h c
  ·simp only[if_neg c];rw[h];exact h2
def Cd:FnOk P w K mg base Z0 k f fd ps (Zt K λ_=>.bad):=⟨λvs H Q E z9140=>by obtain⟨F,ds,_,_,q⟩:=z9140;exact q.elim,λA outer s H args us vs Q E _ _ _ _ z9141=>by obtain⟨F,ds,_,_,q⟩:=z9141;exact q.elim⟩
def Ix:FnOk P w K mg base Z0 k f fd ps (Uv K λ_=>.bad):=⟨λvs H Q E z9142=>by obtain⟨F,hb,sl,_,_,q⟩:=z9142;exact q.elim,λA outer s H args us vs Q E _ _ _ _ z9143=>by obtain⟨F,hb,sl,_,_,q⟩:=z9143;exact q.elim⟩
theorem QB {R:Nat->(List D->Res D)->Prop} (r0:R 0 λ_=>.bad) (b:Binds K fd ps []) (kp:W.keepIn K (.ref f)=true) (a:mg x=some (.ref f))
  (step:∀k d g,3<=k->Callee P w K mg base k x ps (Zt K g)->R d g->∃G,FnOk P w K mg base Z0 (k+1) f fd ps (Zt K G)/\R (d+1) G):∀d,∃G,Callee P w K mg base (3+d) x ps (Zt K G)/\R d G
 | 0=>⟨_,X5 Cd b kp a,r0⟩
 | d+1=>by
  obtain⟨g,c,r⟩:=QB r0 b kp a step d;obtain⟨G,H,r'⟩:=step (3+d) d g (by lia) c r
  exact⟨G,X5 H b kp a,r'⟩
theorem Jz {R:Nat->(List Sl->Res (D×List Sl))->Prop} (r0:R 0 λ_=>.bad) (b:Binds K fd ps []) (kp:W.keepIn K (.ref f)=true) (a:mg x=some (.ref f))
  (step:∀k d g,3<=k->Callee P w K mg base k x ps (Uv K g)->R d g->∃G,FnOk P w K mg base Z0 (k+1) f fd ps (Uv K G)/\R (d+1) G):∀d,∃G,Callee P w K mg base (3+d) x ps (Uv K G)/\R d G
 | 0=>⟨_,Ga Ix b kp a,r0⟩
 | d+1=>by
  obtain⟨g,c,r⟩:=Jz r0 b kp a step d;obtain⟨G,H,r'⟩:=step (3+d) d g (by lia) c r
  exact⟨G,Ga H b kp a,r'⟩
def yu {g:List D->Res (List D)} (H:FnOk P w K mg base Z0 k f fd ps (UT K g)) (b:Binds K fd ps []) (kp:W.keepIn K (.ref f)=true) (a:mg x=some (.ref f)):Callee P w K mg base k x ps (UT K g):=⟨f,fd,H,b,kp,a⟩
def FA{C1 C2:Addr}{b1 b2:Bool} (i1:Ig K C1) (i2:Ig K C2) (k1:W.kitOne K (.ref C1) (.ref C)=some b1) (k2:W.kitOne K (.ref C2) (.ref C)=some b2) (kb:∀T∈(["NoneType","bool","int","str","list","tuple","dict"]:List String),W.kitOne K (.type T) (.ref C)=some false):OX K C [(C1,b1),(C2,b2)] []:=⟨λp hp=>by
 simp only[y0,u0,or_false] at hp;rcases hp with rfl|rfl
 ·exact⟨i1,k1⟩
 ·exact⟨i2,k2⟩,λp hp=>(nomatch hp),kb⟩
def FP (m:Md):1<=dp m:=by cases m<;>simp[dp]
set_option maxHeartbeats 0 in
theorem all_mk{l:W.OpenLaw}{fa fl tG fG CGrammar CTree CLeaf CNode:Addr} (X:K.In h) (G:h.Ns mainGlobals mg) (hfa:mg "law"=some (.ref fa)) {odt odG anG odl anl:Option Addr}{CV slG sll:Array (Option Value)}{oct ocG kVG dcG pmG cdG ctG ocl kVl dcl pml cdl ctl:Value}{nT:Nat}{tMOST_IN_BODY tMOST_RULES tMOST_HEADS tMOST_SIGNS tMOST_RANKS tLONGEST tIN_SIGNS tGREAT tSMALL_AND_FIGURES:Tok}
  (h0:AtF K "is_whole" E2) (h1:AtF K "is_short_text" Dg) (h2:AtF K "has_only" GG) (h3:AtF K "is_sign" Eg) (h4:AtF K "is_head" Ej) (h5:AtF K "is_symbol" E5) (h6:AtF K "is_pair" Ei) (h7:AtF K "is_body" GW) (h8:AtF K "is_rule" Eh) (h9:AtF K "heads_in" GF) (h10:AtF K "signs_in" DV) (h11:AtF K "need_rules" DM) (h12:AtF K "need_known_heads" Di) (h13:AtF K "need_few_symbols" Dj) (h14:AtF K "need_ranks" DP) (h15:AtF K "is_rule_number" Dp) (h16:AtF K "children_of" DJ) (h17:AtF K "are_alike_here" Dq) (h18:AtF K "alike" ES) (h19:AtF K "fits" Fw) (h20:AtF K "is_tree" Ee) (h21:AtF K "steps_of" DU) (h22:AtF K "is_step" Ef) (h23:AtF K "tree_of_step" GB) (h24:AtF K "tree_by" Ec) (h25:AtF K "_law_cell" E1) (h26:AtF K "_law_stir" DY) (h27:AtF K "_law_row" Ed) (h28:AtF K "_law_heads" GM) (h29:AtF K "_law_signs" GJ) (h30:AtF K "_law_shape" Dy) (h31:AtF K "_law_symbol" Dr) (h32:AtF K "_law_drawn_rules" Gs) (h33:AtF K "_law_rules" GK) (h34:AtF K "_law_stream" Ds) (h35:AtF K "_law_draw" DZ) (h36:AtF K "_law_made" GE) (h37:AtF K "_law_flat" JV) (h38:AtF K "_law_expanded" JR) (h39:AtF K "_law_is" EJ) (h40:AtF K "_law_steps" Dx) (h41:AtF K "_law_is_sign" Gw) (h42:AtF K "_law_symbol_for" Do) (h43:AtF K "_law_is_rule" DH) (h44:AtF K "_law_piled" GL) (h45:AtF K "_law_spoilt" Dt) (h46:AtF K "_law_by" EK) (h47:AtF K "_law_chain" Dz) (gG:W.nsIn K mainGlobals "Grammar"=some (some (.ref CGrammar))) (J4e:AtM K CGrammar "need_number" "Grammar.need_number" Df) (J3z:AtM K CGrammar "head_of" "Grammar.head_of" Dv) (J3w:AtM K CGrammar "body_of" "Grammar.body_of" Dw) (aG:W.findIn K (.ref CGrammar) "__init__"=some (some (.ref fG))) (lG:K.lookup fG=some ⟨ocG,odG,.func (W.fnOf "__init__" "Grammar.__init__" (Ye R5) (Z3 R5) (ZX R5) (.ref tG) kVG dcG pmG anG cdG ctG),slG⟩) (ltG:K.lookup tG=some ⟨oct,odt,.seq #[.none] nT,CV⟩) (cG:W.codeIn K cdG "Grammar.__init__"=true) (pgG:W.plainGet K CGrammar Str.empty=true) (hdG:W.hasDictIn K CGrammar=true) (poG:W.plainOver K CGrammar=true) (saG:W.findIn K (.ref CGrammar) "__setattr__"=some (some (.builtin "object.__setattr__"))) (mkG:W.makesIn K CGrammar=true) (fnG:W.isFn K (.ref fG)=true) (kpG:W.keepIn K (.ref CGrammar)=true) (J4k:W.findIn K (.ref CGrammar) "rules"=some none) (J4j:W.findIn K (.ref CGrammar) "ranks"=some none) (J4l:W.findIn K (.ref CGrammar) "start"=some none) (J1a:W.nsIn K mainGlobals "Tree"=some (some (.ref CTree))) (J0s:W.nsIn K mainGlobals "Leaf"=some (some (.ref CLeaf))) (J0y:W.nsIn K mainGlobals "Node"=some (some (.ref CNode))) (J5j:W.plainGet K CLeaf Str.empty=true) (J1h:W.hasDictIn K CLeaf=true) (J5l:W.plainOver K CLeaf=true) (J5n:W.findIn K (.ref CLeaf) "__setattr__"=some (some (.builtin "object.__setattr__"))) (J4c:W.makesIn K CLeaf=true) (J3n:W.keepIn K (.ref CLeaf)=true) (J1f:W.findIn K (.ref CLeaf) "__class__"=some (some (.builtin "object.__class__"))) (J1j:W.mroIn K CLeaf (.type "object")=some true) (J1n:AtM K CLeaf "__init__" "Leaf.__init__" DD) (J4f:AtM K CLeaf "size" "Tree.size" Gv) (J3x:AtM K CLeaf "depth" "Tree.depth" GC) (J4a:AtM K CLeaf "is_leaf" "Leaf.is_leaf" Dn) (J4h:AtM K CLeaf "symbol_in" "Leaf.symbol_in" Dl) (J4m:W.findIn K (.ref CLeaf) "sign"=some none) (J4o:W.findIn K (.ref CLeaf) "tree_size"=some none) (J4n:W.findIn K (.ref CLeaf) "tree_depth"=some none) (J5k:W.plainGet K CNode Str.empty=true) (J1i:W.hasDictIn K CNode=true) (J5m:W.plainOver K CNode=true) (J5o:W.findIn K (.ref CNode) "__setattr__"=some (some (.builtin "object.__setattr__"))) (J4d:W.makesIn K CNode=true) (J3o:W.keepIn K (.ref CNode)=true) (J1g:W.findIn K (.ref CNode) "__class__"=some (some (.builtin "object.__class__"))) (J1k:W.mroIn K CNode (.type "object")=some true) (J1o:AtM K CNode "__init__" "Node.__init__" L0) (J4g:AtM K CNode "size" "Tree.size" Gv) (J3y:AtM K CNode "depth" "Tree.depth" GC) (J4b:AtM K CNode "is_leaf" "Node.is_leaf" Dm) (J4i:AtM K CNode "symbol_in" "Node.symbol_in" Dk) (J4q:W.findIn K (.ref CNode) "number"=some none) (J4p:W.findIn K (.ref CNode) "children"=some none) (J4s:W.findIn K (.ref CNode) "tree_size"=some none) (J4r:W.findIn K (.ref CNode) "tree_depth"=some none) (hn:W.specialIn K (.builtin "object.__class__") "__get__"=some (some (.builtin "getset_descriptor.__get__"))) (ht:W.takesIn K (.builtin "object.__class__")=some true) (J1t:W.kitOne K (.ref CLeaf) (.ref CTree)=some true) (J1x:W.kitOne K (.ref CNode) (.ref CTree)=some true) (J2a:∀T∈(["NoneType","bool","int","str","list","tuple","dict"]:List String),W.kitOne K (.type T) (.ref CTree)=some false) (J1r:W.kitOne K (.ref CLeaf) (.ref CLeaf)=some true) (J1v:W.kitOne K (.ref CNode) (.ref CLeaf)=some false) (J1y:∀T∈(["NoneType","bool","int","str","list","tuple","dict"]:List String),W.kitOne K (.type T) (.ref CLeaf)=some false) (J1s:W.kitOne K (.ref CLeaf) (.ref CNode)=some false) (J1w:W.kitOne K (.ref CNode) (.ref CNode)=some true) (J1z:∀T∈(["NoneType","bool","int","str","list","tuple","dict"]:List String),W.kitOne K (.type T) (.ref CNode)=some false) (ne:CLeaf≠CNode) (nl:Tl K=true) (J0u:W.nsIn K mainGlobals "MOST_IN_BODY"=some (some (.int 4 tMOST_IN_BODY))) (J0w:W.nsIn K mainGlobals "MOST_RULES"=some (some (.int 20 tMOST_RULES))) (J0t:W.nsIn K mainGlobals "MOST_HEADS"=some (some (.int 8 tMOST_HEADS))) (J0x:W.nsIn K mainGlobals "MOST_SIGNS"=some (some (.int 10 tMOST_SIGNS))) (J0v:W.nsIn K mainGlobals "MOST_RANKS"=some (some (.int 6 tMOST_RANKS))) (J0r:W.nsIn K mainGlobals "LONGEST"=some (some (.int 6 tLONGEST))) (J0q:W.nsIn K mainGlobals "IN_SIGNS"=some (some (.str "abcdefghijklmnopqrstuvwxyz0123456789+-*/()[]=<>,;.!?^&" tIN_SIGNS))) (J0p:W.nsIn K mainGlobals "GREAT"=some (some (.str "ABCDEFGHIJKLMNOPQRSTUVWXYZ" tGREAT))) (J0z:W.nsIn K mainGlobals "SMALL_AND_FIGURES"=some (some (.str "abcdefghijklmnopqrstuvwxyz0123456789" tSMALL_AND_FIGURES))) (zz:∀x∈(["isinstance","str","int","bool","list","tuple","len","all","range","enumerate","sorted","set","zip","max","min","sum","reversed"]:List Str),W.nsIn K mainGlobals x=some none) (al:W.nsIn K mainGlobals "law"=some (some (.ref fl))) (ll:K.lookup fl=some ⟨ocl,odl,.func (W.fnOf "law" "law" (Ye Rf) (Z3 Rf) (ZX Rf) .none kVl dcl pml anl cdl ctl),sll⟩) (cl:W.codeIn K cdl "law"=true) (kl:W.keepIn K (.ref fl)=true)
  : ∃fd:FuncData,(∀(s:Shared) (v:Value),BindsTo s fd ⟨[v],[]⟩ [("_law_script",v)])/\∀base:Heap,K.In base->base.Ns mainGlobals mg->FnOk l.prog w K mg base Z0 142 fa fd ["_law_script"] (US K):=by
 cases hfa.symm.trans (XY X G al);refine XD λhZ=>?_
 let A:XM:=⟨CGrammar,CTree,CLeaf,CNode⟩
 have J0n:Cls K CLeaf:=⟨J5j,J1h,J5l,J5n⟩;have J1l:Ig K CLeaf:=⟨J0n,J1f,hn,ht,J1j⟩;have J0o:Cls K CNode:=⟨J5k,J1i,J5m,J5o⟩;have J1m:Ig K CNode:=⟨J0o,J1g,hn,ht,J1k⟩;have J5i:OX K CTree _ _:=FA J1l J1m J1t J1x J2a;have J5g:OX K CLeaf _ _:=FA J1l J1m J1r J1v J1y;have J5h:OX K CNode _ _:=FA J1l J1m J1s J1w J1z;have T:Txt l.prog w K mg A:={ z_isinstance:=Zr X G (zz _ (by decide)),z_str:=Zr X G (zz _ (by decide)),z_int:=Zr X G (zz _ (by decide)),z_bool:=Zr X G (zz _ (by decide)),z_list:=Zr X G (zz _ (by decide)),z_tuple:=Zr X G (zz _ (by decide)),z_len:=Zr X G (zz _ (by decide)),z_all:=Zr X G (zz _ (by decide)),z_range:=Zr X G (zz _ (by decide)),z_enumerate:=Zr X G (zz _ (by decide)),z_sorted:=Zr X G (zz _ (by decide)),z_set:=Zr X G (zz _ (by decide)),z_zip:=Zr X G (zz _ (by decide)),z_max:=Zr X G (zz _ (by decide)),z_min:=Zr X G (zz _ (by decide)),z_sum:=Zr X G (zz _ (by decide)),z_reversed:=Zr X G (zz _ (by decide)),g_MOST_IN_BODY:=⟨.int _,⟨_,XY X G J0u,⟨_,rfl⟩⟩,λF=>.int _⟩,g_MOST_RULES:=⟨.int _,⟨_,XY X G J0w,⟨_,rfl⟩⟩,λF=>.int _⟩,g_MOST_HEADS:=⟨.int _,⟨_,XY X G J0t,⟨_,rfl⟩⟩,λF=>.int _⟩,g_MOST_SIGNS:=⟨.int _,⟨_,XY X G J0x,⟨_,rfl⟩⟩,λF=>.int _⟩,g_MOST_RANKS:=⟨.int _,⟨_,XY X G J0v,⟨_,rfl⟩⟩,λF=>.int _⟩,g_LONGEST:=⟨.int _,⟨_,XY X G J0r,⟨_,rfl⟩⟩,λF=>.int _⟩,g_IN_SIGNS:=⟨.str _,⟨_,XY X G J0q,⟨_,rfl⟩⟩,λF=>.str (by decide +kernel)⟩,g_GREAT:=⟨.str _,⟨_,XY X G J0p,⟨_,rfl⟩⟩,λF=>.str (by decide +kernel)⟩,g_SMALL_AND_FIGURES:=⟨.str _,⟨_,XY X G J0z,⟨_,rfl⟩⟩,λF=>.str (by decide +kernel)⟩,m_Tree:=XY X G J1a,m_Leaf:=XY X G J0s,m_Node:=XY X G J0y,cls:=⟨pgG,hdG,poG,saG⟩,na_rules:=J4k,na_ranks:=J4j,na_start:=J4l,c_Leaf:=J0n,na_Leaf_sign:=J4m,na_Leaf_tree_size:=J4o,na_Leaf_tree_depth:=J4n,c_Node:=J0o,na_Node_number:=J4q,na_Node_children:=J4p,na_Node_tree_size:=J4s,na_Node_tree_depth:=J4r,o_Tree:=J5i,o_Leaf:=J5g,o_Node:=J5h,ne:=ne }
 obtain⟨_,_,F0,a0,kk0⟩:=h0.go X G;obtain⟨_,_,F1,a1,kk1⟩:=h1.go X G;obtain⟨_,_,F2,a2,kk2⟩:=h2.go X G;obtain⟨_,_,F3,a3,kk3⟩:=h3.go X G;obtain⟨_,_,F4,a4,kk4⟩:=h4.go X G;obtain⟨_,_,F5,a5,kk5⟩:=h5.go X G;obtain⟨_,_,F6,a6,kk6⟩:=h6.go X G;obtain⟨_,_,F7,a7,kk7⟩:=h7.go X G;obtain⟨_,_,F8,a8,kk8⟩:=h8.go X G;obtain⟨_,_,F9,a9,kk9⟩:=h9.go X G;obtain⟨_,_,F10,a10,J2b⟩:=h10.go X G;obtain⟨_,_,F11,a11,J2c⟩:=h11.go X G;obtain⟨_,_,F12,a12,J2d⟩:=h12.go X G;obtain⟨_,_,F13,a13,J2e⟩:=h13.go X G;obtain⟨_,_,F14,a14,J2f⟩:=h14.go X G;obtain⟨_,_,F15,a15,J2g⟩:=h15.go X G;obtain⟨_,_,F16,a16,J2h⟩:=h16.go X G;obtain⟨_,_,F17,a17,J2i⟩:=h17.go X G;obtain⟨_,_,F18,a18,J2j⟩:=h18.go X G;obtain⟨_,_,F19,a19,J2k⟩:=h19.go X G;obtain⟨_,_,F20,a20,J2l⟩:=h20.go X G;obtain⟨_,_,F21,a21,J2m⟩:=h21.go X G;obtain⟨_,_,F22,a22,J2n⟩:=h22.go X G;obtain⟨_,_,F23,a23,J2o⟩:=h23.go X G;obtain⟨_,_,F24,a24,J2p⟩:=h24.go X G;obtain⟨_,_,F25,a25,J2q⟩:=h25.go X G;obtain⟨_,_,F26,a26,J2r⟩:=h26.go X G;obtain⟨_,_,F27,a27,J2s⟩:=h27.go X G;obtain⟨_,_,F28,a28,J2t⟩:=h28.go X G;obtain⟨_,_,F29,a29,J2u⟩:=h29.go X G;obtain⟨_,_,F30,a30,J2v⟩:=h30.go X G;obtain⟨_,_,F31,a31,J2w⟩:=h31.go X G;obtain⟨_,_,F32,a32,J2x⟩:=h32.go X G;obtain⟨_,_,F33,a33,J2y⟩:=h33.go X G;obtain⟨_,_,F34,a34,J2z⟩:=h34.go X G;obtain⟨_,_,F35,a35,J3a⟩:=h35.go X G;obtain⟨_,_,F36,a36,J3b⟩:=h36.go X G;obtain⟨_,_,F37,a37,J3c⟩:=h37.go X G;obtain⟨_,_,F38,a38,J3d⟩:=h38.go X G;obtain⟨_,_,F39,a39,J3e⟩:=h39.go X G;obtain⟨_,_,F40,a40,J3f⟩:=h40.go X G;obtain⟨_,_,F41,a41,J3g⟩:=h41.go X G;obtain⟨_,_,F42,a42,J3h⟩:=h42.go X G;obtain⟨_,_,F43,a43,J3i⟩:=h43.go X G;obtain⟨_,_,F44,a44,J3j⟩:=h44.go X G;obtain⟨_,_,F45,a45,J3k⟩:=h45.go X G;obtain⟨_,_,F46,a46,J3l⟩:=h46.go X G;obtain⟨_,_,F47,a47,J3m⟩:=h47.go X G;have FL:=FK (st:=Rf) ll cl kl;obtain⟨_,_,J0i,J5b⟩:=J4e.go;obtain⟨_,_,J0d,J4w⟩:=J3z.go;obtain⟨_,_,J0a,J4t⟩:=J3w.go;obtain⟨_,_,J0e,J4x⟩:=J1n.go;obtain⟨_,_,J0j,J5c⟩:=J4f.go;obtain⟨_,_,J0b,J4u⟩:=J3x.go;obtain⟨_,_,J0g,J4z⟩:=J4a.go;obtain⟨_,_,J0l,J5e⟩:=J4h.go;obtain⟨_,_,J0f,J4y⟩:=J1o.go;obtain⟨_,_,J0k,J5d⟩:=J4g.go;obtain⟨_,_,J0c,J4v⟩:=J3y.go;obtain⟨_,_,J0h,J5a⟩:=J4b.go;obtain⟨_,_,J0m,J5f⟩:=J4i.go;have FG:FunD K "__init__" "Grammar.__init__" R5 fG _:=⟨_,_,_,_,_,_,_,_,_,_,rfl,lG,cG⟩;have bG2:Binds K (W.fnOf "__init__" "Grammar.__init__" (Ye R5) (Z3 R5) (ZX R5) (.ref tG) kVG dcG pmG anG cdG ctG) ["self","rules","ranks"] [.none]:=λs us XI hl=>by
  match us,hl with
  | [_,_],_=>exact BindsTo.of_defaults rfl (XI _ _ ltG) rfl rfl rfl
  | [],h=>simp at h
  | [_],h=>simp at h
  | _::_::_::_,h=>simp at h
 refine hZ ⟨W.fnOf "law" "law" (Ye Rf) (Z3 Rf) (ZX Rf) .none kVl dcl pml anl cdl ctl,λs v=>.of_eq rfl,λbase _ _=>XD λhY=>?_⟩
 obtain⟨_,H,a2j⟩:=sJ (P:=l.prog) (w:=w) (base:=base)  F1 T;have a0h:=X5 H (F1.b1 λ_ _ _ _ _ _ _=>rfl) kk1 a1
 obtain⟨_,H,a4v⟩:=uv (P:=l.prog) (w:=w) (base:=base)  F2 T;have a1l:=X5 H (F2.b2 λ_ _ _ _ _ _ _ _=>rfl) kk2 a2
 obtain⟨_,H,a1c⟩:=va a0h a1l a2j a4v F3 T;have a0i:=X5 H (F3.b1 λ_ _ _ _ _ _ _=>rfl) kk3 a3
 obtain⟨_,H,a4t⟩:=ut (P:=l.prog) (w:=w) (base:=base)  F0 T;have a1j:=X5 H (F0.b1 λ_ _ _ _ _ _ _=>rfl) kk0 a0
 obtain⟨_,H,a1g⟩:=si a1j a4t F15 T;have a0b:=X5 H (F15.b2 λ_ _ _ _ _ _ _ _=>rfl) J2g a15
 obtain⟨_,H,a2i⟩:=sM a1j a4t J0i T;have J3t:=Se T.cls J5b H (J0i.b2 λ_ _ _ _ _ _ _ _=>rfl)
 obtain⟨_,H,a4c⟩:=vw J3t a2i J0d T;have J3r:=Se T.cls J4w H (J0d.b2 λ_ _ _ _ _ _ _ _=>rfl)
 obtain⟨_,H,a2z⟩:=vx J3t a2i J0a T;have J3p:=Se T.cls J4t H (J0a.b2 λ_ _ _ _ _ _ _ _=>rfl)
 obtain⟨_,H,a6s⟩:=Qt a0i a0b J3r J3p a1c a1g a4c a2z F19 T;have a6v:=X5 H (F19.b3 λ_ _ _ _ _ _ _ _ _=>rfl) J2k a19
 obtain⟨J1c,J5q⟩:=Go (A:=A) (R:=λC g=>Zp l.prog w K mg base 1 C "is_leaf" ["self"] g/\(C=A.Leaf->∀d,g [d]=.ok (.bl true))/\(C=A.Node->∀d,g [d]=.ok (.bl false)))
  (by
   obtain⟨G,H,p⟩:=sF (P:=l.prog) (w:=w) (base:=base)  J0g T;exact⟨G,Se J0n J4z H (J0g.b1 λ_ _ _ _ _ _ _=>rfl),λ_=>p,λe=>absurd e ne⟩)
  (by
   obtain⟨G,H,p⟩:=sE (P:=l.prog) (w:=w) (base:=base)  J0h T;exact⟨G,Se J0o J5a H (J0h.b1 λ_ _ _ _ _ _ _=>rfl),λe=>absurd e.symm ne,λ_=>p⟩)
 have J3s:=λC h=>(J5q C h).1
 have a0j:UZ A J1c:=⟨λd=>(J5q A.Leaf (by simp)).2.1 rfl d,λd=>(J5q A.Node (by simp)).2.2 rfl d⟩
 obtain⟨_,H,a5m⟩:=uY a6v J3s J3p a6s a0j a2z F20 T;have a1x:=X5 H (F20.b3 λ_ _ _ _ _ _ _ _ _=>rfl) J2l a20
 obtain⟨_,H,a0t⟩:=sL J3s a0j F16 T;have a0e:=X5 H (F16.b1 λ_ _ _ _ _ _ _=>rfl) J2h a16
 obtain⟨_,H,a0q⟩:=sj J3s a0j F17 T;have a1h:=X5 H (F17.b2 λ_ _ _ _ _ _ _ _=>rfl) J2i a17
 obtain⟨_,H,a3s⟩:=xH a0e a1h a0t a0q F18 T;have a3u:=X5 H (F18.b2 λ_ _ _ _ _ _ _ _=>rfl) J2j a18
 obtain⟨_,H,a3k⟩:=vp (P:=l.prog) (w:=w) (base:=base)  F6 T;have a1y:=X5 H (F6.b1 λ_ _ _ _ _ _ _=>rfl) kk6 a6
 obtain⟨_,H,a6p⟩:=uZ a1y a3k F22 T;have a3m:=X5 H (F22.b2 λ_ _ _ _ _ _ _ _=>rfl) J2n a22
 obtain⟨J1e,J5s⟩:=Go (A:=A) (R:=λC g=>Zp l.prog w K mg base 4 C "symbol_in" ["self","grammar"] g/\(C=A.Leaf->∀s d,g [tr A (.leaf s),d]=.ok (.str s))/\(C=A.Node->∀(rs kk:List RR) n cs p,0<=n->rs[n.toNat]?=some p->rs.length<=1000->g [tr A (.node n cs),gI A rs kk]=.ok (.str p.1)))
  (by
   obtain⟨G,H,p⟩:=sm (P:=l.prog) (w:=w) (base:=base)  J0l T;exact⟨G,Se J0n J5e H (J0l.b2 λ_ _ _ _ _ _ _ _=>rfl),λ_=>p,λe=>absurd e ne⟩)
  (by
   obtain⟨G,H,p⟩:=sk a0b J3r a1g a4c J0m T;exact⟨G,Se J0o J5f H (J0m.b2 λ_ _ _ _ _ _ _ _=>rfl),λe=>absurd e.symm ne,λ_=>p⟩)
 have J3v:=λC h=>(J5s C h).1
 have a5r:LA A J1e:=⟨(J5s A.Leaf (by simp)).2.1 rfl,(J5s A.Node (by simp)).2.2 rfl⟩
 have J1q:Y1 l.prog w K mg base 1 "Leaf" A.Leaf ["self","sign"] K14.gLeaf:=⟨_,_,⟨J4c,J4x.1,J4x.fn,J3n⟩,tH (P:=l.prog) (w:=w) (base:=base) J0e T,(J0e.b2 λ_ _ _ _ _ _ _ _=>rfl),XY X G J0s⟩
 have a3l:∀s:Str,K14.gLeaf [.str s]=.ok [("sign",.str s),("tree_size",.int 1),("tree_depth",.int 1)]:=λ_=>rfl
 obtain⟨J1d,J5r⟩:=Go (A:=A) (R:=λC g=>Zp l.prog w K mg base 1 C "size" ["self"] g/\∀d,Tz A d->g [d]=.ok (.int (Ru d)))
  (by
   obtain⟨G,H,p⟩:=yP (P:=l.prog) (w:=w) (base:=base)  J0j T;exact⟨G,Se J0n J5c H (J0j.b1 λ_ _ _ _ _ _ _=>rfl),p⟩)
  (by
   obtain⟨G,H,p⟩:=yP (P:=l.prog) (w:=w) (base:=base)  J0k T;exact⟨G,Se J0o J5d H (J0k.b1 λ_ _ _ _ _ _ _=>rfl),p⟩)
 have J3u:=λC h=>(J5r C h).1
 have a6k:=λC d h=>(J5r C h).2 d
 obtain⟨J1b,J5p⟩:=Go (A:=A) (R:=λC g=>Zp l.prog w K mg base 1 C "depth" ["self"] g/\∀d,Tz A d->g [d]=.ok (.int (Te d)))
  (by
   obtain⟨G,H,p⟩:=yE (P:=l.prog) (w:=w) (base:=base)  J0b T;exact⟨G,Se J0n J4u H (J0b.b1 λ_ _ _ _ _ _ _=>rfl),p⟩)
  (by
   obtain⟨G,H,p⟩:=yE (P:=l.prog) (w:=w) (base:=base)  J0c T;exact⟨G,Se J0o J4v H (J0c.b1 λ_ _ _ _ _ _ _=>rfl),p⟩)
 have J3q:=λC h=>(J5p C h).1
 have a6c:=λC d h=>(J5p C h).2 d
 have J1u:Y1 l.prog w K mg base 2 "Node" A.Node ["self","number","children"] (K14.gNode A):=⟨_,_,⟨J4d,J4y.1,J4y.fn,J3o⟩,tF J3u J3q a6k a6c J0f T,(J0f.b3 λ_ _ _ _ _ _ _ _ _=>rfl),XY X G J0y⟩
 have a2x:∀(n:Int) (ms:List Md),ms.length<=1000->∀{c:D},Ya c=some (YE A ms)->K14.gNode A [.int n,c]=.ok [("number",.int n),("children",.tup (YE A ms)),("tree_size",.int (1+XC ms)),("tree_depth",.int (1+VW ms))]:=λn ms h=>xv A n ms h
 obtain⟨_,H,a4o⟩:=sC a0i a0b a3m J3v J3p J1q J1u a6p a1c a5r a1g a2z a2x a3l F23 T;have a1u:=X5 H (F23.b3 λ_ _ _ _ _ _ _ _ _=>rfl) J2o a23
 obtain⟨_,H,a3z⟩:=uW a0e a1u a4o a0t F24 T;have a0u:=X5 H (F24.b2 λ_ _ _ _ _ _ _ _=>rfl) J2p a24
 obtain⟨_,H,a4s⟩:=ur (P:=l.prog) (w:=w) (base:=base)  F25 T;have a1a:=X5 H (F25.b2 λ_ _ _ _ _ _ _ _=>rfl) J2q a25
 obtain⟨_,H,a4r⟩:=ul (P:=l.prog) (w:=w) (base:=base)  F26 T;have a0z:=X5 H (F26.b2 λ_ _ _ _ _ _ _ _=>rfl) J2r a26
 obtain⟨_,H,a5l⟩:=uX a1a a0z a4s a4r F27 T;have a1m:=X5 H (F27.b4 λ_ _ _ _ _ _ _ _ _ _=>rfl) J2s a27
 obtain⟨_,H,a6a⟩:=tZ (P:=l.prog) (w:=w) (base:=base)  F28 T;have a2r:=X5 H (F28.b2 λ_ _ _ _ _ _ _ _=>rfl) J2t a28
 obtain⟨_,H,a5v⟩:=tV (P:=l.prog) (w:=w) (base:=base)  F29 T;have a2m:=X5 H (F29.b2 λ_ _ _ _ _ _ _ _=>rfl) J2u a29
 obtain⟨_,H,a3q⟩:=sA a1m a5l F32 T;have a0y:=X5 H (F32.b5 λ_ _ _ _ _ _ _ _ _ _ _=>rfl) J2x a32
 obtain⟨_,H,a5w⟩:=tW (P:=l.prog) (w:=w) (base:=base)  F30 T;have a2n:=X5 H (F30.b1 λ_ _ _ _ _ _ _=>rfl) J2v a30
 obtain⟨_,H,a5h⟩:=tq (P:=l.prog) (w:=w) (base:=base)  F31 T;have a2g:=X5 H (F31.b3 λ_ _ _ _ _ _ _ _ _=>rfl) J2w a31
 obtain⟨_,H,a5x⟩:=tX a1m a2r a2m a0y a2n a2g a5l a6a a5v a5w a5h a3q F33 T;have a2o:=X5 H (F33.b2 λ_ _ _ _ _ _ _ _=>rfl) J2y a33
 obtain⟨_,a1n,a5z⟩:=QB (x:="_law_made") (R:=Made A) (λm h=>by have:=FP m;lia) (F36.b1 λ_ _ _ _ _ _ _=>rfl) J3b a36 (λk d g hk cf rf=>um hk cf J1u J1q a2x a3l rf F36 T) 10
 have a6g:=a5z;obtain⟨_,a0s,a5j⟩:=QB (x:="_law_steps") (R:=G1) (λm h=>by have:=FP m;lia) (F40.b1 λ_ _ _ _ _ _ _=>rfl) J3f a40 (λk d g hk cf rf=>tU (P:=l.prog) (w:=w) (base:=base) hk cf rf F40 T) 10
 have a5u:=a5j;obtain⟨_,H,a1f⟩:=se (P:=l.prog) (w:=w) (base:=base)  F42 T;have a0a:=X5 H (F42.b2 λ_ _ _ _ _ _ _ _=>rfl) J3h a42
 obtain⟨_,a2q,a6o⟩:=QB (x:="_law_is") (R:=Ih A) (λm h=>by have:=FP m;lia) (F39.b2 λ_ _ _ _ _ _ _ _=>rfl) J3e a39 (λk d g hk cf rf=>vZ (P:=l.prog) (w:=w) (base:=base) hk cf rf F39 T) 137
 have a6y:Ih A 130 _:=λm h=>a6o m (by lia)
 obtain⟨_,H,a5a⟩:=sW (P:=l.prog) (w:=w) (base:=base)  F41 T;have a1v:=X5 H (F41.b1 λ_ _ _ _ _ _ _=>rfl) J3g a41
 obtain⟨_,H,a5b⟩:=sK (P:=l.prog) (w:=w) (base:=base)  F43 T;have a1w:=X5 H (F43.b2 λ_ _ _ _ _ _ _ _=>rfl) J3i a43
 obtain⟨_,H,a5y⟩:=tY a1v a0a a1w a5a a5b a1f F44 T;have a2p:=X5 H (F44.b2 λ_ _ _ _ _ _ _ _=>rfl) J3j a44
 obtain⟨_,H,a6z⟩:=wa a1x a0u a2q a0a a2p a5y a3z a6y a1f a5m F46 T;have a1z:=X5 H (F46.b3 λ_ _ _ _ _ _ _ _ _=>rfl) J3l a46
 obtain⟨_,H,a4q⟩:=uh a0e J3s a0j a0t F21 T;have a0r:=yu H (F21.b1 λ_ _ _ _ _ _ _=>rfl) J2m a21
 obtain⟨_,H,a0p⟩:=vq a0h a1l a2j a4v F4 T;have a0x:=X5 H (F4.b1 λ_ _ _ _ _ _ _=>rfl) kk4 a4
 obtain⟨_,H,a3a⟩:=tE a0i a0x a1c a0p F5 T;have a3b:=X5 H (F5.b1 λ_ _ _ _ _ _ _=>rfl) kk5 a5
 obtain⟨_,H,a4f⟩:=vt a3b a3a F7 T;have a4i:=X5 H (F7.b1 λ_ _ _ _ _ _ _=>rfl) kk7 a7
 obtain⟨_,H,a4e⟩:=vc a1y a0x a4i a3k a0p a4f F8 T;have a4h:=X5 H (F8.b1 λ_ _ _ _ _ _ _=>rfl) kk8 a8
 obtain⟨_,H,a5e⟩:=tj a4h a4e F11 T;have a2k:=X5 H (F11.b1 λ_ _ _ _ _ _ _=>rfl) J2c a11
 obtain⟨_,H,a4u⟩:=uu (P:=l.prog) (w:=w) (base:=base)  F9 T;have a1k:=X5 H (F9.b1 λ_ _ _ _ _ _ _=>rfl) kk9 a9
 obtain⟨_,H,a3i⟩:=su a1k a0x a4u a0p F12 T;have a0v:=X5 H (F12.b1 λ_ _ _ _ _ _ _=>rfl) J2d a12
 obtain⟨_,H,a6f⟩:=uk a0i a1c F10 T;have a3t:=X5 H (F10.b1 λ_ _ _ _ _ _ _=>rfl) J2b a10
 obtain⟨_,H,a3j⟩:=sw a1k a3t a4u a6f F13 T;have a0w:=X5 H (F13.b1 λ_ _ _ _ _ _ _=>rfl) J2e a13
 obtain⟨_,H,a5f⟩:=tm (P:=l.prog) (w:=w) (base:=base)  F14 T;have a2l:=X5 H (F14.b1 λ_ _ _ _ _ _ _=>rfl) J2f a14
 have J1p:OY l.prog w K mg base 7 "Grammar" A.Grammar ["self","rules","ranks"] [.non] Ws:=⟨fG,_,[.non],[.none],⟨mkG,aG,fnG,kpG⟩,vv a2k a0v a0w a2l a5e a3i a3j a5f FG T,bG2,.cons rfl .nil,λF=>.cons .non .nil,XY X G gG⟩
 obtain⟨_,H,a6b⟩:=tD a3u a0u a0r J1q J1u J1p a3z a3s a4q a2x a3l F47 T;have a2s:=X5 H (F47.b0 λ_ _ _ _ _ _=>rfl) J3m a47
 obtain⟨_,H,a5i⟩:=tt (P:=l.prog) (w:=w) (base:=base)  F34 T;have a1t:=yu H (F34.b1 λ_ _ _ _ _ _ _=>rfl) J2z a34
 obtain⟨_,H,a3r⟩:=uq a0z a4r F35 T;have a0f:=Ga H (F35.b2 λ_ _ _ _ _ _ _ _=>rfl) J3a a35
 obtain⟨_,H,a6h⟩:=uo (P:=l.prog) (w:=w) (base:=base)  F37 T;have a3c:=X5 H (F37.b2 λ_ _ _ _ _ _ _ _=>rfl) J3c a37
 obtain⟨_,a0k,a4d⟩:=Jz (x:="_law_expanded") (R:=Kx) (λrs sy c e s R g h=>by lia) (F38.b5 λ_ _ _ _ _ _ _ _ _ _ _=>rfl) J3d a38 (λk d g hk cf rf=>sD hk a3c a0f cf rf a3r a6h F38 T) 10
 have a4p:Kx 7 _:=λrs sy c e s R g h=>a4d rs sy c e s R g (by lia)
 obtain⟨_,H,a5k⟩:=tu a0f a3r F45 T;have a1i:=Ga H (F45.b3 λ_ _ _ _ _ _ _ _ _=>rfl) J3k a45
 obtain⟨_,H,pL⟩:=MX a1x a3u a0u a1a a2o a1n a0s a0a a1z a2s a0r a1t a0f a0k a1i J1p a5x a6z a6b a4s a5i a3r a4p a6g a4q a5u a1f a5m a3z a3s a5k FL T;exact hY (PP nl H pL)
def walk{l:W.OpenLaw}{XP:(Str->Option Value)->Heap->Prop}{YP:World->Heap->Prop}{d:DefRec}{K:Params->W.Frag} (hn:l.most=some 63) (hdf:d.params.defaults=[])
  (hY:∀(w:World) (h:Heap),YP w h->(K w.params).In h)
  (F:∀ (w:World) (mg:MG) (fa:Addr) (h:Heap),(K w.params).In h->h.Ns mainGlobals mg->mg d.name=some (.ref fa) ->
   ∃fd:FuncData,(∀(s:Shared) (u:Value),BindsTo s fd ⟨[u],[]⟩ [("_law_script",u)])/\∀base:Heap,(K w.params).In base->base.Ns mainGlobals mg->FnOk l.prog w (K w.params) mg base Z0 142 fa fd ["_law_script"] (US (K w.params))) :
  W.WalkO q loose XP YP l.row.toRowW d [] (λf vs=>PySem.call f vs) :=
 L2.walk_of (n:=63) (k:=142) (x:="_law_script") (CX:=λ_=>Z0) (sp:=λw=>US (K w.params)) hn (by decide) hdf ⟨rfl,by decide,by decide⟩ hY F (λ_ H a ns hl hO hS=>⟨a,ns,rfl,hS,λ_=>rfl⟩) λ_ _ _ _ _ z=>z
end K14
end
namespace PySem.W.Fast
def tw12939310264740697178:=True
def tw13522441868584944676:=True
def tw5080869501457526755:=True
def tw12627462327448620959:=True
def tw13968185351470521456:=True
def tw10085797480629907926:=True
def tw14825723690671225062:=True
def tw18367849717281390750:=True
def tw8700456696683082678:=True
def tw16286228938210012713:=True
def tw14676330930186746884:=True
def tw10171717180178051419:=True
def tw6073202398224767971:=True
def tw9904003830666430596:=True
def tw6163753740276500447:=True
def tw17806406429052475968:=True
def tw6059025441661602909:=True
def tw13427762711089149050:=True
def tw10148920811993093254:=True
def tw13185474093785055314:=True
def tw3518884855881491789:=True
def tw5638345513436774817:=True
def tw1722666971358651415:=True
def tw16763007209040887680:=True
def tw4293736941813844152:=True
def tw2386527458232273209:=True
def tw15202430270231202680:=True
def tw9243202474636179842:=True
def tw12811156372300663861:=True
def tw10118954949806331192:=True
def tw1121014766899920316:=True
def tw6476572020754263557:=True
def tw6583625173477980298:=True
def tw12592895060432255407:=True
def tw13140518442314061763:=True
def tw3600545413104833937:=True
def tw10931168184144650426:=True
def tw15329155949490628081:=True
def tw15801497370555773200:=True
def tw13231785496523663829:=True
def tw15751326248472138161:=True
def tw5268303043492586257:=True
def tw14234938418947650543:=True
def tw10264585065239945569:=True
def tw7914607501107678203:=True
def tw9914117585711744042:=True
def tw8373208185731423922:=True
def tw16859931662126464003:=True
def tw1393588713856916169:=True
def tw6335837573344777740:=True
def tw6420021743116101040:=True
def tw12489388656364124809:=True
def tw8124745350530094517:=True
def tw8556002712670529985:=True
def tw17463029613106822835:=True
def tw5511845225632079425:=True
def tw13319269266173598212:=True
def tw1479340417507561456:=True
def tw11986684496356982246:=True
def tw11700282953530170774:=True
def tw11580307456849034034:=True
def tw8793986599157644830:=True
def tw385813815345824428:=True
def tw2078187377115118600:=True
def tw10174412520515333557:=True
def tw18301355171947418575:=True
def tw4225654462241960900:=True
def tw8039221834742251450:=True
def tw17684403614575384747:=True
def tw15530245116806882962:=True
def tw15117531867062976799:=True
def tw12799347522937888443:=True
def tw10929258313198223536:=True
def tw11136188168829515717:=True
def tw7143638955070567168:=True
def tw11562920614611893877:=True
def tw731791021137838164:=True
def tw16377974746620579048:=True
def tw9725192353532349239:=True
def tw6096585886466433952:=True
def tw12508485499697022269:=True
def tw16915772086999907537:=True
def tw1253565201253924548:=True
def tw7968570000287458626:=True
def tw6648094469364395089:=True
def tw15945153949779508734:=True
def tw3155309551693356267:=True
def tw8021350483843052249:=True
def tw13604328768019526486:=True
def tw8538889126012652365:=True
def tw9808810400120634728:=True
def tw6134276327937504774:=True
def tw1741505308728307705:=True
def tw13676470650403042996:=True
def tw1659250130938126350:=True
def tw11420397293590285103:=True
def tw12403201294945181605:=True
def tw815629317054954285:=True
def tw17746289891061223971:=True
def tw8423370490006599150:=True
def tw3155331839035536480:=True
def tw18106812609278083684:=True
def tw1894616702700234227:=True
def tw15544320549136029452:=True
def tw13753538135378306126:=True
def tw268403894115257011:=True
def tw2179509672951853896:=True
def tw10194499210290223741:=True
def tw16406057552847701207:=True
def tw18177313785282687855:=True
def tw10903240099837430916:=True
def tw13615907347053893615:=True
def tw14052592740613659170:=True
def tw7114832743594843470:=True
def tw5955506326061626050:=True
def tw8847008826382079546:=True
def tw4887111409259369593:=True
def tw12896520415352897018:=True
def tw16145344868484353215:=True
def tw4158973846300477266:=True
def tw10977213336547957312:=True
def tw7155974140640825678:=True
def tw10423039192077568675:=True
def tw4994770899342939728:=True
def tw10424667663319482444:=True
def tw6788852147366674756:=True
def tw16065131017556993969:=True
def tw4011590361606225108:=True
def tw8506903342401232957:=True
def tw5223193462889655559:=True
def tw5550217440737460174:=True
def tw16048492147809258304:=True
def tw4422934749813769170:=True
def tw12294885846898195905:=True
def tw546745974049728577:=True
def tw18232911701484481051:=True
def tw13422931784196559781:=True
def tw12323134994839029897:=True
def tw1424516906596423101:=True
def tw11237501440362190746:=True
def tw9168588566235059162:=True
def tw17450667265784718646:=True
def tw8592608823504261023:=True
def tw13596313370912827493:=True
def tw2570502660159977521:=True
def tw10413459197664738125:=True
def tw9287760487855226300:=True
def tw4787922364624589440:=True
def tw6656624891936198084:=True
def tw7207672427127256935:=True
def tw2228203316926550990:=True
def tw18226097683502214860:=True
def tw17425117880239987013:=True
def tw11187319031053890615:=True
def tw3620796572509244830:=True
def tw11273803725743180501:=True
def tw2973732338617631165:=True
def tw9739938040144599612:=True
def tw306326306548932390:=True
def tw8575361895442032713:=True
def tw266717726586723779:=True
def tw4524661494537872698:=True
def tw16652012750016070677:=True
def tw12675164387269307435:=True
def tw10443850276409536947:=True
def tw13259146788920760787:=True
def tw4028228938554455879:=True
def tw10073880691274544725:=True
def tw6573842195309436086:=True
def tw1294849471278476962:=True
def tw4945188170164659327:=True
def tw15841923004464435037:=True
def tw12051239506791335161:=True
def tw16304933533582797330:=True
def tw14283102149241483354:=True
def tw9576334979496836379:=True
def tw5016944679162043529:=True
def tw3896925411861730640:=True
def tw9517514551451268847:=True
def tw4153453965937231635:=True
def tw6653230063377126825:=True
def tw2508718747652914190:=True
def tw9870698663411147083:=True
def tw3745845344906348353:=True
def tw7675774466524665173:=True
def tw6310457972129607860:=True
def tw8589847551429715324:=True
def tw12101405372549031606:=True
def tw14908097718104359900:=True
def tw11385865178936623110:=True
def tw2904546911064129786:=True
def tw8428801516277226976:=True
def tw6754971319796288410:=True
def tw9410226439925686096:=True
def tw15407756656889446086:=True
def tw8762003984678127484:=True
def tw16377315151818929083:=True
def tw2045811966207083692:=True
def tw18081308287760064169:=True
def tw9362272287422538144:=True
def tw14813553810336088950:=True
def tw4080236991363489765:=True
def tw11592374027667670131:=True
def tw7647618082570244686:=True
def tw6702375289894126201:=True
def tw14978304876360717138:=True
def tw15053343606237011750:=True
def tw19456926660584802:=True
def tw3305563824375836611:=True
def tw13668325242399379019:=True
def tw6740519829390931761:=True
def tw17168167745028895215:=True
def tw17794327770621727115:=True
def tw10024762609246076151:=True
def tw1813573019863528047:=True
def tw2435649929096755114:=True
def tw5615834126279834584:=True
def tw8846166474211248421:=True
def tw17905864033171467500:=True
def tw9972164431349277633:=True
def tw17313474023427685566:=True
def tw3143134443203200584:=True
def tw3589673520140505400:=True
def tw7843610743506269254:=True
def tw9298896748234814806:=True
def tw6657618899343196599:=True
def tw17402230310987475519:=True
def tw13663792454487777031:=True
def tw7900549994421619956:=True
def tw11109834715398816938:=True
def tw18201271392142660648:=True
def tw6027920529775336312:=True
def tw13012289423260820638:=True
def tw15700411787400486251:=True
def tw17516864779185470477:=True
def tw1089910562622221449:=True
def tw12221103873328656101:=True
def tw11294668853246038195:=True
def tw2801307435534007550:=True
def tw12503898221942317189:=True
def tw14667859245756818688:=True
def tw9963033474190277893:=True
def tw11086193486312610881:=True
def tw17271394773513384720:=True
def tw10518739344851976250:=True
def tw15020564742726925591:=True
def tw9867683409685765882:=True
def tw13871563748063576960:=True
def tw11686318884799827959:=True
def tw4567533662506083181:=True
def tw2213909697095188293:=True
def tw14393181719835170634:=True
def tw13757864140354162182:=True
def tw14851208885476475297:=True
def tw998304810226876737:=True
def tw3060939899963561497:=True
def tw5242533082627650823:=True
def tw898655127478165136:=True
def tw12767806193858791035:=True
def tw7276284116896029:=True
def tw9410491307767837672:=True
def tw16913117053963715803:=True
def tw6108673167528556301:=True
def tw1977916837246216104:=True
def tw2667613422989337794:=True
def tw8798945545557806708:=True
def tw10356189683089604927:=True
def tw16208404427951379005:=True
def tw7186948032179078653:=True
def tw10288154310563175104:=True
def tw10703069134562721621:=True
def tw14013842049770672202:=True
def tw12389277429690392829:=True
def tw3822885969818214431:=True
def tw8628421171371827868:=True
def tw7008681632104287334:=True
def tw8042298611736002299:=True
def tw13169849555439168598:=True
def tw16670126736297848282:=True
def tw9487024369991193731:=True
def tw16137792171769937499:=True
def tw8465240761554897751:=True
def tw6546356085825181404:=True
def tw9501557686425677168:=True
def tw16847182864302532958:=True
def tw16119913638810167907:=True
def tw13683983883279514834:=True
def tw15515539617462571932:=True
def tw17757533104559685403:=True
def tw6613413193384514960:=True
def tw6900074407154193171:=True
def tw13344658335382599790:=True
def tw5596329905481110600:=True
def tw3023194038873530959:=True
def tw6269020851057030291:=True
def tw15241917292419396932:=True
def tw3856196071292690168:=True
def tw12592016262470402543:=True
def tw6242826358415558574:=True
def tw2628290209404384190:=True
def tw18150675921863966074:=True
def tw3806357352356737940:=True
def tw7537720656919419298:=True
def tw14823280732501028291:=True
def tw16195497955493503248:=True
def tw10801701478358533657:=True
def tw5055840075464467198:=True
def tw9403295191906747433:=True
def tw5471878065971532728:=True
def tw1035766391372826102:=True
def tw17236802299424890288:=True
def tw9458872067321654462:=True
def tw2552766758185764147:=True
def tw1994376352320435836:=True
def tw15540455674566071812:=True
def tw8258833665669369644:=True
def tw5000132277047094699:=True
def tw11311155543336914429:=True
def tw14973951161394192336:=True
def tw7681617292178216687:=True
def tw7385669866967260764:=True
def tw197544461994895985:=True
def tw14134742499400808633:=True
def tw8430516200468527239:=True
def tw16104480378022993048:=True
def tw4870311703731459275:=True
def tw211754373555998577:=True
def tw4714330954507738925:=True
def tw10666058699636728397:=True
def tw8023890403307970115:=True
def tw12437027574523576433:=True
def tw18312226334532636757:=True
def tw7565209043443624443:=True
def tw11061553352097563420:=True
def tw9489589188161883539:=True
def tw12379275597112319390:=True
def tw850722574839798887:=True
def tw5534382298613155786:=True
def tw13315035413744101164:=True
def tw4997019625812968343:=True
def tw7266386555065963599:=True
def tw17983510962769213845:=True
def tw5971509273692593939:=True
def tw3576821844575088489:=True
def tw4399275337831527401:=True
def tw14295283377121463466:=True
def tw11238665066612425914:=True
def tw3990988491789331136:=True
def tw15768510015852838204:=True
def tw4666790755393196120:=True
def tw3498387137464307683:=True
def tw3148035500024395108:=True
def tw8334235037641336319:=True
def tw3902968896913937653:=True
def tw8820018821178308984:=True
def tw6982260455677115240:=True
def tw10736201155228104944:=True
def tw12525928556686527414:=True
def tw16163148974479031720:=True
def tw7419583382209546309:=True
def tw15348695650626802638:=True
def tw17944381020005370119:=True
def tw16342570822852334319:=True
def tw14951268635817464524:=True
def tw3019269985595085359:=True
def tw16916749864632490675:=True
def tw16300159825799222963:=True
def tw14994891287715058019:=True
def tw2360767379516220970:=True
def tw1255655729158753948:=True
def tw6783832223569931697:=True
def tw5660034798705430531:=True
def tw8368199858426766760:=True
def tw13503447133124462414:=True
def tw16170051079026318630:=True
def tw5095572576445083265:=True
def tw5727968313395255374:=True
def tw4969556851345687904:=True
def tw9046141910957703211:=True
def tw4561546670997633572:=True
def tw15148878063763709571:=True
def tw7473356902879512959:=True
def tw2794440738378986575:=True
def tw6223515847689294172:=True
def tw13173047877118174276:=True
def tw16614021272364022581:=True
def tw18385359639672238265:=True
def tw15279683039983954605:=True
def tw432966821165046925:=True
def tw17209867456283302732:=True
def tw10929376492361621279:=True
def tw7490045433466769269:=True
def tw15557999616617928272:=True
def tw13991552149351753526:=True
def tw17077633274303730445:=True
def tw11985860902535057338:=True
def tw12968031922391237680:=True
def tw4679139630897502651:=True
def tw15346861165584722326:=True
def tw9176551770220901761:=True
def tw1197353201121877006:=True
def tw14476226876562018682:=True
def tw9335666312951136913:=True
def tw17368106305977224897:=True
def tw11886850814625457310:=True
def tw5531514326698750872:=True
def tw5549859464696262608:=True
def tw4653655029466870968:=True
def tw13229462847962983524:=True
def tw8983753026272466817:=True
def tw9456279845940732416:=True
def tw3731380960595699726:=True
def tw6041070901123561723:=True
def tw14998627722454975919:=True
def tw2773441356958250051:=True
def tw12995568158379448146:=True
def tw8466885943974638805:=True
def tw12122798372467274276:=True
def tw17375834662291747265:=True
def tw9711471160086103080:=True
def tw3266884070009088814:=True
def tw8887819551413923486:=True
def tw17311213310626724445:=True
def tw3789883185658892465:=True
def tw7900989369535945487:=True
def tw12853493620699249645:=True
def tw16855955573412987630:=True
def tw911869936172756067:=True
def tw13891484815845417875:=True
def tw1823579206707623246:=True
def tw9249779833623386127:=True
def tw14632927612559003107:=True
def tw7824938773518934339:=True
def tw4995655839014219111:=True
def tw2039799854287465184:=True
def tw4977479864154639753:=True
def tw18400305721632220596:=True
def tw10625668612615508110:=True
def tw7048199965034226607:=True
def tw3671163118103122727:=True
def tw10137626257047626682:=True
def tw1079247586323374484:=True
def tw15463769315707469729:=True
def tw3263893023105989277:=True
def tw4668840055660628202:=True
def tw104917657635644092:=True
def tw5932975624195441086:=True
def tw1165903273235002739:=True
def tw10303015836096382879:=True
def tw6315146287436291094:=True
def tw7688963297844357013:=True
def tw8502355325292770138:=True
def tw6175776159562039535:=True
def tw1895941830071023855:=True
def tw2125932826919137503:=True
def tw9772168942747642838:=True
def tw11401018211790461089:=True
def tw12411650715688172903:=True
def tw15395203525817809093:=True
def tw15827795232795929457:=True
def tw4586347401709839147:=True
def tw11829616353879044416:=True
def tw6512721330254318472:=True
def tw8215727205665206950:=True
def tw1468059706258451879:=True
def tw8762060504426331735:=True
def tw923034917072674002:=True
def tw7348820797518531364:=True
def tw2770332536660362743:=True
def tw10934785318934839352:=True
def tw1223748611041559287:=True
end PySem.W.Fast
open PySem PySem.W PyProof.Rows
set_option maxRecDepth 100000 in
set_option maxHeartbeats 0 in
theorem PySem.Challenge.cw_rulestable_k14_steps_there_and_back_holds : PySem.Challenge.rw_rulestable_k14_steps_there_and_back.Holds := by
  w_on; o_law; k_head; (case hw => w_witness2)
  k_fill
  refine K14.walk (l := PySem.Challenge.rw_rulestable_k14_steps_there_and_back) rfl rfl (fun w h Y => PySem.W.kIn_of Y) ?F
  case F =>
    intro w mg fa h KX G hmg
    refine' K14.all_mk KX G hmg ?h0 ?h1 ?h2 ?h3 ?h4 ?h5 ?h6 ?h7 ?h8 ?h9 ?h10 ?h11 ?h12 ?h13 ?h14 ?h15 ?h16 ?h17 ?h18 ?h19 ?h20 ?h21 ?h22 ?h23 ?h24 ?h25 ?h26 ?h27 ?h28 ?h29 ?h30 ?h31 ?h32 ?h33 ?h34 ?h35 ?h36 ?h37 ?h38 ?h39 ?h40 ?h41 ?h42 ?h43 ?h44 ?h45 ?h46 ?h47 ?h48 ?h49 ?h50 ?h51 ?h52 ?h53 ?h54 ?h55 ?h56 ?h57 ?h58 ?h59 ?h60 ?h61 ?h62 ?h63 ?h64 ?h65 ?h66 ?h67 ?h68 ?h69 ?h70 ?h71 ?h72 ?h73 ?h74 ?h75 ?h76 ?h77 ?h78 ?h79 ?h80 ?h81 ?h82 ?h83 ?h84 ?h85 ?h86 ?h87 ?h88 ?h89 ?h90 ?h91 ?h92 ?h93 ?h94 ?h95 ?h96 ?h97 ?h98 ?h99 ?h100 ?h101 ?h102 ?h103 ?h104 ?h105 ?h106 ?h107 ?h108 ?h109 ?h110 ?h111 ?h112 ?h113 ?h114 ?h115 ?h116 ?h117 ?h118 ?h119 ?h120 ?h121 ?h122 ?h123 ?h124 ?h125 ?h126 ?h127 ?h128
    case h0 | h1 | h2 | h3 | h4 | h5 | h6 | h7 | h8 | h9 | h10 | h11 | h12 | h13 | h14 | h15 | h16 | h17 | h18 | h19 | h20 | h21 | h22 | h23 | h24 | h25 | h26 | h27 | h28 | h29 | h30 | h31 | h32 | h33 | h34 | h35 | h36 | h37 | h38 | h39 | h40 | h41 | h42 | h43 | h44 | h45 | h46 | h47 => exact ⟨_, _, _, _, _, _, _, _, _, _, by k_is, by k_is, by k_is, by k_is⟩
    case h48 => k_is
    case h49 | h50 | h51 => exact ⟨_, _, _, _, _, _, _, _, _, _, by k_is, by first | k_is | kernel_rfl, by k_is, by k_is, by k_is⟩
    case h52 | h53 | h54 | h55 => k_is
    case h56 | h57 | h58 | h59 | h60 | h61 | h62 | h63 | h64 | h65 => first | k_is | kernel_rfl
    case h66 | h67 | h68 => k_is
    case h69 | h70 | h71 | h72 | h73 | h74 | h75 | h76 => first | k_is | kernel_rfl
    case h77 | h78 | h79 | h80 | h81 => exact ⟨_, _, _, _, _, _, _, _, _, _, by k_is, by first | k_is | kernel_rfl, by k_is, by k_is, by k_is⟩
    case h82 | h83 | h84 | h85 | h86 | h87 | h88 | h89 | h90 | h91 | h92 => first | k_is | kernel_rfl
    case h93 | h94 | h95 | h96 | h97 => exact ⟨_, _, _, _, _, _, _, _, _, _, by k_is, by first | k_is | kernel_rfl, by k_is, by k_is, by k_is⟩
    case h98 | h99 | h100 | h101 | h102 | h103 | h104 | h105 => first | k_is | kernel_rfl
    case h106 => intro x hx; simp only [List.mem_cons, List.not_mem_nil, or_false] at hx; rcases hx with rfl | rfl | rfl | rfl | rfl | rfl | rfl <;> first | k_is | kernel_rfl
    case h107 | h108 => first | k_is | kernel_rfl
    case h109 => intro x hx; simp only [List.mem_cons, List.not_mem_nil, or_false] at hx; rcases hx with rfl | rfl | rfl | rfl | rfl | rfl | rfl <;> first | k_is | kernel_rfl
    case h110 | h111 => first | k_is | kernel_rfl
    case h112 => intro x hx; simp only [List.mem_cons, List.not_mem_nil, or_false] at hx; rcases hx with rfl | rfl | rfl | rfl | rfl | rfl | rfl <;> first | k_is | kernel_rfl
    case h113 => decide
    case h114 => kernel_rfl
    case h115 | h116 | h117 | h118 | h119 | h120 | h121 | h122 | h123 => k_is
    case h124 => intro x hx; simp only [List.mem_cons, List.not_mem_nil, or_false] at hx; rcases hx with rfl | rfl | rfl | rfl | rfl | rfl | rfl | rfl | rfl | rfl | rfl | rfl | rfl | rfl | rfl | rfl | rfl <;> k_is
    case h125 | h126 | h127 | h128 => k_is
