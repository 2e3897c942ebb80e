import PyProof.Rows.All
import Wide.All
import OpenK.AllK
import Wide.FinOn
import Lean
import PyProof.EqAt
import PyProof.EqKinds
import PyProof.TupleCall
import PyProof.Rows.SetFrom
import PyProof.Rows.SortStr
import KE.KDictSum
import KE.KEqDict
import KE.KDictLaws
import PyProof.StrOps2
import PySem.Challenge.RW_rulestable_k67_kinds_of_words
set_option Elab.async false
set_option linter.all false
set_option maxRecDepth 100000
-- CHANGE: your row's module here, as the last of these rows
namespace L2
open PySem PySem.Spec PyProof.Rows

abbrev Key := Sum Int Str
def keyIs : Key → Value → Bool
  | .inl k, v => Value.isInt k v
  | .inr x, v => Value.isStrOf x v
def keyH (w : World) : Key → Int
  | .inl k => hashInt k
  | .inr x => hashStr w x
theorem keyIs_shape : ∀ {k : Key} {v : Value}, keyIs k v = true → (∃ i t, k = Sum.inl i ∧ v = Value.int i t) ∨ (∃ x t, k = Sum.inr x ∧ v = Value.str x t)
  | .inl i, v, h => by
    obtain ⟨t, e⟩ := Value.isInt_shape (k := i) (v := v) h
    exact .inl ⟨i, t, rfl, e⟩
  | .inr x, v, h => by
    obtain ⟨t, e⟩ := Value.isStrOf_shape (x := x) (v := v) h
    exact .inr ⟨x, t, rfl, e⟩
theorem keyIs_int (i : Int) (t : Tok) : keyIs (.inl i) (.int i t) = true := by simp [keyIs, Value.isInt]
theorem keyIs_str (x : Str) (t : Tok) : keyIs (.inr x) (.str x t) = true := by simp [keyIs, Value.isStrOf]
theorem key_ll (a b : Int) : decide ((Sum.inl a : Key) = Sum.inl b) = (a == b) := by
  by_cases e : a = b
  · subst e; simp
  · have h : ¬ (Sum.inl a : Key) = Sum.inl b := fun q => e (Sum.inl.inj q)
    rw [decide_eq_false h]
    exact (beq_eq_false_iff_ne.mpr e).symm
theorem key_rr (a b : Str) : decide ((Sum.inr a : Key) = Sum.inr b) = decide (a = b) := by
  by_cases e : a = b
  · subst e; simp
  · have h : ¬ (Sum.inr a : Key) = Sum.inr b := fun q => e (Sum.inr.inj q)
    rw [decide_eq_false h, decide_eq_false e]
theorem key_lr (a : Int) (b : Str) : decide ((Sum.inl a : Key) = Sum.inr b) = false := decide_eq_false (fun q => nomatch q)
theorem key_rl (a : Str) (b : Int) : decide ((Sum.inr a : Key) = Sum.inl b) = false := decide_eq_false (fun q => nomatch q)

def mixKind (prog : Program) (w : World) : PySem.KeyKind prog w Key where
  is := keyIs
  hash := keyH w
  inj := fun v a b ha hb => by
    rcases keyIs_shape ha with ⟨i, t, rfl, rfl⟩ | ⟨x, t, rfl, rfl⟩
    · rcases keyIs_shape hb with ⟨j, u, rfl, e⟩ | ⟨y, u, rfl, e⟩
      · injection e with e1 _; rw [e1]
      · exact nomatch e
    · rcases keyIs_shape hb with ⟨j, u, rfl, e⟩ | ⟨y, u, rfl, e⟩
      · exact nomatch e
      · injection e with e1 _; rw [e1]
  byValue := fun k v h => by
    rcases keyIs_shape h with ⟨i, t, rfl, rfl⟩ | ⟨x, t, rfl, rfl⟩ <;> rfl
  pyHash := fun hv h => by
    rcases keyIs_shape hv with ⟨i, t, rfl, rfl⟩ | ⟨x, t, rfl, rfl⟩
    · exact wpAny_pyHash_int h
    · exact wpAny_pyHash_str h
  eqBool := fun hu hv h => by
    rcases keyIs_shape hu with ⟨i, t, rfl, rfl⟩ | ⟨x, t, rfl, rfl⟩
    · rcases keyIs_shape hv with ⟨j, u, rfl, rfl⟩ | ⟨y, u, rfl, rfl⟩
      · rw [key_ll] at h; exact wpAny_eqBool_int h
      · rw [key_lr] at h; exact SeqAt.EqAt.int_str i t y u _ _ _ _ h
    · rcases keyIs_shape hv with ⟨j, u, rfl, rfl⟩ | ⟨y, u, rfl, rfl⟩
      · rw [key_rl] at h; exact SeqAt.EqAt.str_int x t j u _ _ _ _ h
      · rw [key_rr] at h; exact wpAny_eqBool_str h
  «strs» := fun k x t v h => by
    rcases keyIs_shape h with ⟨i, u, rfl, e⟩ | ⟨y, u, rfl, e⟩
    · exact nomatch e
    · injection e with e1 _
      subst e1
      cases v <;> rfl

theorem mixKind_int (prog : Program) (w : World) (i : Int) (t : Tok) : (mixKind prog w).is (.inl i) (.int i t) = true := keyIs_int i t
theorem mixKind_str (prog : Program) (w : World) (x : Str) (t : Tok) : (mixKind prog w).is (.inr x) (.str x t) = true := keyIs_str x t
end L2

namespace L2
open PySem PySem.Spec PyProof.Rows

inductive V where
  | non | bl (b : Bool) | int (i : Int) | str (x : Str) | byt (b : Array UInt8) | flt (b : UInt64) | ref (a : Addr) | ty (n : String)
  deriving DecidableEq

def RelV : V → Value → Prop
  | .non, u => u = Value.none
  | .bl b, u => u = Value.bool b
  | .int i, u => ∃ t, u = Value.int i t
  | .str x, u => ∃ t, u = Value.str x t
  | .byt b, u => ∃ t, u = Value.bytes b t
  | .flt b, u => ∃ t, u = Value.float b t
  | .ref a, u => u = Value.ref a
  | .ty n, u => u = Value.type n

abbrev Vals : List V → List Value → Prop := Paired RelV
theorem Vals.length {xs : List V} {us : List Value} (r : Vals xs us) : xs.length = us.length := Paired.length r
theorem Vals.get : ∀ {xs : List V} {us : List Value} {i : Nat} {x : V}, Vals xs us → xs[i]? = some x → ∃ u, us[i]? = some u ∧ RelV x u
  | _, _, _, _, .nil, e => by simp at e
  | _, _, 0, _, .cons r _, e => by simp at e; subst e; exact ⟨_, rfl, r⟩
  | _, _, i + 1, x, .cons _ t, e => by
    obtain ⟨u, h1, h2⟩ := Vals.get (i := i) (x := x) t (by simpa using e)
    exact ⟨u, by simpa using h1, h2⟩
theorem Vals.set {x : V} {u : Value} (r : RelV x u) : ∀ {xs : List V} {us : List Value} (i : Nat), Vals xs us → Vals (xs.set i x) (us.set i u)
  | _, _, _, .nil => .nil
  | _, _, 0, .cons _ t => .cons r t
  | _, _, i + 1, .cons q t => .cons q (Vals.set r i t)
theorem Vals.append : ∀ {xs ys : List V} {us ws : List Value}, Vals xs us → Vals ys ws → Vals (xs ++ ys) (us ++ ws)
  | _, _, _, _, .nil, s => s
  | _, _, _, _, .cons r t, s => .cons r (Vals.append t s)
theorem Vals.take : ∀ {xs : List V} {us : List Value} (n : Nat), Vals xs us → Vals (xs.take n) (us.take n)
  | _, _, 0, _ => .nil
  | _, _, _ + 1, .nil => .nil
  | _, _, n + 1, .cons r t => .cons r (Vals.take n t)
theorem Vals.drop : ∀ {xs : List V} {us : List Value} (n : Nat), Vals xs us → Vals (xs.drop n) (us.drop n)
  | _, _, 0, r => r
  | _, _, _ + 1, .nil => .nil
  | _, _, n + 1, .cons _ t => Vals.drop n t
def RelO : Option V → Option Value → Prop
  | some v, some u => RelV v u
  | none, none => True
  | _, _ => False
def KV {κ : Type} : List (κ × V) → List (κ × Value) → Prop := Paired fun (p : κ × V) (q : κ × Value) => p.1 = q.1 ∧ RelV p.2 q.2

def kV : Key → V
  | .inl i => .int i
  | .inr x => .str x

inductive HO where
  /-- a list -/
  | lst (xs : List V)
  /-- a tuple (never changes) -/
  | tup (xs : List V)
  /-- a dict whose keys are ints and texts; one whose keys are tuples of ints and texts (the empty one is both) -/
  | dK (kvs : List (Key × V)) | dT (kvs : List (List Key × V))
  /-- a set of ints: its members, its size -/
  | set (S : Int → Bool) (n : Nat)
  /-- an instance of the class at C, its dict at dx, its attributes -/
  | ins (C dx : Addr) (fs : List (Str × V))
  /-- the dict of the instance at x -/
  | own (x : Addr)
  /-- the dict of an exception -/
  | xd (fs : List (Str × V))
  /-- a bound method, f of x -/
  | met (f x : Addr)
  /-- a range object lo, lo + 1, .. below hi -/
  | rng (lo hi : Int)
  /-- a thing that is known to the object (the script; a dict while a loop walks it): read, never written while it is so -/
  | frz (o : Obj) (u : HO)
  /-- a code object's table -/
  | tbl (ps : Array Value)
  /-- any other thing, by what is true of its one object (a def of one's own: SetO a S n := HO.ext fun h => ..) -/
  | ext (φ : Heap → Prop)

abbrev Hp := Addr → Option HO
def upd (H : Hp) (a : Addr) (o : HO) : Hp := fun b => if b = a then some o else H b
theorem upd_same {H : Hp} {a : Addr} {o : HO} : upd H a o a = some o := by unfold upd; rw [if_pos rfl]
theorem upd_ne {H : Hp} {a b : Addr} {o : HO} (h : b ≠ a) : upd H a o b = H b := by unfold upd; rw [if_neg h]
theorem upd_upd {H : Hp} {a : Addr} {o u : HO} : upd (upd H a o) a u = upd H a u := by
  funext b; unfold upd; split <;> rfl
theorem ne_of {H : Hp} {a b : Addr} {o u : HO} (h : H a = some o) (h' : H b = some u) (d : o ≠ u) : a ≠ b := by
  intro e; subst e; rw [h] at h'; exact d (Option.some.inj h')
theorem ne_of_none {H : Hp} {a b : Addr} {o : HO} (h : H a = some o) (h' : H b = none) : a ≠ b := by
  intro e; subst e; rw [h] at h'; cases h'

section
variable (P : Program) (w : World)
def ObjOk (H : Hp) (h : Heap) (a : Addr) : HO → Prop
  | .lst xs => xs.length ≤ sizeLine ∧ ∃ (its : List Value) (n : Nat), Vals xs its ∧ h.get? a = some { cls := .type "list", data := .seq its.toArray n }
  | .tup xs => xs.length ≤ sizeLine ∧ ∃ its : List Value, Vals xs its ∧ IsTup h a its.toArray
  | .dK kvs => kvs.length ≤ sizeLine ∧ (a == sysModules) = false ∧ ∃ vs, KV kvs vs ∧ h.DictOf (mixKind P w) a vs
  | .dT kvs => kvs.length ≤ sizeLine ∧ (a == sysModules) = false ∧ ∃ xs : List (List Key × Addr × Value),
      Paired (fun (p : List Key × V) (q : List Key × Addr × Value) => p.1 = q.1 ∧ H q.2.1 = some (.tup (p.1.map kV)) ∧ RelV p.2 q.2.2) kvs xs ∧
      ∃ o es ep, h.get? a = some o ∧ o.ExactDict ∧ o.data = .dict es ep ∧ es.toList = xs.map (entryOfKey (tupleKind (mixKind P w))) ∧ (xs.map (·.1)).Nodup
  | .set S n => h.SetOf (intKind P w) a S n
  | .ins C dx fs => H dx = some (.own a) ∧ fs.length ≤ 1000 ∧ dx ≠ a ∧ h.get? a = some (PySem.W.instObj C dx) ∧
      ∃ mA, h.Ns1 dx mA ∧ (∀ f, RelO (fs.lookup f) (mA f)) ∧ PySem.Within mA (fs.map (·.1))
  | .own _ => ∃ o, h.get? a = some o
  | .xd fs => ∃ mA, h.Ns1 a mA ∧ ∀ f, RelO (fs.lookup f) (mA f)
  | .rng lo hi => ∃ t u v, h.get? a = some { cls := .type "range", data := .fields #[.int lo t, .int hi u, .int 1 v] }
  | .frz o u => h.get? a = some o ∧ ObjOk H h a u
  | .tbl ps => h.get? a = some { cls := .none, data := .fields ps }
  | .met f x => h.get? a = some (PySem.W.methodObj (.ref f) (.ref x))
  | .ext φ => φ h ∧ (∃ o, h.get? a = some o) ∧ ∀ h1 h2 : Heap, φ h1 → (∀ o, h1.get? a = some o → h2.get? a = some o) → φ h2
def HOk (H : Hp) (h : Heap) : Prop := ∀ a o, H a = some o → ObjOk P w H h a o
end

section
variable {P : Program} {w : World} {H H' : Hp} {h h' : Heap} {a : Addr} {o : HO}
theorem ObjOk.lt (x : ObjOk P w H h a o) : a < h.objs.size := by
  cases o with
  | lst xs => obtain ⟨_, _, _, _, e⟩ := x; exact Heap.lt_size e
  | tup xs => obtain ⟨_, _, _, p⟩ := x; exact p.lt
  | dK kvs => obtain ⟨_, _, _, _, o, _, _, e, _⟩ := x; exact Heap.lt_size e
  | dT kvs => obtain ⟨_, _, _, _, o, _, _, e, _⟩ := x; exact Heap.lt_size e
  | set S n => obtain ⟨o, _, _, _, e, _⟩ := x; exact Heap.lt_size e
  | ins C dx fs => obtain ⟨_, _, _, e, _⟩ := x; exact Heap.lt_size e
  | own y => obtain ⟨_, e⟩ := x; exact Heap.lt_size e
  | xd fs => obtain ⟨_, ⟨_, _, _, e, _⟩, _⟩ := x; exact Heap.lt_size e
  | rng lo hi => obtain ⟨_, _, _, e⟩ := x; exact Heap.lt_size e
  | frz ob u => obtain ⟨e, _⟩ := x; exact Heap.lt_size e
  | tbl ps => exact Heap.lt_size (show h.get? a = some _ from x)
  | met f y => exact Heap.lt_size (show h.get? a = some _ from x)
  | ext φ => obtain ⟨_, ⟨_, e⟩, _⟩ := x; exact Heap.lt_size e
theorem Paired.mapP {α β : Type} {F G : α → β → Prop} : ∀ {l₁ : List α} {l₂ : List β}, Paired F l₁ l₂ → (∀ a b, F a b → G a b) → Paired G l₁ l₂
  | _, _, .nil, _ => .nil
  | _, _, .cons r t, f => .cons (f _ _ r) (Paired.mapP t f)
theorem ObjOk.stay (x : ObjOk P w H h a o) (k : ∀ b u, (b = a ∨ H b = some (.own a)) → h.get? b = some u → h'.get? b = some u)
    (ho : ∀ b, H b = some (.own a) → H' b = some (.own a)) (ht : ∀ b xs, H b = some (.tup xs) → H' b = some (.tup xs)) : ObjOk P w H' h' a o := by
  induction o with
  | lst xs => obtain ⟨z, its, n, r, e⟩ := x; exact ⟨z, its, n, r, k _ _ (.inl rfl) e⟩
  | tup xs => obtain ⟨z, its, r, ob, e, c⟩ := x; exact ⟨z, its, r, ob, k _ _ (.inl rfl) e, c⟩
  | dK kvs => obtain ⟨z, y, vs, r, ob, es, ep, e, c⟩ := x; exact ⟨z, y, vs, r, ob, es, ep, k _ _ (.inl rfl) e, c⟩
  | dT kvs =>
    obtain ⟨z, y, xs, r, ob, es, ep, e, c⟩ := x
    exact ⟨z, y, xs, Paired.mapP r fun p q z => ⟨z.1, ht _ _ z.2.1, z.2.2⟩, ob, es, ep, k _ _ (.inl rfl) e, c⟩
  | set S n => obtain ⟨ob, es, ep, t, e, c⟩ := x; exact ⟨ob, es, ep, t, k _ _ (.inl rfl) e, c⟩
  | ins C dx fs =>
    obtain ⟨d, z, ne, e, mA, ⟨od, es, ep, e2, c⟩, r⟩ := x
    exact ⟨ho _ d, z, ne, k _ _ (.inl rfl) e, mA, ⟨od, es, ep, k _ _ (.inr d) e2, c⟩, r⟩
  | own y => obtain ⟨ob, e⟩ := x; exact ⟨ob, k _ _ (.inl rfl) e⟩
  | xd fs => obtain ⟨mA, ⟨od, es, ep, e, c⟩, r⟩ := x; exact ⟨mA, ⟨od, es, ep, k _ _ (.inl rfl) e, c⟩, r⟩
  | rng lo hi => obtain ⟨t, u, v, e⟩ := x; exact ⟨t, u, v, k _ _ (.inl rfl) e⟩
  | frz ob u ih => obtain ⟨e, q⟩ := x; exact ⟨k _ _ (.inl rfl) e, ih q⟩
  | tbl ps =>
    have e : h.get? a = some { cls := .none, data := .fields ps } := x
    show h'.get? a = some { cls := .none, data := .fields ps }
    exact k a _ (.inl rfl) e
  | met f y =>
    have e : h.get? a = some (PySem.W.methodObj (.ref f) (.ref y)) := x
    show h'.get? a = some (PySem.W.methodObj (.ref f) (.ref y))
    exact k a _ (.inl rfl) e
  | ext φ => obtain ⟨p, ⟨o, e⟩, st⟩ := x; exact ⟨st _ _ p fun o q => k _ _ (.inl rfl) q, ⟨o, k _ _ (.inl rfl) e⟩, st⟩
theorem HOk.lt (x : HOk P w H h) (e : H a = some o) : a < h.objs.size := (x a o e).lt
theorem HOk.fresh (x : HOk P w H h) (e : h.objs.size ≤ a) : H a = none := by
  cases q : H a with
  | none => rfl
  | some u => exact absurd (Nat.lt_of_lt_of_le (x.lt q) e) (Nat.lt_irrefl _)
theorem HOk.kept (x : HOk P w H h) (k : ∀ b u, h.get? b = some u → h'.get? b = some u) : HOk P w H h' := fun a o e =>
  (x a o e).stay (fun b u _ q => k b u q) (fun _ q => q) fun _ _ q => q
theorem HOk.laid (x : HOk P w H h) (k : ∀ b u, h.get? b = some u → h'.get? b = some u) (hp : h.objs.size ≤ a) (new : ObjOk P w (upd H a o) h' a o) : HOk P w (upd H a o) h' := fun b u e => by
  have hn := x.fresh hp
  by_cases hb : b = a
  · subst hb; rw [upd_same] at e; cases e; exact new
  · rw [upd_ne hb] at e
    exact (x b u e).stay (fun c v _ q => k c v q) (fun c q => by rw [upd_ne (ne_of_none q hn)]; exact q) fun c xs q => by rw [upd_ne (ne_of_none q hn)]; exact q
end

def Rd (H : Hp) (a : Addr) (u : HO) : Prop := H a = some u ∨ ∃ o, H a = some (.frz o u)
theorem Rd.ok {P : Program} {w : World} {H : Hp} {h : Heap} {a : Addr} {u : HO} (r : Rd H a u) (x : HOk P w H h) : ObjOk P w H h a u := by
  rcases r with r | ⟨o, r⟩
  · exact x a u r
  · obtain ⟨_, q⟩ := x a _ r
    exact q
def Mut : Option HO → Prop
  | some (.lst _) => True
  | some (.dK _) => True
  | some (.dT _) => True
  | some (.set _ _) => True
  | some (.ins _ _ _) => True
  | some (.ext _) => True
  | _ => False
section
variable {P : Program} {w : World} {H : Hp} {h h' : Heap} {x e : Addr} {o' : HO}
theorem HOk.write (ok : HOk P w H h) (mu : Mut (H x)) (he : e = x ∨ H e = some (.own x)) (k : ∀ b u, b ≠ e → h.get? b = some u → h'.get? b = some u) (heo : ∃ u, h'.get? e = some u)
    (new : ObjOk P w (upd H x o') h' x o') : HOk P w (upd H x o') h' := fun b u q => by
  have nown : ∀ c y, H c = some (.own y) → c ≠ x := fun c y r z => by subst z; rw [r] at mu; exact mu
  have ntup : ∀ c xs, H c = some (.tup xs) → c ≠ x := fun c xs r z => by subst z; rw [r] at mu; exact mu
  by_cases hb : b = x
  · subst hb; rw [upd_same] at q; cases q; exact new
  · rw [upd_ne hb] at q
    by_cases hbe : b = e
    · have q' : H b = some (.own x) := by
        rcases he with z | z
        · exact absurd (hbe.trans z) hb
        · rw [hbe]; exact z
      rw [q] at q'; cases q'
      obtain ⟨v, hv⟩ := heo
      exact ⟨v, by rw [hbe]; exact hv⟩
    · refine (ok b u q).stay (fun c v hc r => k c v ?_ r) (fun c r => by rw [upd_ne (nown c b r)]; exact r) fun c xs r => by rw [upd_ne (ntup c xs r)]; exact r
      rcases hc with rfl | hc
      · exact hbe
      · rintro rfl
        rcases he with z | z
        · exact nown c b hc z
        · rw [hc] at z; cases z; exact hb rfl
end

structure Un (fs ex : List Addr) (H H' : Hp) (h h' : Heap) : Prop where
  keep : ∀ b o, h.get? b = some o → H b = none → b ∉ fs → b ∉ ex → h'.get? b = some o
  slot : ∀ b o, h.get? b = some o → H b = none → b ∈ fs → b ∉ ex → ∃ sl, h'.get? b = some { o with slots := sl }
  free : ∀ b o, h.get? b = some o → H b = none → b ∉ ex → H' b = none
  there : ∀ b o, h.get? b = some o → b ∉ ex → ∃ o', h'.get? b = some o'
  tups : ∀ b xs, H b = some (.tup xs) → H' b = some (.tup xs)
  frzs : ∀ b o u, H b = some (.frz o u) → H' b = some (.frz o u)
  tbls : ∀ b ps, H b = some (.tbl ps) → ∃ more, H' b = some (.tbl (ps ++ more))
section
variable {fs fs' ex ex' : List Addr} {H H1 H2 : Hp} {h h1 h2 h' : Heap} {a x e : Addr} {o : HO}
theorem Un.any (u : Un fs ex H H1 h h1) {b : Addr} {ob : Obj} (q : h.get? b = some ob) (n : H b = none) (hx : b ∉ ex) : ∃ sl, h1.get? b = some { ob with slots := sl } := by
  by_cases hb : b ∈ fs
  · exact u.slot b ob q n hb hx
  · exact ⟨ob.slots, u.keep b ob q n hb hx⟩
theorem Un.kept (k : ∀ b u, h.get? b = some u → h'.get? b = some u) : Un fs ex H H h h' :=
  ⟨fun b ob q _ _ _ => k b ob q, fun b ob q _ _ _ => ⟨ob.slots, k b ob q⟩, fun _ _ _ n _ => n, fun b ob q _ => ⟨ob, k b ob q⟩, fun _ _ q => q, fun _ _ _ q => q, fun _ ps q => ⟨#[], by rw [q]; simp⟩⟩
theorem Un.refl : Un fs ex H H h h := Un.kept fun _ _ q => q
theorem Un.laid (k : ∀ b u, h.get? b = some u → h'.get? b = some u) (hp : h.objs.size ≤ a) (hn : H a = none) : Un fs ex H (upd H a o) h h' where
  keep := fun b u q _ _ _ => k b u q
  slot := fun b u q _ _ _ => ⟨u.slots, k b u q⟩
  free := fun b u q n _ => by rw [upd_ne (Nat.ne_of_lt (Nat.lt_of_lt_of_le (Heap.lt_size q) hp))]; exact n
  there := fun b u q _ => ⟨u, k b u q⟩
  tups := fun b xs q => by rw [upd_ne (ne_of_none q hn)]; exact q
  frzs := fun b u xs q => by rw [upd_ne (ne_of_none q hn)]; exact q
  tbls := fun b ps q => ⟨#[], by rw [upd_ne (ne_of_none q hn), q]; simp⟩
theorem Un.write (mu : Mut (H x)) (he : e = x ∨ H e = some (.own x)) (k : ∀ b u, b ≠ e → h.get? b = some u → h'.get? b = some u) (heo : ∃ u, h'.get? e = some u) : Un fs ex H (upd H x o) h h' := by
  have hx : ∀ b, H b = none → b ≠ x := fun b n z => by subst z; rw [n] at mu; exact mu
  have hb : ∀ b, H b = none → b ≠ e := fun b n z => by
    subst z
    rcases he with r | r
    · exact hx b n r
    · rw [n] at r; cases r
  have hm : ∀ b u, H b = some u → ¬ Mut (some u) → b ≠ x := fun b u q nm z => by subst z; rw [q] at mu; exact nm mu
  refine ⟨fun b u q n _ _ => k b u (hb b n) q, fun b u q n _ _ => ⟨u.slots, k b u (hb b n) q⟩, fun b u q n _ => by rw [upd_ne (hx b n)]; exact n, fun b u q _ => ?_,
    fun b xs q => by rw [upd_ne (hm b _ q fun z => z)]; exact q, fun b u xs q => by rw [upd_ne (hm b _ q fun z => z)]; exact q, fun b ps q => ⟨#[], by rw [upd_ne (hm b _ q fun z => z), q]; simp⟩⟩
  by_cases hbe : b = e
  · subst hbe; exact heo
  · exact ⟨u, k b u hbe q⟩
end

def trk (h : Heap) (H : Hp) : List Addr := (List.range h.objs.size).filter fun a => (H a).isSome
def hidT (h : Heap) (H : Hp) : Heap := PySem.W.hideAll h (trk h H)
theorem hidT_size (h : Heap) (H : Hp) : (hidT h H).objs.size = h.objs.size := PySem.W.hideAll_size _ _
theorem hidT_get {h : Heap} {H : Hp} {b : Addr} {o : Obj} (e : h.get? b = some o) (n : H b = none) : (hidT h H).get? b = some o :=
  PySem.W.hideAll_get _ e fun hm => by
    have q : (H b).isSome = true := (List.mem_filter.mp hm).2
    rw [n] at q; simp at q
theorem of_hidT {h : Heap} {H : Hp} {b : Addr} {o : Obj} (e : (hidT h H).get? b = some o) : h.get? b = some o ∧ H b = none := by
  have e' : h.get? b = some o := PySem.W.of_hideAll (trk h H) e
  refine ⟨e', ?_⟩
  cases q : H b with
  | none => rfl
  | some x =>
    have hm : b ∈ trk h H := List.mem_filter.mpr ⟨List.mem_range.mpr (Heap.lt_size e'), by simp [q]⟩
    have z : (hidT h H).get? b = none := PySem.W.hideAll_none (trk h H) hm
    rw [z] at e; cases e

end L2

namespace L2
open PySem PySem.Spec PyProof.Rows

structure Mod (K : PySem.W.Frag) (mg : Str → Option Value) (base : Heap) : Prop where
  kin : K.In base
  glob : base.Ns mainGlobals mg
  blt : ∃ mb, base.Ns builtinsNs mb ∧ ∀ x : Str, x ≠ "__name__" → mb x = bootBuiltins x
  nolimit : base.NoLimit

structure Cx where
  prog : Program
  w : World
  K : PySem.W.Frag
  mg : Str → Option Value
  base : Heap
  A : Around
  N : List Str
  s₀ : Shared
  H₀ : Hp
  env : Env
  outer : List Env
  stack : List Env
  ex : List Addr
  fn : Str → Bool
  calm : Bool
  pn : List (Addr × Obj)
  xe : Value → Shared → Prop
def frs (l : List Env) : List Addr := l.filterMap (·.frame)
abbrev Cx.fs (X : Cx) : List Addr := frs X.outer

def Vis (sc : Scope) (x : Str) : Prop := sc.names.lookup x = some .local ∨ sc.names.lookup x = some .cell ∨ sc.names.lookup x = some .free
def Loc (sc : Scope) (x : Str) : Prop := sc.names.lookup x = some .local ∨ sc.names.lookup x = some .cell
def Look (env : Env) (h : Heap) (m : Str → Option Value) (x : Str) (u : Value) : Prop :=
  (env.kindOf x = some .local ∧ m x = some u) ∨ ((env.kindOf x = some .cell ∨ env.kindOf x = some .free) ∧ ∃ c, env.cells.lookup x = some c ∧ h.IsCell c (some u))

structure Cx.Ok (X : Cx) : Prop where
  mod : Mod X.K X.mg X.base
  kind : X.env.scope.kind = .function
  glob : X.env.globals = mainGlobals
  blt : X.env.builtins = builtinsNs
  above : X.s₀.heap.objs.size ≤ X.env.locals
  inj : ∀ x y c, X.env.cells.lookup x = some c → X.env.cells.lookup y = some c → x = y
  has : ∀ x, (X.env.kindOf x = some .cell ∨ X.env.kindOf x = some .free) → ∃ c, X.env.cells.lookup x = some c
  cab : ∀ x c, X.fn x = true → X.env.cells.lookup x = some c → X.s₀.heap.objs.size ≤ c
  hd : X.calm = true → X.A.handled = none
  frames : X.A.frames = some X.stack
  stk : X.stack = X.outer ∨ (X.stack = X.env :: X.outer ∧ X.env.frame = some X.env.locals)
  exf : ∀ b ∈ X.ex, b ≠ X.env.locals ∧ ∀ x c, X.env.cells.lookup x = some c → c ≠ b
  bs : ∀ b o, X.base.get? b = some o → X.s₀.heap.get? b = some o ∧ X.H₀ b = none
  bsz : X.base.objs.size ≤ X.s₀.heap.objs.size
  noex : ∀ b o, X.base.get? b = some o → b ∉ X.ex
  exfs : ∀ b ∈ X.ex, b ∉ X.fs
  funs : X.s₀.heap.FunFrames X.base X.outer
  frf : ∀ b ∈ X.fs, X.H₀ b = none

structure Inv (X : Cx) (pins : List (Addr × Obj)) (σ : List (Option V)) (H : Hp) (s : Shared) : Prop where
  ok : X.Ok
  os : s.os = X.s₀.os
  bare : AllBare s.gens
  base : Un X.fs X.ex X.H₀ H X.s₀.heap s.heap
  loc : ∃ m, s.heap.Ns X.env.locals m ∧ ∀ (i : Nat) (x : Str) (v : V), X.N[i]? = some x → σ[i]? = some (some v) → Vis X.env.scope x → ∃ u, RelV v u ∧ Look X.env s.heap m x u
  cell : ∀ x c, X.env.cells.lookup x = some c → ∃ v, s.heap.IsCell c v
  free : H X.env.locals = none
  freeC : ∀ x c, X.env.cells.lookup x = some c → H c = none
  pin : ∀ p ∈ X.pn ++ pins, s.heap.get? p.1 = some p.2 ∧ H p.1 = none ∧ p.1 ≠ X.env.locals ∧ p.1 ∉ X.fs ∧ ∀ v, p.2.data ≠ .cell v
  hok : HOk X.prog X.w H s.heap
  len : σ.length = X.N.length

section
variable {X : Cx} {pins : List (Addr × Obj)} {σ : List (Option V)} {H H' : Hp} {s : Shared} {h' : Heap}

theorem Cx.Ok.nofr (ok : X.Ok) {b : Addr} {o : Obj} (e : X.base.get? b = some o) : b ∉ X.fs := fun hb => by
  have := (ok.funs.mem hb).1
  rw [e] at this; cases this
theorem Inv.bs (I : Inv X pins σ H s) : ∀ b o, X.base.get? b = some o → s.heap.get? b = some o ∧ H b = none := fun b o e =>
  ⟨I.base.keep b o (I.ok.bs b o e).1 (I.ok.bs b o e).2 (I.ok.nofr e) (I.ok.noex b o e), I.base.free b o (I.ok.bs b o e).1 (I.ok.bs b o e).2 (I.ok.noex b o e)⟩
theorem Inv.bk (I : Inv X pins σ H s) : ∀ b o, X.base.get? b = some o → s.heap.get? b = some o := fun b o e => (I.bs b o e).1
theorem Inv.mod (I : Inv X pins σ H s) : Mod X.K X.mg X.base := I.ok.mod
theorem Inv.kIn (I : Inv X pins σ H s) : X.K.In s.heap := I.ok.mod.kin.keeps I.bk
theorem Inv.fr (I : Inv X pins σ H s) : ∃ m, Fr X.base X.env.locals s.heap m :=
  let ⟨m, hn, _⟩ := I.loc
  ⟨m, hn, I.bk, Nat.le_trans I.ok.bsz I.ok.above⟩
theorem Inv.lt (I : Inv X pins σ H s) : X.env.locals < s.heap.objs.size := let ⟨_, hn, _⟩ := I.loc; hn.lt
theorem Inv.sz (I : Inv X pins σ H s) : X.s₀.heap.objs.size ≤ s.heap.objs.size := Nat.le_trans I.ok.above (Nat.le_of_lt I.lt)
theorem Inv.nofs (I : Inv X pins σ H s) {a : Addr} (h : s.heap.objs.size ≤ a) : a ∉ X.fs := fun hb => by
  obtain ⟨_, o, ho, _⟩ := I.ok.funs.mem hb
  exact absurd (Nat.lt_of_lt_of_le (Heap.lt_size ho) (Nat.le_trans I.sz h)) (Nat.lt_irrefl _)
theorem Inv.cne (I : Inv X pins σ H s) : ∀ x c, X.env.cells.lookup x = some c → c ≠ X.env.locals := fun x c e z => by
  obtain ⟨v, o, ho, hd⟩ := I.cell x c e
  obtain ⟨m, ⟨o', es, ep, ho', hd', _⟩, _⟩ := I.loc
  rw [z, ho'] at ho; cases ho; rw [hd'] at hd; cases hd
theorem Inv.funs (I : Inv X pins σ H s) : s.heap.FunFrames X.base X.outer := by
  have all : ∀ (l : List Env), (∀ b ∈ frs l, b ∈ X.fs) → X.s₀.heap.FunFrames X.base l → s.heap.FunFrames X.base l := by
    intro l
    induction l with
    | nil => intro _ _; trivial
    | cons env r ih =>
      intro hs hl
      obtain ⟨hk, ⟨L, o, hf, hn, ho, hd⟩, hr⟩ := hl
      have hL : L ∈ X.fs := hs L (by unfold frs; rw [List.filterMap_cons, hf]; exact List.mem_cons_self)
      obtain ⟨sl, e⟩ := I.base.slot L o ho (I.ok.frf L hL) hL fun z => I.ok.exfs L z hL
      exact ⟨hk, ⟨L, _, hf, hn, e, hd⟩, ih (fun b hb => hs b (by unfold frs; rw [List.filterMap_cons, hf]; exact List.mem_cons_of_mem _ hb)) hr⟩
  exact all X.outer (fun _ hb => hb) I.ok.funs

theorem Inv.stack (I : Inv X pins σ H s) : s.heap.FunFrames X.base X.stack := by
  rcases I.ok.stk with e | ⟨e, hf⟩
  · rw [e]; exact I.funs
  · rw [e]
    obtain ⟨m, hn, _⟩ := I.loc
    refine .cons (by rw [I.ok.kind]; decide) hf hn ?_ I.funs
    exact Heap.get?_none_of_le (Nat.le_trans I.ok.bsz I.ok.above)
theorem Inv.stkSub (I : Inv X pins σ H s) : ∀ b ∈ frs X.stack, b ∈ X.env.locals :: X.fs := fun b hb => by
  rcases I.ok.stk with e | ⟨e, hf⟩
  · rw [e] at hb; exact List.mem_cons_of_mem _ hb
  · rw [e] at hb
    unfold frs at hb
    rw [List.filterMap_cons, hf] at hb
    exact hb
theorem Inv.stkFree (I : Inv X pins σ H s) : ∀ b ∈ frs X.stack, H b = none := fun b hb => by
  rcases List.mem_cons.mp (I.stkSub b hb) with e | hb
  · rw [e]; exact I.free
  · obtain ⟨_, o, ho, _⟩ := I.ok.funs.mem hb
    exact I.base.free b o ho (I.ok.frf b hb) fun z => I.ok.exfs b z hb

theorem Inv.step {g' : Array GenState} {t' : Nat} {d' : Drawn} {ch : List Addr} (I : Inv X pins σ H s)
    (hch : ∀ b ∈ ch, (b ∈ X.ex ∨ X.s₀.heap.objs.size ≤ b) ∧ b ≠ X.env.locals ∧ (∀ x c, X.env.cells.lookup x = some c → c ≠ b) ∧ ∀ p ∈ X.pn ++ pins, p.1 ≠ b)
    (keep : ∀ b o, b ≠ X.env.locals → b ∉ X.fs → b ∉ ch → s.heap.get? b = some o → H b = none → h'.get? b = some o)
    (slot : ∀ b o, b ≠ X.env.locals → b ∈ X.fs → b ∉ ch → s.heap.get? b = some o → H b = none → ∃ sl, h'.get? b = some { o with slots := sl }) (free : ∀ b o, b ∉ ch → s.heap.get? b = some o → H b = none → H' b = none)
    (there : ∀ b o, b ∉ ch → s.heap.get? b = some o → ∃ o', h'.get? b = some o')
    (tups : ∀ b xs, H b = some (.tup xs) → H' b = some (.tup xs)) (frzs : ∀ b o u, H b = some (.frz o u) → H' b = some (.frz o u)) (tbls : ∀ b ps, H b = some (.tbl ps) → ∃ more, H' b = some (.tbl (ps ++ more)))
    (ns : ∀ m, s.heap.Ns X.env.locals m → h'.Ns X.env.locals m) (hok : HOk X.prog X.w H' h') (hg : AllBare g') :
    Inv X pins σ H' { s with heap := h', gens := g', drawn := d', toks := t' } := by
  have neL : ∀ b o, X.s₀.heap.get? b = some o → b ≠ X.env.locals := fun b o e => Nat.ne_of_lt (Nat.lt_of_lt_of_le (Heap.lt_size e) I.ok.above)
  have neC : ∀ b o, X.s₀.heap.get? b = some o → b ∉ X.ex → b ∉ ch := fun b o e hx hb => by
    rcases (hch b hb).1 with z | z
    · exact hx z
    · exact absurd (Nat.lt_of_lt_of_le (Heap.lt_size e) z) (Nat.lt_irrefl _)
  have cellK : ∀ x c, X.env.cells.lookup x = some c → ∀ v, s.heap.IsCell c v → h'.IsCell c v := fun x c e v ⟨o, ho, hd⟩ => by
    have nch : c ∉ ch := fun z => (hch c z).2.2.1 x c e rfl
    by_cases hc : c ∈ X.fs
    · obtain ⟨sl, q⟩ := slot c o (I.cne x c e) hc nch ho (I.freeC x c e)
      exact ⟨_, q, hd⟩
    · exact ⟨o, keep c o (I.cne x c e) hc nch ho (I.freeC x c e), hd⟩
  refine ⟨I.ok, I.os, hg, ⟨fun b o e n hb hx => ?_, fun b o e n hb hx => ?_, fun b o e n hx => ?_, fun b o e hx => ?_, fun b xs e => tups b xs (I.base.tups b xs e), fun b o xs e => frzs b o xs (I.base.frzs b o xs e), fun b ps e => ?_⟩, ?_, fun x c e => ?_, ?_, fun x c e => ?_, fun p hp => ?_, hok, I.len⟩
  · exact keep b o (neL b o e) hb (neC b o e hx) (I.base.keep b o e n hb hx) (I.base.free b o e n hx)
  · obtain ⟨sl, e1⟩ := I.base.slot b o e n hb hx
    obtain ⟨sl', e2⟩ := slot b _ (neL b o e) hb (neC b o e hx) e1 (I.base.free b o e n hx)
    exact ⟨sl', e2⟩
  · obtain ⟨o', e1⟩ := I.base.there b o e hx
    exact free b o' (neC b o e hx) e1 (I.base.free b o e n hx)
  · obtain ⟨o', e1⟩ := I.base.there b o e hx
    exact there b o' (neC b o e hx) e1
  · obtain ⟨m1, e1⟩ := I.base.tbls b ps e
    obtain ⟨m2, e2⟩ := tbls b _ e1
    exact ⟨m1 ++ m2, by rw [e2, Array.append_assoc]⟩
  · obtain ⟨m, hn, hl⟩ := I.loc
    refine ⟨m, ns m hn, fun i x v e1 e2 e3 => ?_⟩
    obtain ⟨u, r, l⟩ := hl i x v e1 e2 e3
    refine ⟨u, r, ?_⟩
    rcases l with l | ⟨k, c, e, z⟩
    · exact .inl l
    · exact .inr ⟨k, c, e, cellK x c e _ z⟩
  · obtain ⟨v, z⟩ := I.cell x c e
    exact ⟨v, cellK x c e v z⟩
  · obtain ⟨m, ⟨o, _, _, ho, _⟩, _⟩ := I.loc
    exact free _ o (fun z => (hch _ z).2.1 rfl) ho I.free
  · obtain ⟨v, o, ho, hd⟩ := I.cell x c e
    exact free c o (fun z => (hch c z).2.2.1 x c e rfl) ho (I.freeC x c e)
  · obtain ⟨e, n, ne, nf, d⟩ := I.pin p hp
    have nch : p.1 ∉ ch := fun z => (hch p.1 z).2.2.2 p hp rfl
    exact ⟨keep p.1 p.2 ne nf nch e n, free p.1 p.2 nch e n, ne, nf, d⟩
theorem Inv.un {t' : Nat} (I : Inv X pins σ H s) (u : Un X.fs [] H H' s.heap h') (hok : HOk X.prog X.w H' h') : Inv X pins σ H' { s with heap := h', toks := t' } := by
  obtain ⟨m, ⟨o, es, ep, ho, r⟩, _⟩ := id I.loc
  obtain ⟨sl, hL⟩ := u.any ho I.free (by simp)
  exact I.step (g' := s.gens) (d' := s.drawn) (ch := []) (fun _ z => nomatch z) (fun b o _ hb _ e n => u.keep b o e n hb (by simp)) (fun b o _ hb _ e n => u.slot b o e n hb (by simp)) (fun b o _ e n => u.free b o e n (by simp)) (fun b o _ e => u.there b o e (by simp)) u.tups u.frzs u.tbls (fun m' hm => by
    obtain ⟨o', es', ep', ho', r'⟩ := hm
    rw [ho] at ho'; cases ho'
    exact ⟨_, es', ep', hL, r'⟩) hok I.bare
theorem Inv.call {g' : Array GenState} {t' : Nat} {d' : Drawn} {ch : List Addr} (I : Inv X pins σ H s) (u : Un (frs X.stack) ch H H' s.heap h') (hok : HOk X.prog X.w H' h') (hg : AllBare g')
    (hch : ∀ b ∈ ch, (b ∈ X.ex ∨ X.s₀.heap.objs.size ≤ b) ∧ b ≠ X.env.locals ∧ (∀ x c, X.env.cells.lookup x = some c → c ≠ b) ∧ ∀ p ∈ X.pn ++ pins, p.1 ≠ b) :
    Inv X pins σ H' { s with heap := h', gens := g', drawn := d', toks := t' } := by
  obtain ⟨m, ⟨o, es, ep, ho, r⟩, _⟩ := id I.loc
  obtain ⟨sl, hL⟩ := u.any ho I.free fun z => (hch _ z).2.1 rfl
  exact I.step (ch := ch) hch (fun b o hL hb hc e n => u.keep b o e n (fun z => (List.mem_cons.mp (I.stkSub b z)).elim hL hb) hc) (fun b o _ _ hc e n => u.any e n hc) (fun b o hc e n => u.free b o e n hc) (fun b o hc e => u.there b o e hc) u.tups u.frzs u.tbls (fun m' hm => by
    obtain ⟨o', es', ep', ho', r'⟩ := hm
    rw [ho] at ho'; cases ho'
    exact ⟨_, es', ep', hL, r'⟩) hok hg
theorem Inv.turned {t' : Nat} {it : Addr} (I : Inv X pins σ H s) (k : ∀ b o, b ≠ it → s.heap.get? b = some o → h'.get? b = some o) (hn : H it = none) (hL : it ≠ X.env.locals)
    (h1 : it ∈ X.ex ∨ X.s₀.heap.objs.size ≤ it) (h2 : ∀ x c, X.env.cells.lookup x = some c → c ≠ it) (h3 : ∀ p ∈ X.pn ++ pins, p.1 ≠ it) : Inv X pins σ H { s with heap := h', toks := t' } := by
  have nit : ∀ b u, H b = some u → b ≠ it := fun b u e z => by rw [z, hn] at e; cases e
  refine I.step (g' := s.gens) (d' := s.drawn) (ch := [it]) (fun b hb => ?_) (fun b o _ _ hc e _ => k b o (fun z => hc (by simp [z])) e) (fun b o _ _ hc e _ => ⟨o.slots, k b o (fun z => hc (by simp [z])) e⟩) (fun _ _ _ _ n => n)
    (fun b o hc e => ⟨o, k b o (fun z => hc (by simp [z])) e⟩) (fun _ _ e => e) (fun _ _ _ e => e) (fun b ps e => ⟨#[], by rw [e]; simp⟩) (fun m hm => ?_) (fun b u e => ?_) I.bare
  · have e : b = it := by simpa using hb
    subst e
    exact ⟨h1, hL, h2, h3⟩
  · obtain ⟨o, es, ep, ho, r⟩ := hm
    exact ⟨o, es, ep, k _ o (Ne.symm hL) ho, r⟩
  · refine (I.hok b u e).stay (fun c v hc q => k c v ?_ q) (fun _ q => q) fun _ _ q => q
    rcases hc with z | z
    · rw [z]; exact nit b u e
    · exact nit c _ z
theorem Inv.tok (I : Inv X pins σ H s) (t : Nat) : Inv X pins σ H { s with toks := t } := I.un (h' := s.heap) (t' := t) Un.refl I.hok
theorem Inv.kept {t' : Nat} (I : Inv X pins σ H s) (k : ∀ b u, s.heap.get? b = some u → h'.get? b = some u) : Inv X pins σ H { s with heap := h', toks := t' } := I.un (Un.kept k) (I.hok.kept k)
theorem Inv.laid {a : Addr} {o : HO} {t' : Nat} (I : Inv X pins σ H s) (k : ∀ b u, s.heap.get? b = some u → h'.get? b = some u) (hp : s.heap.objs.size ≤ a) (new : ObjOk X.prog X.w (upd H a o) h' a o) :
    Inv X pins σ (upd H a o) { s with heap := h', toks := t' } := I.un (Un.laid k hp (I.hok.fresh hp)) (I.hok.laid k hp new)
theorem Inv.write {x e : Addr} {o : HO} {t' : Nat} (I : Inv X pins σ H s) (mu : Mut (H x)) (he : e = x ∨ H e = some (.own x)) (k : ∀ b u, b ≠ e → s.heap.get? b = some u → h'.get? b = some u) (heo : ∃ u, h'.get? e = some u)
    (new : ObjOk X.prog X.w (upd H x o) h' x o) : Inv X pins σ (upd H x o) { s with heap := h', toks := t' } := I.un (Un.write mu he k heo) (I.hok.write mu he k heo new)
theorem Inv.weak {σ' : List (Option V)} (I : Inv X pins σ H s) (hl : σ'.length = σ.length) (w : ∀ (i : Nat) v, σ'[i]? = some (some v) → σ[i]? = some (some v)) : Inv X pins σ' H s :=
  ⟨I.ok, I.os, I.bare, I.base, let ⟨m, hn, hl'⟩ := I.loc; ⟨m, hn, fun i x v e1 e2 e3 => hl' i x v e1 (w i v e2) e3⟩, I.cell, I.free, I.freeC, I.pin, I.hok, hl.trans I.len⟩
theorem Inv.pins_of {pins' : List (Addr × Obj)} (I : Inv X pins σ H s) (h : ∀ p ∈ pins', s.heap.get? p.1 = some p.2 ∧ H p.1 = none ∧ p.1 ≠ X.env.locals ∧ p.1 ∉ X.fs ∧ ∀ v, p.2.data ≠ .cell v) : Inv X pins' σ H s :=
  ⟨I.ok, I.os, I.bare, I.base, I.loc, I.cell, I.free, I.freeC, fun p hp => (List.mem_append.mp hp).elim (fun z => I.pin p (List.mem_append_left _ z)) (h p), I.hok, I.len⟩

theorem nodup_ix {N : List Str} (hN : N.Nodup) {i j : Nat} {x : Str} (a : N[i]? = some x) (b : N[j]? = some x) : i = j := by
  obtain ⟨h1, e1⟩ := List.getElem?_eq_some_iff.mp a
  obtain ⟨h2, e2⟩ := List.getElem?_eq_some_iff.mp b
  exact (List.getElem_inj hN).mp (e1.trans e2.symm)

theorem store_ok2 {M : Model} {A : Around} {E : Value → Shared → Prop} {i : Nat} {x : Str} {v : V} {u : Value} {Q : Unit → Shared → Prop} (I : Inv X pins σ H s) (hN : X.N.Nodup) (hi : X.N[i]? = some x) (hx : Loc X.env.scope x) (r : RelV v u)
    (h : ∀ s', Inv X pins (σ.set i (some v)) H s' → (∃ a, Heap.SameBut a s.heap s'.heap ∧ (a = X.env.locals ∨ X.env.cells.lookup x = some a)) → Q () s') (hf : X.fn x = true ∨ X.env.scope.names.lookup x = some .local := by first | exact .inl rfl | exact .inr rfl | assumption) : wpAny M A (storeName X.env x u) Q E s := by
  obtain ⟨m, hn, hl⟩ := id I.loc
  have hcls : (X.env.scope.kind == .class || (X.env.scope.kind == .module && X.env.locals != X.env.globals)) = false := by rw [I.ok.kind]; rfl
  have hiσ : i < σ.length := by rw [I.len]; exact (List.getElem?_eq_some_iff.mp hi).1
  have cne := I.cne
  have tracked : ∀ {a : Addr} {h' : Heap}, (∃ o, s.heap.get? a = some o ∧ H a = none) → Heap.SameBut a s.heap h' → HOk X.prog X.w H h' := fun {a h'} ha hs b ob e => by
    obtain ⟨_, _, hfree⟩ := ha
    refine (I.hok b ob e).stay (fun c w' hc q => (hs.2 c ?_).trans q) (fun _ q => q) fun _ _ q => q
    rintro rfl
    rcases hc with rfl | hc
    · rw [hfree] at e; cases e
    · rw [hfree] at hc; cases hc
  rcases hx with hk | hk
  · refine wpAny_storeName_local hk hn (fun h' hn' hs => ?_) hcls
    obtain ⟨oL, _, _, hoL, _⟩ := id hn
    refine h _ ⟨I.ok, I.os, I.bare, ⟨fun b o e n hb hx => ?_, fun b o e n hb hx => ?_, I.base.free, fun b o e hx => ?_, I.base.tups, I.base.frzs, I.base.tbls⟩, ⟨_, hn', fun j y v' e1 e2 e3 => ?_⟩, fun y c e => ?_, I.free, I.freeC, fun p hp => ?_, tracked ⟨oL, hoL, I.free⟩ hs, by simpa using I.len⟩ ⟨_, hs, .inl rfl⟩
    · exact (hs.2 b (Nat.ne_of_lt (Nat.lt_of_lt_of_le (Heap.lt_size e) I.ok.above))).trans (I.base.keep b o e n hb hx)
    · obtain ⟨sl, e1⟩ := I.base.slot b o e n hb hx
      exact ⟨sl, (hs.2 b (Nat.ne_of_lt (Nat.lt_of_lt_of_le (Heap.lt_size e) I.ok.above))).trans e1⟩
    · obtain ⟨o', e1⟩ := I.base.there b o e hx
      exact ⟨o', (hs.2 b (Nat.ne_of_lt (Nat.lt_of_lt_of_le (Heap.lt_size e) I.ok.above))).trans e1⟩
    · by_cases hj : j = i
      · subst hj
        rw [hi] at e1; cases e1
        rw [List.getElem?_set_self hiσ] at e2
        cases e2
        exact ⟨u, r, .inl ⟨hk, by simp⟩⟩
      · rw [List.getElem?_set_ne (Ne.symm hj)] at e2
        obtain ⟨u', r', q⟩ := hl j y v' e1 e2 e3
        refine ⟨u', r', ?_⟩
        rcases q with ⟨k, e⟩ | ⟨k, c, e, z⟩
        · refine .inl ⟨k, ?_⟩
          have : y ≠ x := fun e => hj (nodup_ix hN e1 (e ▸ hi))
          simp [this, e]
        · exact .inr ⟨k, c, e, z.sameBut hs (cne y c e)⟩
    · obtain ⟨w', z⟩ := I.cell y c e
      exact ⟨w', z.sameBut hs (cne y c e)⟩
    · obtain ⟨e, n, ne, nf, d⟩ := I.pin p hp
      exact ⟨(hs.2 p.1 ne).trans e, n, ne, nf, d⟩
  · have hfn : X.fn x = true := by
      rcases hf with z | z
      · exact z
      · rw [z] at hk; cases hk
    obtain ⟨c, hc⟩ := I.ok.has x (.inl hk)
    obtain ⟨w', z⟩ := I.cell x c hc
    refine wpAny_storeName_cell I.ok.kind hk hc z (fun h' hc' hs => ?_)
    obtain ⟨oc, hoc, hocd⟩ := id z
    refine h { s with heap := h' } ⟨I.ok, I.os, I.bare, ⟨fun b o e n hb hx => ?_, fun b o e n hb hx => ?_, I.base.free, fun b o e hx => ?_, I.base.tups, I.base.frzs, I.base.tbls⟩, ⟨m, hn.sameBut hs (Ne.symm (cne x c hc)), fun j y v' e1 e2 e3 => ?_⟩, fun y c' e => ?_, I.free, I.freeC, fun p hp => ?_, tracked ⟨oc, hoc, I.freeC x c hc⟩ hs, by simpa using I.len⟩ ⟨c, hs, .inr hc⟩
    · exact (hs.2 b (Nat.ne_of_lt (Nat.lt_of_lt_of_le (Heap.lt_size e) (I.ok.cab x c hfn hc)))).trans (I.base.keep b o e n hb hx)
    · obtain ⟨sl, e1⟩ := I.base.slot b o e n hb hx
      exact ⟨sl, (hs.2 b (Nat.ne_of_lt (Nat.lt_of_lt_of_le (Heap.lt_size e) (I.ok.cab x c hfn hc)))).trans e1⟩
    · obtain ⟨o', e1⟩ := I.base.there b o e hx
      exact ⟨o', (hs.2 b (Nat.ne_of_lt (Nat.lt_of_lt_of_le (Heap.lt_size e) (I.ok.cab x c hfn hc)))).trans e1⟩
    · by_cases hj : j = i
      · subst hj
        rw [hi] at e1; cases e1
        rw [List.getElem?_set_self hiσ] at e2
        cases e2
        exact ⟨u, r, .inr ⟨.inl hk, c, hc, hc'⟩⟩
      · rw [List.getElem?_set_ne (Ne.symm hj)] at e2
        obtain ⟨u', r', q⟩ := hl j y v' e1 e2 e3
        refine ⟨u', r', ?_⟩
        rcases q with q | ⟨k, c', e, z'⟩
        · exact .inl q
        · refine .inr ⟨k, c', e, z'.sameBut hs ?_⟩
          rintro rfl
          exact hj (nodup_ix hN e1 (I.ok.inj _ _ _ e hc ▸ hi))
    · by_cases hcc : c' = c
      · subst hcc; exact ⟨_, hc'⟩
      · obtain ⟨w2, z2⟩ := I.cell y c' e
        exact ⟨w2, z2.sameBut hs hcc⟩
    · obtain ⟨e, n, ne, nf, d⟩ := I.pin p hp
      refine ⟨(hs.2 p.1 ?_).trans e, n, ne, nf, d⟩
      intro q
      rw [q, hoc] at e
      have q' : oc = p.2 := Option.some.inj e
      exact d w' (by rw [← q']; exact hocd)
theorem store_ok {M : Model} {A : Around} {E : Value → Shared → Prop} {i : Nat} {x : Str} {v : V} {u : Value} {Q : Unit → Shared → Prop} (I : Inv X pins σ H s) (hN : X.N.Nodup) (hi : X.N[i]? = some x) (hx : Loc X.env.scope x) (r : RelV v u)
    (h : ∀ s', Inv X pins (σ.set i (some v)) H s' → Q () s') (hf : X.fn x = true ∨ X.env.scope.names.lookup x = some .local := by first | exact .inl rfl | exact .inr rfl | assumption) : wpAny M A (storeName X.env x u) Q E s :=
  store_ok2 I hN hi hx r (fun s' I' _ => h s' I') hf
theorem Inv.call' {s' : Shared} {ch : List Addr} (I : Inv X pins σ H s) (ho : s'.os = s.os) (u : Un (frs X.stack) ch H H' s.heap s'.heap) (hok : HOk X.prog X.w H' s'.heap) (hg : AllBare s'.gens)
    (hch : ∀ b ∈ ch, (b ∈ X.ex ∨ X.s₀.heap.objs.size ≤ b) ∧ b ≠ X.env.locals ∧ (∀ x c, X.env.cells.lookup x = some c → c ≠ b) ∧ ∀ p ∈ X.pn ++ pins, p.1 ≠ b) : Inv X pins σ H' s' := by
  obtain ⟨h', g', d', t', o'⟩ := s'
  have e : o' = s.os := ho
  subst e
  exact I.call (g' := g') (t' := t') (d' := d') u hok hg hch
end

abbrev XK := Value → Option Addr → Hp → Prop
abbrev St := List (Option V)
abbrev VK := V → Hp → Prop
abbrev TE := St → Hp → VK → Prop
abbrev TT := St → Hp → (Bool → Hp → Prop) → Prop
abbrev TA := St → Hp → (List V → Hp → Prop) → Prop
structure Ends where
  nx : St → Hp → Prop
  rt : VK
  bk : St → Hp → Prop := fun _ _ => False
  ct : St → Hp → Prop := fun _ _ => False
abbrev TS := Ends → St → Hp → Prop

def EP (X : Cx) (pins : List (Addr × Obj)) (σ : St) (Q : VK) (u : Value) (s' : Shared) : Prop := ∃ v H', Inv X pins σ H' s' ∧ RelV v u ∧ Q v H'
def TP (X : Cx) (pins : List (Addr × Obj)) (σ : St) (Q : Bool → Hp → Prop) (b : Bool) (s' : Shared) : Prop := ∃ H', Inv X pins σ H' s' ∧ Q b H'
def AP (X : Cx) (pins : List (Addr × Obj)) (σ : St) (Q : List V → Hp → Prop) (us : List Value) (s' : Shared) : Prop := ∃ vs H', Inv X pins σ H' s' ∧ Vals vs us ∧ Q vs H'
def SP (X : Cx) (pins : List (Addr × Obj)) (D : Ends) (f : Flow) (s' : Shared) : Prop :=
  match f with
  | .next => ∃ σ' H', Inv X pins σ' H' s' ∧ D.nx σ' H'
  | .brk => ∃ σ' H', Inv X pins σ' H' s' ∧ D.bk σ' H'
  | .cont => ∃ σ' H', Inv X pins σ' H' s' ∧ D.ct σ' H'
  | .ret u => ∃ v σ' H', Inv X pins σ' H' s' ∧ RelV v u ∧ D.rt v H'

def PE (X : Cx) (e : Expr) (t : TE) : Prop :=
  ∀ (pins : List (Addr × Obj)) (s : Shared) (σ : St) (H : Hp) (Q : VK), Inv X pins σ H s → t σ H Q → wpAny (model X.prog X.w) X.A (eval e X.env) (EP X pins σ Q) X.xe s
def PT (X : Cx) (e : Expr) (t : TT) : Prop :=
  ∀ (pins : List (Addr × Obj)) (s : Shared) (σ : St) (H : Hp) (Q : Bool → Hp → Prop), Inv X pins σ H s → t σ H Q → wpAny (model X.prog X.w) X.A (isTrue e X.env (eval e X.env)) (TP X pins σ Q) X.xe s
def PW (X : Cx) (e : Expr) (t : TT) : Prop :=
  ∀ (whole : Sem Value) (pins : List (Addr × Obj)) (s : Shared) (σ : St) (H : Hp) (Q : Bool → Hp → Prop), Inv X pins σ H s → t σ H Q → wpAny (model X.prog X.w) X.A (isTrue e X.env whole) (TP X pins σ Q) X.xe s
theorem PW.pt {X : Cx} {e : Expr} {t : TT} (h : PW X e t) : PT X e t := h _
def PA (X : Cx) (es : List Expr) (t : TA) : Prop :=
  ∀ (pos : Pos) (pins : List (Addr × Obj)) (s : Shared) (σ : St) (H : Hp) (Q : List V → Hp → Prop), Inv X pins σ H s → t σ H Q → wpAny (model X.prog X.w) X.A (spliced (backTo pos (starEach es X.env))) (AP X pins σ Q) X.xe s
def PS (X : Cx) (st : Stmt) (t : TS) : Prop :=
  ∀ (pins : List (Addr × Obj)) (s : Shared) (σ : St) (H : Hp) (D : Ends), Inv X pins σ H s → t D σ H → wpAny (model X.prog X.w) X.A (exec st X.env) (SP X pins D) X.xe s
def PSs (X : Cx) (st : List Stmt) (t : TS) : Prop :=
  ∀ (pins : List (Addr × Obj)) (s : Shared) (σ : St) (H : Hp) (D : Ends), Inv X pins σ H s → t D σ H → wpAny (model X.prog X.w) X.A (execs st X.env) (SP X pins D) X.xe s
theorem thn {α : Type} {t : Sem α} {Q Q' : α → Shared → Prop} {M : Model} {A : Around} {E : Value → Shared → Prop} {s : Shared} (h : wpAny M A t Q E s) (hQ : ∀ a s, Q a s → Q' a s) : wpAny M A t Q' E s := wpAny_mono h hQ fun _ _ x => x
end L2

namespace L2
open PySem PySem.Spec PyProof.Rows
section
variable {X : Cx}

theorem bin {a b : Expr} {ta tb : TE} (ha : PE X a ta) (hb : PE X b tb) {pins : List (Addr × Obj)} {s : Shared} {σ : St} {H : Hp} {R : V → V → Hp → Prop} (I : Inv X pins σ H s) (h : ta σ H fun x H1 => tb σ H1 fun y H2 => R x y H2)
    {α : Type} {Q : α → Shared → Prop} {f : Value → Value → Sem α}
    (hf : ∀ v u s2 x y H2, Inv X pins σ H2 s2 → RelV x v → RelV y u → R x y H2 → wpAny (model X.prog X.w) X.A (f v u) Q X.xe s2) :
    wpAny (model X.prog X.w) X.A (eval a X.env) (fun v s₁ => wpAny (model X.prog X.w) X.A (eval b X.env) (fun u s₂ => wpAny (model X.prog X.w) X.A (f v u) Q X.xe s₂) X.xe s₁) X.xe s := by
  refine thn (ha pins s σ H _ I h) fun v s1 ⟨x, H1, I1, r1, q1⟩ => ?_
  refine thn (hb pins s1 σ H1 _ I1 q1) fun u s2 ⟨y, H2, I2, r2, q2⟩ => ?_
  exact hf v u s2 x y H2 I2 r1 r2 q2

def tVar (i : Nat) : TE := fun σ H Q => ∃ v, σ[i]? = some (some v) ∧ Q v H
def tC (v : V) : TE := fun _ H Q => Q v H
theorem pe_var {i : Nat} {x : Str} {pos : Pos} (hN : X.N[i]? = some x) (hv : Vis X.env.scope x) (hd : (x == ("__debug__" : Str)) = false := by decide) (hcd : (x == ("__classdict__" : Str)) = false := by decide) : PE X (.Name x pos) (tVar i) := by
  intro pins s σ H Q I h
  obtain ⟨v, e, h⟩ := h
  obtain ⟨m, hn, hl⟩ := I.loc
  obtain ⟨u, r, l⟩ := hl i x v hN e hv
  have fin : EP X pins σ Q u s := ⟨v, H, I, r, h⟩
  rcases l with ⟨hk, hm⟩ | ⟨hk, c, hc, hcell⟩
  · exact wpAny_Name (wpAny_loadName_local I.ok.kind hk hn hm fin) hd
  · rcases hk with hk | hk
    · exact wpAny_Name (wpAny_loadName_cell I.ok.kind hk hc hcell fin) hd
    · exact wpAny_Name (wpAny_loadName_free I.ok.kind hk hc hcell fin hcd) hd
theorem pe_int {i j pos} : PE X (.Constant (.int i) j pos) (tC (.int i)) := fun _ _ _ H _ I h => wpAny_Constant_int ⟨.int i, H, I.tok _, ⟨_, rfl⟩, h⟩
theorem pe_bl {b j pos} : PE X (.Constant (.bool b) j pos) (tC (.bl b)) := fun _ _ _ H _ I h => Constant_bool ⟨.bl b, H, I, rfl, h⟩
theorem pe_str {x j pos} : PE X (.Constant (.str x) j pos) (tC (.str x)) := fun _ _ _ H _ I h => Calls.Constant_str ⟨.str x, H, I.tok _, ⟨_, rfl⟩, h⟩

def Gl (X : Cx) (x : Str) : Prop := X.env.kindOf x = some .globalImplicit
theorem ld_glob {E : Value → Shared → Prop} {pins : List (Addr × Obj)} {s : Shared} {σ : St} {H : Hp} {x : Str} {u : Value} {pos : Pos} {Q : Value → Shared → Prop} (I : Inv X pins σ H s) (hg : Gl X x) (hm : X.mg x = some u) (h : Q u s)
    (hd : (x == ("__debug__" : Str)) = false := by decide) : wpAny (model X.prog X.w) X.A (eval (.Name x pos) X.env) Q E s :=
  Calls.Name_function_global I.ok.kind hg (Calls.loadGlobal_global (by rw [I.ok.glob]; exact I.mod.glob.keeps I.bk) hm h) hd
theorem ld_blt {E : Value → Shared → Prop} {pins : List (Addr × Obj)} {s : Shared} {σ : St} {H : Hp} {x : Str} {u : Value} {pos : Pos} {Q : Value → Shared → Prop} (I : Inv X pins σ H s) (hg : Gl X x) (hm : X.mg x = none) (hv : bootBuiltins x = some u) (h : Q u s)
    (hn : x ≠ "__name__" := by decide) (hd : (x == ("__debug__" : Str)) = false := by decide) : wpAny (model X.prog X.w) X.A (eval (.Name x pos) X.env) Q E s := by
  obtain ⟨mb, h1, h2⟩ := I.mod.blt
  exact Calls.Name_function_global I.ok.kind hg (Calls.loadGlobal_builtin (by rw [I.ok.glob]; exact I.mod.glob.keeps I.bk) hm (by rw [I.ok.blt]; exact h1.keeps I.bk) ((h2 x hn).trans hv) h) hd
theorem pe_glob {x : Str} {v : V} {u : Value} {pos : Pos} (hg : Gl X x) (hm : X.mg x = some u) (r : RelV v u) (hd : (x == ("__debug__" : Str)) = false := by decide) : PE X (.Name x pos) (tC v) :=
  fun _ _ _ H _ I h => ld_glob I hg hm ⟨v, H, I, r, h⟩ hd
theorem pe_bltn {x : Str} {v : V} {u : Value} {pos : Pos} (hg : Gl X x) (hm : X.mg x = none) (hv : bootBuiltins x = some u) (r : RelV v u) (hn : x ≠ "__name__" := by decide) (hd : (x == ("__debug__" : Str)) = false := by decide) : PE X (.Name x pos) (tC v) :=
  fun _ _ _ H _ I h => ld_blt I hg hm hv ⟨v, H, I, r, h⟩ hn hd

variable {a b : Expr} {ta tb : TE} {pos : Pos}
def PC (X : Cx) (op : CmpOp) (a b : Expr) (t : TE) : Prop :=
  ∀ (pins : List (Addr × Obj)) (s : Shared) (σ : St) (H : Hp) (Q : VK), Inv X pins σ H s → t σ H Q →
    wpAny (model X.prog X.w) X.A (eval a X.env) (fun v s₁ => wpAny (model X.prog X.w) X.A (eval b X.env) (fun u s₂ => wpAny (model X.prog X.w) X.A (compareOp op v u) (EP X pins σ Q) X.xe s₂) X.xe s₁) X.xe s
def tB (t : TE) : TT := fun σ H Q => t σ H fun x H1 => ∃ c, x = .bl c ∧ Q c H1
theorem pt_cmp {op : CmpOp} {t : TE} (h : PC X op a b t) (h1 : behindInMarks op b = false := by first | exact nobehind _ (by decide) (by decide) | rfl) : PT X (.Compare a [op] [b] pos) (tB t) := by
  intro pins s σ H Q I hw
  refine wpAny_isTrue_Compare1 (thn (h pins s σ H _ I hw) fun v s1 h1 => thn h1 fun u s2 h2 => thn h2 fun c s3 ⟨x, H1, I1, r1, q1⟩ => ?_) h1
  obtain ⟨d, rfl, q⟩ := q1
  cases r1
  exact wpAny_truthy_bool ⟨H1, I1, q⟩
theorem pt_val {e : Expr} {t : TE} (h : PE X e t) (he : ∀ whole, isTrue e X.env whole = (do let v ← whole; standAt e.pos; holding [v] (truthy v)) := by intro _; rfl) : PT X e (tB t) := by
  intro pins s σ H Q I hw
  refine isTrue_plain (thn (h pins s σ H _ I hw) fun v s1 ⟨x, H1, I1, r1, q1⟩ => ?_) (he _)
  obtain ⟨d, rfl, q⟩ := q1
  cases r1
  exact wpAny_truthy_bool ⟨H1, I1, q⟩

variable {tA tB' : TT} {rest : List Expr}
def tAnd (t u : TT) : TT := fun σ H Q => t σ H fun c H1 => if c = true then u σ H1 Q else Q false H1
def tOr (t u : TT) : TT := fun σ H Q => t σ H fun c H1 => if c = true then Q true H1 else u σ H1 Q
def tNot (t : TT) : TT := fun σ H Q => t σ H fun c H1 => Q (!c) H1
theorem pw_and1 (ha : PT X a tA) : PW X (.BoolOp .And [a] pos) tA := by
  intro wh pins s σ H Q I h
  refine isTrue_and (thn (ha pins s σ H Q I h) fun c s1 e => ?_)
  cases c with
  | true => exact isTrue_and_nil e
  | false => exact e
theorem pw_or1 (ha : PT X a tA) : PW X (.BoolOp .Or [a] pos) tA := by
  intro wh pins s σ H Q I h
  refine isTrue_or (thn (ha pins s σ H Q I h) fun c s1 e => ?_)
  cases c with
  | false => exact isTrue_or_nil e
  | true => exact e
theorem pw_and (ha : PT X a tA) (hb : PW X (.BoolOp .And (b :: rest) pos) tB') : PW X (.BoolOp .And (a :: b :: rest) pos) (tAnd tA tB') := by
  intro wh pins s σ H Q I h
  refine isTrue_and (thn (ha pins s σ H _ I h) fun c s1 ⟨H1, I1, q1⟩ => ?_)
  cases c with
  | true => exact hb wh pins s1 σ H1 Q I1 q1
  | false => exact ⟨H1, I1, q1⟩
theorem pw_or (ha : PT X a tA) (hb : PW X (.BoolOp .Or (b :: rest) pos) tB') : PW X (.BoolOp .Or (a :: b :: rest) pos) (tOr tA tB') := by
  intro wh pins s σ H Q I h
  refine isTrue_or (thn (ha pins s σ H _ I h) fun c s1 ⟨H1, I1, q1⟩ => ?_)
  cases c with
  | true => exact ⟨H1, I1, q1⟩
  | false => exact hb wh pins s1 σ H1 Q I1 q1
theorem pt_not (ha : PT X a tA) : PT X (.UnaryOp .Not a pos) (tNot tA) := by
  intro pins s σ H Q I h
  exact isTrue_not (ha pins s σ H (fun c H1 => Q (!c) H1) I h)
def tAndV (ta tb : TE) : TE := fun σ H Q => ta σ H fun x H1 => ∃ c, x = .bl c ∧ if c = true then tb σ H1 Q else Q (.bl false) H1
theorem pe_one {op} {t : TE} (h : PE X a t) : PE X (.BoolOp op [a] pos) t := fun pins s σ H Q I hw => BoolOp_one (h pins s σ H Q I hw)
theorem pe_and (ha : PE X a ta) (hb : PE X (.BoolOp .And (b :: rest) pos) tb) : PE X (.BoolOp .And (a :: b :: rest) pos) (tAndV ta tb) := by
  intro pins s σ H Q I h
  refine BoolOp_and (thn (ha pins s σ H _ I h) fun v s1 ⟨x, H1, I1, r1, q1⟩ => ?_)
  obtain ⟨c, rfl, q1⟩ := q1
  cases r1
  refine wpAny_truthy_bool ?_
  cases c with
  | true => exact hb pins s1 σ H1 Q I1 q1
  | false => exact ⟨.bl false, H1, I1, rfl, q1⟩
def tIf (t : TT) (ta tb : TE) : TE := fun σ H Q => t σ H fun c H1 => if c = true then ta σ H1 Q else tb σ H1 Q
theorem pe_ifExp {c : Expr} (hc : PT X c tA) (ha : PE X a ta) (hb : PE X b tb) : PE X (.IfExp c a b pos) (tIf tA ta tb) := by
  intro pins s σ H Q I h
  refine wpAny_IfExp (thn (hc pins s σ H _ I h) fun d s1 ⟨H1, I1, q1⟩ => ?_)
  cases d with
  | true => exact ha pins s1 σ H1 Q I1 q1
  | false => exact hb pins s1 σ H1 Q I1 q1
end
end L2

namespace L2
open PySem PySem.Spec PyProof.Rows

def SqL (K : PySem.W.Frag) (H : Hp) (a : Addr) (xs : List V) : Prop :=
  Rd H a (.lst xs) ∨
    ∃ (o : Obj) (its : Array Value) (n : Nat), K.lookup a = some o ∧ o.cls = .type "list" ∧ o.dict = none ∧ o.data = .seq its n ∧ its.size ≤ sizeLine ∧ Vals xs its.toList
def SqT (K : PySem.W.Frag) (H : Hp) (a : Addr) (xs : List V) : Prop :=
  Rd H a (.tup xs) ∨
    ∃ (o : Obj) (its : Array Value) (n : Nat), K.lookup a = some o ∧ o.cls = .type "tuple" ∧ o.data = .seq its n ∧ its.size ≤ sizeLine ∧ Vals xs its.toList
def absV : Value → Option V
  | .none => some .non
  | .bool b => some (.bl b)
  | .int i _ => some (.int i)
  | .str x _ => some (.str x)
  | .bytes b _ => some (.byt b)
  | .float b _ => some (.flt b)
  | .ref a => some (.ref a)
  | .type n => some (.ty n)
  | _ => none
theorem RelV.abs {x : V} {u : Value} (r : RelV x u) : absV u = some x := by
  cases x with
  | non => cases r; rfl
  | bl _ => cases r; rfl
  | int _ => obtain ⟨t, rfl⟩ := r; rfl
  | str _ => obtain ⟨t, rfl⟩ := r; rfl
  | byt _ => obtain ⟨t, rfl⟩ := r; rfl
  | flt _ => obtain ⟨t, rfl⟩ := r; rfl
  | ref _ => cases r; rfl
  | ty _ => cases r; rfl
theorem RelV.inj {x y : V} {u : Value} (r : RelV x u) (q : RelV y u) : x = y := Option.some.inj (r.abs.symm.trans q.abs)
theorem Vals.inj : ∀ {xs ys : List V} {us : List Value}, Vals xs us → Vals ys us → xs = ys
  | _, _, _, .nil, .nil => rfl
  | _, _, _, .cons r t, .cons r' t' => by rw [r.inj r', Vals.inj t t']
section
variable {X : Cx} {pins : List (Addr × Obj)} {σ : St} {H : Hp} {s : Shared} {a : Addr} {xs ys : List V}
theorem Inv.list (I : Inv X pins σ H s) (h : SqL X.K H a xs) : ∃ its : List Value, Vals xs its ∧ PlainL s.heap a its.toArray ∧ xs.length ≤ sizeLine := by
  rcases h with h | ⟨o, its, n, hk, hc, hd, hs, hz, r⟩
  · obtain ⟨z, its, n, r, e⟩ := h.ok I.hok
    exact ⟨its, r, ⟨_, n, e, rfl, rfl, rfl⟩, z⟩
  · refine ⟨its.toList, r, ⟨o, n, I.kIn a o hk, hc, hd, by simpa using hs⟩, ?_⟩
    have e := r.length
    simp only [Array.length_toList] at e
    omega
theorem Inv.tuple (I : Inv X pins σ H s) (h : SqT X.K H a xs) : ∃ its : List Value, Vals xs its ∧ IsTup s.heap a its.toArray ∧ xs.length ≤ sizeLine := by
  rcases h with h | ⟨o, its, n, hk, hc, hs, hz, r⟩
  · obtain ⟨z, its, r, p⟩ := h.ok I.hok
    exact ⟨its, r, p, z⟩
  · refine ⟨its.toList, r, ⟨o, I.kIn a o hk, hc, n, by simpa using hs⟩, ?_⟩
    have e := r.length
    simp only [Array.length_toList] at e
    omega
theorem Inv.list_inj (I : Inv X pins σ H s) (h : SqL X.K H a xs) (h' : SqL X.K H a ys) : xs = ys := by
  obtain ⟨its, r, ⟨o, n, e, _, _, d⟩, _⟩ := I.list h
  obtain ⟨its', r', ⟨o', n', e', _, _, d'⟩, _⟩ := I.list h'
  rw [e] at e'; cases e'
  rw [d] at d'
  injection d' with d1 _
  have : its = its' := by simpa using congrArg Array.toList d1
  subst this
  exact r.inj r'
theorem Inv.tuple_inj (I : Inv X pins σ H s) (h : SqT X.K H a xs) (h' : SqT X.K H a ys) : xs = ys := by
  obtain ⟨its, r, ⟨o, e, _, n, d⟩, _⟩ := I.tuple h
  obtain ⟨its', r', ⟨o', e', _, n', d'⟩, _⟩ := I.tuple h'
  rw [e] at e'; cases e'
  rw [d] at d'
  injection d' with d1 _
  have : its = its' := by simpa using congrArg Array.toList d1
  subst this
  exact r.inj r'
end

abbrev Cx.wish (X : Cx) (E : Value → Shared → Prop) : Cx := { X with xe := E }
abbrev Cx.nox (X : Cx) : Cx := X.wish fun _ _ => False
theorem Cx.Ok.wish {X : Cx} (ok : X.Ok) (E : Value → Shared → Prop) : (X.wish E).Ok :=
  ⟨ok.mod, ok.kind, ok.glob, ok.blt, ok.above, ok.inj, ok.has, ok.cab, ok.hd, ok.frames, ok.stk, ok.exf, ok.bs, ok.bsz, ok.noex, ok.exfs, ok.funs, ok.frf⟩
theorem Cx.Ok.unwish {X : Cx} {E : Value → Shared → Prop} (ok : (X.wish E).Ok) : X.Ok :=
  ⟨ok.mod, ok.kind, ok.glob, ok.blt, ok.above, ok.inj, ok.has, ok.cab, ok.hd, ok.frames, ok.stk, ok.exf, ok.bs, ok.bsz, ok.noex, ok.exfs, ok.funs, ok.frf⟩
section
variable {X : Cx} {pins : List (Addr × Obj)} {σ : St} {H : Hp} {s : Shared} {E : Value → Shared → Prop}
theorem Inv.wish (I : Inv X pins σ H s) (E : Value → Shared → Prop) : Inv (X.wish E) pins σ H s := ⟨I.ok.wish E, I.os, I.bare, I.base, I.loc, I.cell, I.free, I.freeC, I.pin, I.hok, I.len⟩
theorem Inv.unwish (I : Inv (X.wish E) pins σ H s) : Inv X pins σ H s := ⟨I.ok.unwish, I.os, I.bare, I.base, I.loc, I.cell, I.free, I.freeC, I.pin, I.hok, I.len⟩
theorem SP.unwish {D : Ends} {f : Flow} {s' : Shared} (h : SP (X.wish E) pins D f s') : SP X pins D f s' := by
  cases f with
  | next => obtain ⟨σ', H', I, q⟩ := h; exact ⟨σ', H', I.unwish, q⟩
  | brk => obtain ⟨σ', H', I, q⟩ := h; exact ⟨σ', H', I.unwish, q⟩
  | cont => obtain ⟨σ', H', I, q⟩ := h; exact ⟨σ', H', I.unwish, q⟩
  | ret u => obtain ⟨v, σ', H', I, r, q⟩ := h; exact ⟨v, σ', H', I.unwish, r, q⟩
theorem PSs.nox {st : List Stmt} {t : TS} (h : PSs X.nox st t) : PSs X st t := fun pins s σ H D I hw =>
  wpAny_mono (h pins s σ H D (I.wish _) hw) (fun _ _ q => q.unwish) fun _ _ z => False.elim z
end

section
variable {X : Cx} {st : Stmt} {rest : List Stmt} {t u : TS} {e : Expr} {te : TE} {pos : Pos}
def tNext : TS := fun D σ H => D.nx σ H
def tSeq (t u : TS) : TS := fun D σ H => t { D with nx := u D } σ H
theorem pss_nil : PSs X [] tNext := fun _ _ σ H _ I h => wpAny_execs_nil ⟨σ, H, I, h⟩
theorem pss_cons (h1 : PS X st t) (h2 : PSs X rest u) : PSs X (st :: rest) (tSeq t u) := by
  intro pins s σ H D I h
  refine wpAny_execs_cons (thn (h1 pins s σ H { D with nx := u D } I h) fun f s1 q => ?_)
  cases f with
  | next =>
    obtain ⟨σ', H', I', q⟩ := q
    exact h2 pins s1 σ' H' D I' q
  | ret v => exact q
  | brk => exact q
  | cont => exact q
theorem pss_one (h1 : PS X st t) : PSs X [st] t := by
  intro pins s σ H D I h
  refine wpAny_execs_cons (thn (h1 pins s σ H D I h) fun f s1 q => ?_)
  cases f with
  | next => exact wpAny_execs_nil q
  | ret v => exact q
  | brk => exact q
  | cont => exact q
theorem Inv.quiet {pins : List (Addr × Obj)} {σ : St} {H : Hp} {s : Shared} (I : Inv X pins σ H s) : interactive X.env = false := by simp [interactive, I.ok.kind]
def tDrop (te : TE) : TS := fun D σ H => te σ H fun _ H1 => D.nx σ H1
theorem ps_expr (he : PE X e te) (hs : swapsWith e none pos.line X.env = pure false := by rfl) : PS X (.Expr e pos) (tDrop te) := by
  intro pins s σ H D I h
  exact wpAny_Expr_any (thn (he pins s σ H _ I h) fun v s1 ⟨x, H1, I1, r1, q1⟩ => ⟨σ, H1, I1, q1⟩) I.quiet hs
def tRet (te : TE) : TS := fun D σ H => te σ H D.rt
theorem ps_ret (he : PE X e te) : PS X (.Return (some e) pos) (tRet te) := by
  intro pins s σ H D I h
  exact wpAny_Return_some (thn (he pins s σ H _ I h) fun v s1 ⟨x, H1, I1, r1, q1⟩ => ⟨x, σ, H1, I1, r1, q1⟩)
def tIfS (c : TT) (t u : TS) : TS := fun D σ H => c σ H fun b H1 => if b = true then t D σ H1 else u D σ H1
theorem ps_if {c : Expr} {a b : List Stmt} {tc : TT} (hc : PT X c tc) (ha : PSs X a t) (hb : PSs X b u) : PS X (.If c a b pos) (tIfS tc t u) := by
  intro pins s σ H D I h
  refine wpAny_If (thn (hc pins s σ H _ I h) fun d s1 ⟨H1, I1, q1⟩ => ?_)
  cases d with
  | true => exact ha pins s1 σ H1 D I1 q1
  | false => exact hb pins s1 σ H1 D I1 q1
end

abbrev TG := V → St → Hp → (St → Hp → Prop) → Prop
abbrev TGs := List V → St → Hp → (St → Hp → Prop) → Prop
def PG (X : Cx) (target : Expr) (t : TG) : Prop :=
  ∀ (pins : List (Addr × Obj)) (s : Shared) (σ : St) (H : Hp) (v : V) (u : Value) (Q : St → Hp → Prop), Inv X pins σ H s → RelV v u → t v σ H Q →
    wpAny (model X.prog X.w) X.A (assign target X.env u) (fun _ s' => ∃ σ' H', Inv X pins σ' H' s' ∧ Q σ' H') X.xe s
def PGs (X : Cx) (ts : List Expr) (t : TGs) : Prop :=
  ∀ (pins : List (Addr × Obj)) (s : Shared) (σ : St) (H : Hp) (vs : List V) (us : List Value) (Q : St → Hp → Prop), Inv X pins σ H s → Vals vs us → t vs σ H Q →
    wpAny (model X.prog X.w) X.A (assignInOrder ((assignEach ts X.env).map (·.2)) us) (fun _ s' => ∃ σ' H', Inv X pins σ' H' s' ∧ Q σ' H') X.xe s
abbrev TSet := V → V → V → Hp → (Hp → Prop) → Prop
def PSet (X : Cx) (t : TSet) : Prop :=
  ∀ (pins : List (Addr × Obj)) (s : Shared) (σ : St) (H : Hp) (o i v : V) (ov iv u : Value) (Q : Hp → Prop), Inv X pins σ H s → RelV o ov → RelV i iv → RelV v u → t o i v H Q →
    wpAny (model X.prog X.w) X.A (setItem ov iv u) (fun _ s' => ∃ H', Inv X pins σ H' s' ∧ Q H') X.xe s
section
variable {X : Cx} {pos : Pos}
def gName (i : Nat) : TG := fun v σ H Q => Q (σ.set i (some v)) H
theorem pg_name {i : Nat} {x : Str} (hN : X.N.Nodup) (hi : X.N[i]? = some x) (hx : Loc X.env.scope x) (hf : X.fn x = true ∨ X.env.scope.names.lookup x = some .local := by first | exact .inl rfl | exact .inr rfl | assumption) : PG X (.Name x pos) (gName i) := by
  intro pins s σ H v u Q I r h
  exact wpAny_assign_Name (store_ok I hN hi hx r (fun s' I' => ⟨_, H, I', h⟩) hf)
def gNil : TGs := fun vs σ H Q => vs = [] ∧ Q σ H
def gCons (t : TG) (u : TGs) : TGs := fun vs σ H Q => ∃ v r, vs = v :: r ∧ t v σ H fun σ' H' => u r σ' H' Q
theorem pgs_nil : PGs X [] gNil := by
  intro pins s σ H vs us Q I r h
  obtain ⟨e, h⟩ := h
  subst e
  cases r
  exact assignInOrder_nil ⟨σ, H, I, h⟩
theorem pgs_cons {e : Expr} {es : List Expr} {t : TG} {u : TGs} (h1 : PG X e t) (h2 : PGs X es u)
    (hs : (assignEach (e :: es) X.env).map (·.2) = assign e X.env :: (assignEach es X.env).map (·.2) := by rfl) : PGs X (e :: es) (gCons t u) := by
  intro pins s σ H vs us Q I r h
  obtain ⟨v, vr, e1, h⟩ := h
  subst e1
  cases r with
  | cons r rr =>
    rw [hs]
    refine assignInOrder_cons (thn (h1 pins s σ H _ _ _ I r h) fun _ s1 ⟨σ1, H1, I1, q1⟩ => ?_)
    exact h2 pins s1 σ1 H1 _ _ Q I1 rr q1
def gTup (K : PySem.W.Frag) (n : Nat) (t : TGs) : TG := fun v σ H Q => ∃ a xs, v = .ref a ∧ SqT K H a xs ∧ xs.length = n ∧ t xs σ H Q
theorem pg_tup {es : List Expr} {k : Nat} {t : TGs} {n : Nat} (hc : X.calm = true) (h : PGs X es t)
    (hn : (assignEach es X.env).length = n := by rfl) (hst : (assignEach es X.env).findIdx? (·.1) = none := by rfl) : PG X (.Tuple es k pos) (gTup X.K n t) := by
  intro pins s σ H v u Q I r hw
  obtain ⟨a, xs, e1, hq, hl, hw⟩ := hw
  subst e1
  cases r
  obtain ⟨its, rv, ht, hz⟩ := I.tuple hq
  refine assign_Tuple_tuple (I.ok.hd hc) ht (by simp [hn, ← hl, rv.length]) hst fun h' hx => ?_
  have I1 : Inv X pins σ H { s with heap := h' } := I.kept (t' := s.toks) fun b o e => hx b o (Nat.ne_of_lt (Heap.lt_size e)) e
  exact h pins _ σ H xs _ Q I1 (by simpa using rv) hw
def gSub (to ti : TE) (t : TSet) : TG := fun v σ H Q => to σ H fun o H1 => ti σ H1 fun i H2 => t o i v H2 fun H3 => Q σ H3
theorem pg_sub {o i : Expr} {to ti : TE} {t : TSet} (ho : PE X o to) (hi : PE X i ti) (hs : PSet X t)
    (ha : ∀ v, assign (.Subscript o i pos) X.env v = (do
      let ov ← holding [v] (eval o X.env)
      let iv ← holding [v, ov] (eval i X.env)
      standAt pos
      holding [v, ov, iv] (setItem ov iv v)
      release [v, ov, iv] []) := by intro _; rfl) : PG X (.Subscript o i pos) (gSub to ti t) := by
  intro pins s σ H v u Q I r h
  rw [ha]
  refine wpAny_bind (wpAny_holding (thn (ho pins s σ H _ I h) fun ov s1 ⟨x, H1, I1, r1, q1⟩ => ?_))
  refine wpAny_bind (wpAny_holding (thn (hi pins s1 σ H1 _ I1 q1) fun iv s2 ⟨y, H2, I2, r2, q2⟩ => ?_))
  refine wpAny_bind (wpAny_standAt (wpAny_bind (wpAny_holding (thn (hs pins s2 σ H2 x y v ov iv u _ I2 r1 r2 r q2) fun _ s3 ⟨H3, I3, q3⟩ => ?_))))
  exact wpAny_release ⟨σ, H3, I3, q3⟩
def tAsg (te : TE) (g : TG) : TS := fun D σ H => te σ H fun x H1 => g x σ H1 D.nx
theorem ps_asg {tg e : Expr} {te : TE} {g : TG} (he : PE X e te) (hg : PG X tg g) (hs : swapsWithSole [tg] e pos.line X.env = pure false := by rfl) (hw : swappedStores [tg] e X.env = pure none := by rfl)
    (h1 : (assignEach [tg] X.env).map (·.2) = [assign tg X.env] := by rfl) : PS X (.Assign [tg] e pos) (tAsg te g) := by
  intro pins s σ H D I h
  refine wpAny_Assign_stores (thn (he pins s σ H _ I h) fun v s1 ⟨x, H1, I1, r1, q1⟩ => ?_) hs hw
  rw [h1]
  exact thn (hg pins s1 σ H1 x v _ I1 r1 q1) fun _ s2 q => q
theorem ps_set {i : Nat} {x : Str} {e : Expr} {te : TE} {pos' : Pos} (hN : X.N.Nodup) (hi : X.N[i]? = some x) (hx : Loc X.env.scope x) (he : PE X e te) (hs : swapsWith e (some (.Name x pos')) pos.line X.env = pure false := by rfl) (hf : X.fn x = true ∨ X.env.scope.names.lookup x = some .local := by first | exact .inl rfl | exact .inr rfl | assumption) :
    PS X (.Assign [.Name x pos'] e pos) (tAsg te (gName i)) := by
  intro pins s σ H D I h
  refine wpAny_Assign_Name (thn (he pins s σ H _ I h) fun v s1 ⟨y, H1, I1, r1, q1⟩ => ?_) hs
  exact store_ok I1 hN hi hx r1 (fun s2 I2 => ⟨_, H1, I2, q1⟩) hf
end

section
variable {X : Cx} {pos : Pos}
end

structure It where
  go : Nat → Hp → Prop
  yld : Nat → Hp → V → Hp → Prop
  stop : Nat → Hp → Prop
def FpOk (X : Cx) (pins : List (Addr × Obj)) (H : Hp) (b : Addr) : Prop :=
  H b = none ∧ b ≠ X.env.locals ∧ b ∉ X.fs ∧ (b ∈ X.ex ∨ X.s₀.heap.objs.size ≤ b) ∧ (∀ x c, X.env.cells.lookup x = some c → c ≠ b) ∧ ∀ p ∈ X.pn ++ pins, p.1 ≠ b
theorem Inv.fpOk {X : Cx} {pins : List (Addr × Obj)} {σ : St} {H H' : Hp} {s : Shared} {b : Addr} (I : Inv X pins σ H s) (hb : s.heap.objs.size ≤ b) (hn : H' b = none) : FpOk X pins H' b := by
  refine ⟨hn, Nat.ne_of_gt (Nat.lt_of_lt_of_le I.lt hb), I.nofs hb, .inr (Nat.le_trans I.sz hb), fun x c e z => ?_, fun p hp z => ?_⟩
  · obtain ⟨v, q⟩ := I.cell x c e
    exact absurd (Nat.lt_of_lt_of_le q.lt (by rw [z]; exact hb)) (Nat.lt_irrefl _)
  · exact absurd (Nat.lt_of_lt_of_le (Heap.lt_size (I.pin p hp).1) (by rw [z]; exact hb)) (Nat.lt_irrefl _)
structure Turn (P : Program) (w : World) (K : PySem.W.Frag) (tg : Expr) (J : It) (fp : List Addr) (it : Addr) (tn : Nat → Heap → Prop) : Prop where
  mem : it ∈ fp
  obj : ∀ i h, tn i h → ∀ b ∈ fp, ∃ o, h.get? b = some o ∧ ∀ v, o.data ≠ .cell v
  keep : ∀ i h h', tn i h → (∀ b ∈ fp, ∀ o, h.get? b = some o → h'.get? b = some o) → tn i h'
  item : ∀ (X : Cx), X.prog = P → X.w = w → X.K = K → X.calm = true → ∀ (i : Nat) (pins : List (Addr × Obj)) (s : Shared) (σ : St) (H : Hp) (E : Value → Shared → Prop), Inv X pins σ H s → (∀ b ∈ fp, FpOk X pins H b) → tn i s.heap → J.go i H →
    wpAny (model P w) X.A (pyNext (.ref it)) (fun r s1 => ∃ u, r = some u ∧
      wpAny (model P w) X.A (letOwnedTupleGo tg (.ref it) u) (fun _ s2 => ∃ x H', Inv X pins σ H' s2 ∧ RelV x u ∧ J.yld i H x H' ∧ tn (i + 1) s2.heap ∧ ∀ b ∈ fp, H' b = none) E s1) E s
  done : ∀ (X : Cx), X.prog = P → X.w = w → X.K = K → X.calm = true → ∀ (i : Nat) (pins : List (Addr × Obj)) (s : Shared) (σ : St) (H : Hp) (E : Value → Shared → Prop), Inv X pins σ H s → (∀ b ∈ fp, FpOk X pins H b) → tn i s.heap → J.stop i H →
    wpAny (model P w) X.A (pyNext (.ref it)) (fun r s1 => r = none ∧ Inv X pins σ H s1) E s
  self : ∀ (A : Around) (i : Nat) (s : Shared) (Q : Value → Shared → Prop) (E : Value → Shared → Prop), tn i s.heap → Q (.ref it) s → wpAny (model P w) A (pyIter (.ref it)) Q E s
abbrev TI := St → Hp → (It → Hp → Prop) → Prop
def PIE (X : Cx) (pins : List (Addr × Obj)) (σ : St) (tg : Expr) (R : It → Hp → Prop) (itv : Value) (s2 : Shared) : Prop :=
  ∃ (it : Addr) (fp : List Addr) (tn : Nat → Heap → Prop) (J : It) (H' : Hp), itv = .ref it ∧ Inv X pins σ H' s2 ∧ Turn X.prog X.w X.K tg J fp it tn ∧ tn 0 s2.heap ∧ (∀ b ∈ fp, FpOk X pins H' b) ∧ R J H'
def PI (X : Cx) (tg iter : Expr) (wi : TI) : Prop :=
  ∀ (pins : List (Addr × Obj)) (s : Shared) (σ : St) (H : Hp) (R : It → Hp → Prop), Inv X pins σ H s → wi σ H R →
    wpAny (model X.prog X.w) X.A (eval iter X.env) (fun v s1 => wpAny (model X.prog X.w) X.A (pyIter v) (PIE X pins σ tg R) X.xe s1) X.xe s

theorem go_of {M : Model} {A : Around} {E : Value → Shared → Prop} {s : Shared} {tg : Expr} {it : Addr} {u : Value} {o : Obj} {n : String} {vs : Array Value} {Q : Unit → Shared → Prop} (ho : s.heap.get? it = some o) (hc : o.cls = .type n) (hd : o.data = .fields vs)
    (hn : ["enumerate", "zip", "dict_itemiterator", "dict_reverseitemiterator", "odict_iterator", "itertools.zip_longest", "itertools.pairwise"].contains n = false) (hQ : Q () s) : wpAny M A (letOwnedTupleGo tg (.ref it) u) Q E s := by
  unfold letOwnedTupleGo
  cases tg <;> first
    | exact wpAny_pure hQ
    | (cases u <;> first
        | exact wpAny_pure hQ
        | (refine wpAny_bind (wpAny_load ho ?_)
           rw [hc, hd]
           show wpAny M A (if (["enumerate", "zip", "dict_itemiterator", "dict_reverseitemiterator", "odict_iterator", "itertools.zip_longest", "itertools.pairwise"].contains n && vs[0]? == some (rawInt _)) = true then _ else _) Q E s
           rw [if_neg (by intro h; rw [hn, Bool.false_and] at h; cases h)]
           exact wpAny_pure hQ))

def Itl (K : PySem.W.Frag) (a : Addr) : It :=
  ⟨fun i H => ∃ xs x, SqL K H a xs ∧ xs[i]? = some x, fun i H x H' => H' = H ∧ ∀ xs, SqL K H a xs → xs[i]? = some x, fun i H => ∃ xs, SqL K H a xs ∧ xs.length ≤ i⟩
def Itt (K : PySem.W.Frag) (a : Addr) : It :=
  ⟨fun i H => ∃ xs x, SqT K H a xs ∧ xs[i]? = some x, fun i H x H' => H' = H ∧ ∀ xs, SqT K H a xs → xs[i]? = some x, fun i H => ∃ xs, SqT K H a xs ∧ xs.length ≤ i⟩
def Itr (lo : Int) (n : Nat) : It := ⟨fun i _ => i < n, fun i H x H' => H' = H ∧ x = .int (lo + i), fun i _ => n ≤ i⟩
theorem turn_list {P : Program} {w : World} {K : PySem.W.Frag} {tg : Expr} (a it : Addr) : Turn P w K tg (Itl K a) [it] it (fun i h => h.IsListIter it a i) where
  mem := by simp
  obj := fun i h st b hb => by
    have e : b = it := by simpa using hb
    subst e
    obtain ⟨o, e, c, d⟩ := st
    exact ⟨o, e, fun v z => by rw [d] at z; cases z⟩
  keep := fun i h h' st k => st.at fun o e => k it (by simp) o e
  item := by
    intro X hP hw hK hc i pins s σ H E I hf st hg
    subst hP hw hK
    obtain ⟨xs, x, hq, hx⟩ := hg
    obtain ⟨its, rv, p, hz⟩ := I.list hq
    obtain ⟨u, hu, ru⟩ := rv.get hx
    obtain ⟨f0, f1, f2, f3, f4, f5⟩ := hf it (by simp)
    refine wpAny_pyNext_list_item st p.isList (x := u) (by simpa using hu) fun h' st' sb => ?_
    have I1 : Inv X pins σ H { s with heap := h' } := I.turned (t' := s.toks) (fun b o hb e => (sb.2 b hb).trans e) f0 f1 f3 f4 f5
    obtain ⟨o, e, c, d⟩ := id st'
    exact ⟨u, rfl, go_of (s := { s with heap := h' }) e c d (by decide) ⟨x, H, I1, ru, ⟨rfl, fun ys hy => by rw [I.list_inj hy hq]; exact hx⟩, st', fun b hb => (hf b hb).1⟩⟩
  done := by
    intro X hP hw hK hc i pins s σ H E I hf st hg
    subst hP hw hK
    obtain ⟨xs, hq, hx⟩ := hg
    obtain ⟨its, rv, p, hz⟩ := I.list hq
    obtain ⟨f0, f1, f2, f3, f4, f5⟩ := hf it (by simp)
    have hl := rv.length
    exact wpAny_pyNext_list_end (I.ok.hd hc) st p.isList (by simp; omega) fun h' eb => ⟨rfl, I.turned (t' := s.toks) (fun b o hb e => eb b o hb e) f0 f1 f3 f4 f5⟩
  self := fun _ _ _ _ _ st h => wpAny_pyIter_listiter st h
theorem turn_tuple {P : Program} {w : World} {K : PySem.W.Frag} {tg : Expr} (a it : Addr) : Turn P w K tg (Itt K a) [it] it (fun i h => h.IsTupleIter it a i) where
  mem := by simp
  obj := fun i h st b hb => by
    have e : b = it := by simpa using hb
    subst e
    obtain ⟨o, e, c, d⟩ := st
    exact ⟨o, e, fun v z => by rw [d] at z; cases z⟩
  keep := fun i h h' st k => st.at fun o e => k it (by simp) o e
  item := by
    intro X hP hw hK hc i pins s σ H E I hf st hg
    subst hP hw hK
    obtain ⟨xs, x, hq, hx⟩ := hg
    obtain ⟨its, rv, p, hz⟩ := I.tuple hq
    obtain ⟨u, hu, ru⟩ := rv.get hx
    obtain ⟨f0, f1, f2, f3, f4, f5⟩ := hf it (by simp)
    refine wpAny_pyNext_tuple_item st (show s.heap.IsTuple a its.toArray from p) (x := u) (by simpa using hu) fun h' st' sb => ?_
    have I1 : Inv X pins σ H { s with heap := h' } := I.turned (t' := s.toks) (fun b o hb e => (sb.2 b hb).trans e) f0 f1 f3 f4 f5
    obtain ⟨o, e, c, d⟩ := id st'
    exact ⟨u, rfl, go_of (s := { s with heap := h' }) e c d (by decide) ⟨x, H, I1, ru, ⟨rfl, fun ys hy => by rw [I.tuple_inj hy hq]; exact hx⟩, st', fun b hb => (hf b hb).1⟩⟩
  done := by
    intro X hP hw hK hc i pins s σ H E I hf st hg
    subst hP hw hK
    obtain ⟨xs, hq, hx⟩ := hg
    obtain ⟨its, rv, p, hz⟩ := I.tuple hq
    obtain ⟨f0, f1, f2, f3, f4, f5⟩ := hf it (by simp)
    have hl := rv.length
    exact wpAny_pyNext_tuple_end (I.ok.hd hc) st (show s.heap.IsTuple a its.toArray from p) (by simp; omega) fun h' eb => ⟨rfl, I.turned (t' := s.toks) (fun b o hb e => eb b o hb e) f0 f1 f3 f4 f5⟩
  self := fun _ _ _ _ _ st h => wpAny_pyIter_tupleiter st h
theorem turn_range {P : Program} {w : World} {K : PySem.W.Frag} {tg : Expr} (it : Addr) (lo : Int) (n : Nat) : Turn P w K tg (Itr lo n) [it] it (fun i h => IsRangeIter h it (lo + (i : Nat) * 1) ((n : Int) - (i : Nat)) 1) where
  mem := by simp
  obj := fun i h st b hb => by
    have e : b = it := by simpa using hb
    subst e
    exact ⟨_, st, fun v z => by
      have z' : Data.fields _ = Data.cell v := z
      cases z'⟩
  keep := fun i h h' st k => k it (by simp) _ st
  item := by
    intro X hP hw hK hc i pins s σ H E I hf st hg
    subst hP hw hK
    obtain ⟨f0, f1, f2, f3, f4, f5⟩ := hf it (by simp)
    have W := Walks.range (prog := X.prog) (w := X.w) (I.ok.hd hc) it lo 1 n
    refine W.item i s _ _ hg st fun v h' tk hv st' kk => ?_
    obtain ⟨t, rfl⟩ := hv
    have I1 : Inv X pins σ H { s with heap := h', toks := tk } := I.turned (fun b o hb e => kk b o (by simpa using hb) e) f0 f1 f3 f4 f5
    refine ⟨_, rfl, go_of (s := { s with heap := h', toks := tk }) (n := "range_iterator") st' rfl rfl (by decide) ⟨.int (lo + i), H, I1, ⟨t, ?_⟩, ⟨rfl, rfl⟩, st', fun b hb => (hf b hb).1⟩⟩
    rw [Int.mul_one]
  done := by
    intro X hP hw hK hc i pins s σ H E I hf st hg
    subst hP hw hK
    obtain ⟨f0, f1, f2, f3, f4, f5⟩ := hf it (by simp)
    exact wpAny_pyNext_range_end (I.ok.hd hc) st (by have : n ≤ i := hg; omega) fun h' eb => ⟨rfl, I.turned (t' := s.toks) (fun b o hb e => eb b o hb e) f0 f1 f3 f4 f5⟩
  self := fun _ _ _ _ _ st h => wpAny_pyIter_rangeiter st h
end L2

namespace L2
open PySem PySem.Spec PyProof.Rows
section
variable {X : Cx} {tg : Expr}
def iList (K : PySem.W.Frag) (tl : TE) : TI := fun σ H R => tl σ H fun x H1 => ∃ a, x = .ref a ∧ (∃ xs, SqL K H1 a xs) ∧ R (Itl K a) H1
def iTup (K : PySem.W.Frag) (tl : TE) : TI := fun σ H R => tl σ H fun x H1 => ∃ a, x = .ref a ∧ (∃ xs, SqT K H1 a xs) ∧ R (Itt K a) H1
theorem pi_list {l : Expr} {tl : TE} (hl : PE X l tl) : PI X tg l (iList X.K tl) := by
  intro pins s σ H R I h
  refine thn (hl pins s σ H _ I h) fun v s1 ⟨x, H1, I1, r1, q1⟩ => ?_
  obtain ⟨a, e, ⟨xs, hq⟩, q⟩ := q1
  subst e
  cases r1
  obtain ⟨its, rv, p, hz⟩ := I1.list hq
  refine wpAny_pyIter_list p.isList ?_
  refine ⟨s1.heap.objs.size, [s1.heap.objs.size], _, _, H1, rfl, I1.kept (t' := s1.toks) fun b o e => Heap.get?_push_of_some _ e, turn_list a _, ⟨_, Heap.get?_push_size _ rfl, rfl, rfl⟩, fun b hb => ?_, q⟩
  have e : b = s1.heap.objs.size := by simpa using hb
  subst e
  exact I1.fpOk (Nat.le_refl _) (I1.hok.fresh (Nat.le_refl _))
theorem pi_tup {l : Expr} {tl : TE} (hl : PE X l tl) : PI X tg l (iTup X.K tl) := by
  intro pins s σ H R I h
  refine thn (hl pins s σ H _ I h) fun v s1 ⟨x, H1, I1, r1, q1⟩ => ?_
  obtain ⟨a, e, ⟨xs, hq⟩, q⟩ := q1
  subst e
  cases r1
  obtain ⟨its, rv, p, hz⟩ := I1.tuple hq
  refine wpAny_pyIter_tuple (show s1.heap.IsTuple a its.toArray from p) ?_
  refine ⟨s1.heap.objs.size, [s1.heap.objs.size], _, _, H1, rfl, I1.kept (t' := s1.toks) fun b o e => Heap.get?_push_of_some _ e, turn_tuple a _, ⟨_, Heap.get?_push_size _ rfl, rfl, rfl⟩, fun b hb => ?_, q⟩
  have e : b = s1.heap.objs.size := by simpa using hb
  subst e
  exact I1.fpOk (Nat.le_refl _) (I1.hok.fresh (Nat.le_refl _))
theorem range_it {pins : List (Addr × Obj)} {σ : St} {H : Hp} {s : Shared} {R : It → Hp → Prop} {E : Value → Shared → Prop} {lo hi : Int} {t u v : Tok} {tk : Nat} (I : Inv X pins σ H s) (h1 : -(2 ^ 62) ≤ lo) (h2 : lo < 2 ^ 62) (h3 : -(2 ^ 62) ≤ hi) (h4 : hi < 2 ^ 62)
    (q : R (Itr lo (hi - lo).toNat) H) : wpAny (model X.prog X.w) X.A (pyIter (.ref s.heap.objs.size)) (PIE X pins σ tg R) E { s with heap := s.heap.push { cls := .type "range", data := .fields #[.int lo t, .int hi u, .int 1 v] }, toks := tk } := by
  refine wpAny_pyIter_range (IsRange.new ..) (small_one h1 h2 h3 h4) ?_
  have I1 : Inv X pins σ H { s with heap := s.heap.push { cls := .type "range", data := .fields #[.int lo t, .int hi u, .int 1 v] }, toks := tk } := I.kept fun b o e => Heap.get?_push_of_some _ e
  refine ⟨(s.heap.push { cls := .type "range", data := .fields #[.int lo t, .int hi u, .int 1 v] }).objs.size, [(s.heap.push { cls := .type "range", data := .fields #[.int lo t, .int hi u, .int 1 v] }).objs.size], _, _, H, rfl,
    I1.kept (t' := tk) fun b o e => Heap.get?_push_of_some _ e, turn_range _ lo (hi - lo).toNat, ?_, fun b hb => ?_, q⟩
  · have e1 : lo + ((0 : Nat) : Int) * 1 = lo := by simp
    have e2 : (((hi - lo).toNat : Nat) : Int) - ((0 : Nat) : Int) = Builtin.Range.rangeSize lo hi 1 := by rw [rangeSize_one]; split <;> omega
    show IsRangeIter _ _ (lo + ((0 : Nat) : Int) * 1) ((((hi - lo).toNat : Nat) : Int) - ((0 : Nat) : Int)) 1
    rw [e1, e2]
    exact Heap.get?_push_size _ rfl
  · have e : b = (s.heap.push { cls := .type "range", data := .fields #[.int lo t, .int hi u, .int 1 v] }).objs.size := by simpa using hb
    subst e
    exact I1.fpOk (Nat.le_refl _) (I1.hok.fresh (Nat.le_refl _))
def iRng1 (ta : TA) : TI := fun σ H R => ta σ H fun vs H1 => ∃ j : Int, vs = [.int j] ∧ -(2 ^ 62) ≤ j ∧ j < 2 ^ 62 ∧ R (Itr 0 j.toNat) H1
theorem pi_range1 {a : Expr} {ta : TA} {p pos : Pos} (hg : Gl X "range") (hm : X.mg "range" = none) (ha : PA X [a] ta) (hs : starEach [a] X.env = [(false, eval a X.env)] := by rfl) : PI X tg (.Call (.Name "range" p) [a] [] pos) (iRng1 ta) := by
  intro pins s σ H R I h
  refine Call_ (ld_blt I hg hm boot_range (PyProof.Rows.callWith_type1 (thn (ha pos pins s σ H _ I h) fun us s1 ⟨vs, H1, I1, r1, q1⟩ => ?_) hs rfl))
  obtain ⟨j, e, q1, q2, q⟩ := q1
  subst e
  cases r1 with
  | cons r rr =>
    cases rr
    obtain ⟨t, rfl⟩ := r
    exact call_range_1 (range_it I1 (by omega) (by omega) q1 q2 (by simpa using q))
def tFor (wi : TI) (g : TG) (tb : TS) : TS := fun D σ H => wi σ H fun J H1 => ∃ W : Nat → Nat → St → Hp → Prop, (∃ m, W 0 m σ H1) ∧ ∀ i m σ H, W i m σ H →
  (J.stop i H ∧ D.nx σ H) ∨ (J.go i H ∧ ∃ N : St → Hp → Prop, (∀ σ' H', N σ' H' → ∃ m', m' < m ∧ W (i + 1) m' σ' H') ∧ ∀ x H', J.yld i H x H' → g x σ H' fun σ2 H2 => tb { D with nx := N, ct := N, bk := D.nx } σ2 H2)
def pinsAt (fp : List Addr) (h : Heap) : List (Addr × Obj) := fp.filterMap fun b => (h.get? b).map fun o => (b, o)
theorem mem_pinsAt {fp : List Addr} {h : Heap} {b : Addr} {o : Obj} (hb : b ∈ fp) (e : h.get? b = some o) : (b, o) ∈ pinsAt fp h := List.mem_filterMap.mpr ⟨b, hb, by rw [e]; rfl⟩
theorem of_pinsAt {fp : List Addr} {h : Heap} {p : Addr × Obj} (hp : p ∈ pinsAt fp h) : p.1 ∈ fp ∧ h.get? p.1 = some p.2 := by
  obtain ⟨b, hb, e⟩ := List.mem_filterMap.mp hp
  cases q : h.get? b with
  | none => rw [q] at e; cases e
  | some o =>
    rw [q] at e
    have e' : (b, o) = p := Option.some.inj e
    subst e'
    exact ⟨hb, q⟩
theorem Inv.pinned {pins : List (Addr × Obj)} {σ : St} {H : Hp} {s : Shared} {fp : List Addr} (I : Inv X pins σ H s) (hf : ∀ b ∈ fp, FpOk X pins H b) (ho : ∀ b ∈ fp, ∃ o, s.heap.get? b = some o ∧ ∀ v, o.data ≠ .cell v) : Inv X (pins ++ pinsAt fp s.heap) σ H s :=
  I.pins_of fun p hp => (List.mem_append.mp hp).elim (fun z => I.pin p (List.mem_append_right _ z)) fun z => by
    obtain ⟨hb, e⟩ := of_pinsAt z
    obtain ⟨f0, f1, f2, _⟩ := hf p.1 hb
    obtain ⟨o, e', d⟩ := ho p.1 hb
    rw [e] at e'; cases e'
    exact ⟨e, f0, f1, f2, d⟩
theorem Inv.unpinned {pins pl : List (Addr × Obj)} {σ : St} {H : Hp} {s : Shared} (I : Inv X (pins ++ pl) σ H s) : Inv X pins σ H s := I.pins_of fun p hp => I.pin p (List.mem_append_right _ (List.mem_append_left _ hp))
theorem ps_for {iter : Expr} {body : List Stmt} {wi : TI} {g : TG} {tb : TS} {pos : Pos} (hp : PassesOwn (model X.prog X.w) X.A X.env X.xe) (hc : X.calm = true) (hi : PI X tg iter wi) (hg : PG X tg g) (hb : PSs X body tb)
    (hs : ∀ x, foldedSetIterable iter X.env x = pure x := by intro _; rfl) : PS X (.For tg iter body [] pos) (tFor wi g tb) := by
  intro pins s σ H D I h
  refine wpAny_For (thn (hi pins s σ H _ I h) fun v s1 h1 => thn h1 fun itv s2 h2 => ?_) hs
  obtain ⟨it, fp, tn, J, H2, e, I2, T, st2, f2, W, ⟨m0, w0⟩, turn⟩ := h2
  subst e
  -- what stays true of the iterator's objects through the loop
  have stat : ∀ {H' : Hp}, (∀ b ∈ fp, H' b = none) → ∀ b ∈ fp, FpOk X pins H' b := fun hn b hb => ⟨hn b hb, (f2 b hb).2⟩
  refine codeAny_forLoop_any (fun n s' => ∃ i σ' H', Inv X pins σ' H' s' ∧ tn i s'.heap ∧ (∀ b ∈ fp, H' b = none) ∧ W i n σ' H') ?_ m0 ⟨0, σ, H2, I2, st2, fun b hb => (f2 b hb).1, w0⟩
  rintro n s3 ⟨i, σ3, H3, I3, st3, fr3, w3⟩
  rcases turn i n σ3 H3 w3 with ⟨stop, qn⟩ | ⟨go, N, hN, step⟩
  · refine wpAny_passesOwn hp (thn (T.done X rfl rfl rfl hc i pins s3 σ3 H3 X.xe I3 (stat fr3) st3 stop) fun r s4 ⟨hr, I4⟩ => ?_)
    subst hr
    exact wpAny_execs_nil ⟨σ3, H3, I4, qn⟩
  · refine wpAny_passesOwn hp (thn (T.item X rfl rfl rfl hc i pins s3 σ3 H3 X.xe I3 (stat fr3) st3 go) fun r s4 ⟨u, hr, h4⟩ => ?_)
    subst hr
    refine wpAny_passesOwn hp (thn h4 fun _ s5 ⟨x, H5, I5, r5, y5, st5, fr5⟩ => ?_)
    have I5' := I5.pinned (stat fr5) (T.obj _ _ st5)
    refine wpAny_passesOwn hp (thn (hg _ s5 σ3 H5 x u _ I5' r5 (step x H5 y5)) fun _ s6 ⟨σ6, H6, I6, q6⟩ => ?_)
    refine wpAny_passesOwn hp (thn (hb _ s6 σ6 H6 _ I6 q6) fun f s7 q7 => ?_)
    have again : ∀ {σ7 : St} {H7 : Hp}, Inv X (pins ++ pinsAt fp s5.heap) σ7 H7 s7 → N σ7 H7 → ∃ m, m < n ∧ ∃ i σ' H', Inv X pins σ' H' s7 ∧ tn i s7.heap ∧ (∀ b ∈ fp, H' b = none) ∧ W i m σ' H' := fun {σ7 H7} I7 n7 => by
      obtain ⟨m', hm, w7⟩ := hN σ7 H7 n7
      refine ⟨m', hm, i + 1, σ7, H7, I7.unpinned, T.keep _ _ _ st5 fun b hb o e => (I7.pin (b, o) (List.mem_append_right _ (List.mem_append_right _ (mem_pinsAt hb e)))).1, fun b hb => ?_, w7⟩
      obtain ⟨o, e, d⟩ := T.obj _ _ st5 b hb
      exact (I7.pin (b, o) (List.mem_append_right _ (List.mem_append_right _ (mem_pinsAt hb e)))).2.1
    cases f with
    | next => obtain ⟨σ7, H7, I7, n7⟩ := q7; exact again I7 n7
    | cont => obtain ⟨σ7, H7, I7, n7⟩ := q7; exact again I7 n7
    | brk => obtain ⟨σ7, H7, I7, q7⟩ := q7; exact ⟨σ7, H7, I7.unpinned, q7⟩
    | ret v => obtain ⟨x7, σ7, H7, I7, r7, q7⟩ := q7; exact ⟨x7, σ7, H7, I7.unpinned, r7, q7⟩
end

end L2

namespace L2
open PySem PySem.Spec PyProof.Rows

abbrev R2 := V → V → Hp → VK → Prop
def OpR (X : Cx) (f : Value → Value → Sem Value) (r : R2) : Prop :=
  ∀ (pins : List (Addr × Obj)) (s : Shared) (σ : St) (H : Hp) (x y : V) (v u : Value) (Q : VK), Inv X pins σ H s → RelV x v → RelV y u → r x y H Q →
    wpAny (model X.prog X.w) X.A (f v u) (EP X pins σ Q) X.xe s
def CallR (X : Cx) (f : Value) (r : List V → Hp → VK → Prop) : Prop :=
  ∀ (pins : List (Addr × Obj)) (s : Shared) (σ : St) (H : Hp) (xs : List V) (us : List Value) (Q : VK), Inv X pins σ H s → Vals xs us → r xs H Q →
    wpAny (model X.prog X.w) X.A (call f us) (EP X pins σ Q) X.xe s
def TruR (X : Cx) (r : V → Hp → (Bool → Hp → Prop) → Prop) : Prop :=
  ∀ (pins : List (Addr × Obj)) (s : Shared) (σ : St) (H : Hp) (x : V) (v : Value) (Q : Bool → Hp → Prop), Inv X pins σ H s → RelV x v → r x H Q →
    wpAny (model X.prog X.w) X.A (truthy v) (TP X pins σ Q) X.xe s

def tOp (r : R2) (ta tb : TE) : TE := fun σ H Q => ta σ H fun x H1 => tb σ H1 fun y H2 => r x y H2 Q
def rI (C : Int → Int → Prop) (g : Int → Int → V) : R2 := fun x y H Q => ∃ i j, x = .int i ∧ y = .int j ∧ C i j ∧ Q (g i j) H
def rI0 (g : Int → Int → V) : R2 := fun x y H Q => ∃ i j, x = .int i ∧ y = .int j ∧ Q (g i j) H
section
variable {X : Cx} {a b c : Expr} {ta tb tc : TE} {pos : Pos}

theorem binT (ha : PE X a ta) (hb : PE X b tb) {pins : List (Addr × Obj)} {s : Shared} {σ : St} {H : Hp} {R : V → V → Hp → Prop} (I : Inv X pins σ H s)
    (h : ta σ H fun x H1 => tb σ H1 fun y H2 => R x y H2) {Q : Value → Shared → Prop} {f : Value → Value → Sem Value}
    (hf : ∀ v u s2 x y H2, Inv X pins σ H2 s2 → RelV x v → RelV y u → R x y H2 → wpAny (model X.prog X.w) X.A (f v u) Q X.xe s2) :
    wpAny (model X.prog X.w) X.A (eval a X.env) (fun v s₁ => wpAny (model X.prog X.w) X.A (eval b X.env) (fun u s₂ => wpAny (model X.prog X.w) X.A (f v u) Q X.xe s₂) X.xe s₁) X.xe s := by
  refine thn (ha pins s σ H _ I h) fun v s1 ⟨x, H1, I1, r1, q1⟩ => ?_
  refine thn (hb pins s1 σ H1 _ I1 q1) fun u s2 ⟨y, H2, I2, r2, q2⟩ => ?_
  exact hf v u s2 x y H2 I2 r1 r2 q2

theorem pe_op {op : Operator} {r : R2} (ho : OpR X (binaryOp op) r) (ha : PE X a ta) (hb : PE X b tb) : PE X (.BinOp a op b pos) (tOp r ta tb) := by
  intro pins s σ H Q I h
  exact wpAny_BinOp (binT ha hb I h fun v u s2 x y H2 I2 rx ry q => ho pins s2 σ H2 x y v u Q I2 rx ry q)
theorem opI {f : Value → Value → Sem Value} {C : Int → Int → Prop} {g : Int → Int → Int}
    (rule : ∀ (i j : Int) (t u : Tok) (s : Shared) (Q : Value → Shared → Prop) (E : Value → Shared → Prop), C i j → Q (.int (g i j) s.toks) { s with toks := s.toks + 1 } → wpAny (model X.prog X.w) X.A (f (.int i t) (.int j u)) Q E s) :
    OpR X f (rI C fun i j => .int (g i j)) := by
  intro pins s σ H x y v u Q I rx ry h
  obtain ⟨i, j, rfl, rfl, hc, q⟩ := h
  obtain ⟨t, rfl⟩ := rx
  obtain ⟨t', rfl⟩ := ry
  exact rule i j t t' s _ _ hc ⟨.int (g i j), H, I.tok _, ⟨_, rfl⟩, q⟩
theorem opI0 {f : Value → Value → Sem Value} {g : Int → Int → Int}
    (rule : ∀ (i j : Int) (t u : Tok) (s : Shared) (Q : Value → Shared → Prop) (E : Value → Shared → Prop), Q (.int (g i j) s.toks) { s with toks := s.toks + 1 } → wpAny (model X.prog X.w) X.A (f (.int i t) (.int j u)) Q E s) :
    OpR X f (rI0 fun i j => .int (g i j)) := by
  intro pins s σ H x y v u Q I rx ry h
  obtain ⟨i, j, rfl, rfl, q⟩ := h
  obtain ⟨t, rfl⟩ := rx
  obtain ⟨t', rfl⟩ := ry
  exact rule i j t t' s _ _ ⟨.int (g i j), H, I.tok _, ⟨_, rfl⟩, q⟩
theorem opB0 {f : Value → Value → Sem Value} {g : Int → Int → Bool}
    (rule : ∀ (i j : Int) (t u : Tok) (s : Shared) (Q : Value → Shared → Prop) (E : Value → Shared → Prop), Q (.bool (g i j)) s → wpAny (model X.prog X.w) X.A (f (.int i t) (.int j u)) Q E s) :
    OpR X f (rI0 fun i j => .bl (g i j)) := by
  intro pins s σ H x y v u Q I rx ry h
  obtain ⟨i, j, rfl, rfl, q⟩ := h
  obtain ⟨t, rfl⟩ := rx
  obtain ⟨t', rfl⟩ := ry
  exact rule i j t t' s _ _ ⟨.bl (g i j), H, I, rfl, q⟩

def CPow (i j : Int) : Prop := 0 ≤ j ∧ j ≤ 1000000 ∧ i.natAbs < 2 ^ 64
def CMul (i j : Int) : Prop := (-(2 ^ 64) < i ∧ i < 2 ^ 64) ∨ (-(2 ^ 64) < j ∧ j < 2 ^ 64)
theorem CMul.ok {i j : Int} (h : CMul i j) : IntMulOk i j := by
  rcases h with ⟨h1, h2⟩ | ⟨h1, h2⟩
  · exact .of_left (intBits_le_64 h1 h2)
  · exact .of_right (intBits_le_64 h1 h2)
theorem op_add : OpR X (binaryOp .Add) (rI0 fun i j => .int (i + j)) := opI0 fun _ _ _ _ _ _ _ q => add_int q
theorem op_sub : OpR X (binaryOp .Sub) (rI0 fun i j => .int (i - j)) := opI0 fun _ _ _ _ _ _ _ q => sub_int q
theorem op_mul : OpR X (binaryOp .Mult) (rI CMul fun i j => .int (i * j)) := opI fun _ _ _ _ _ _ _ hc q => mul_int q hc.ok
theorem op_mod : OpR X (binaryOp .Mod) (rI (fun _ j => 0 < j) fun i j => .int (i % j)) := opI fun i j _ _ _ _ _ hc q => by
  have h1 : (0 : Int) < j := hc
  exact mod_int' (by omega) (by rw [Int.fmod_eq_emod_of_nonneg i (by omega)]; exact q)
theorem op_pow : OpR X (binaryOp .Pow) (rI CPow fun i j => .int (i ^ j.toNat)) := opI fun _ _ _ _ _ _ _ hc q => pow_int_small hc.1 hc.2.1 hc.2.2 q
end

section
variable {X : Cx} {a b c : Expr} {ta tb tc : TE} {pos : Pos}
theorem fin_bl {pins : List (Addr × Obj)} {σ : St} {H : Hp} {s : Shared} {Q : VK} {k k' : Bool} (I : Inv X pins σ H s) (q : Q (.bl k) H) (e : k = k') : EP X pins σ Q (.bool k') s := by
  subst e
  exact ⟨.bl k, H, I, rfl, q⟩
theorem op_lt : OpR X (compareOp .Lt) (rI0 fun i j => .bl (decide (i < j))) := opB0 fun _ _ _ _ _ _ _ q => lt_int q
theorem op_le : OpR X (compareOp .LtE) (rI0 fun i j => .bl (decide (i ≤ j))) := opB0 fun _ _ _ _ _ _ _ q => le_int q
theorem op_ge : OpR X (compareOp .GtE) (rI0 fun i j => .bl (decide (j ≤ i))) := opB0 fun _ _ _ _ _ _ _ q => ge_int q
theorem op_in_str : OpR X (compareOp .In) (fun x y H Q => ∃ i j, x = .str i ∧ y = .str j ∧ Q (.bl (!(Builtin.Str.occurrences j i 0 j.length 1).isEmpty)) H) := by
  intro pins s σ H x y v u Q I rx ry h
  obtain ⟨i, j, rfl, rfl, q⟩ := h
  obtain ⟨t, rfl⟩ := rx
  obtain ⟨t', rfl⟩ := ry
  exact in_str (fin_bl I q rfl)

theorem nomark (b : Expr) {op : CmpOp} (h : op ≠ .In := by decide) (h2 : op ≠ .NotIn := by decide) : behindInMarks op b = false := by
  have e1 : (op == CmpOp.In) = false := by cases op <;> first | rfl | exact absurd rfl h
  have e2 : (op == CmpOp.NotIn) = false := by cases op <;> first | rfl | exact absurd rfl h2
  cases b <;> simp [behindInMarks, e1, e2]
theorem pe_cmpR {op : CmpOp} {r : R2} (ho : OpR X (compareOp op) r) (ha : PE X a ta) (hb : PE X b tb) (hm : behindInMarks op b = false) : PE X (.Compare a [op] [b] pos) (tOp r ta tb) := by
  intro pins s σ H Q I h
  exact wpAny_Compare1 (binT ha hb I h fun v u s2 x y H2 I2 rx ry q => ho pins s2 σ H2 x y v u Q I2 rx ry q) hm
def tTest (t : TE) : TT := fun σ H Q => t σ H fun x H' => ∃ k, x = .bl k ∧ Q k H'
theorem pt_cmpR {op : CmpOp} {r : R2} (ho : OpR X (compareOp op) r) (ha : PE X a ta) (hb : PE X b tb) (hm : behindInMarks op b = false) : PT X (.Compare a [op] [b] pos) (tTest (tOp r ta tb)) := by
  intro pins s σ H Q I h
  refine wpAny_isTrue_Compare1 (thn (ha pins s σ H _ I h) fun v s1 ⟨x, H1, I1, r1, q1⟩ => thn (hb pins s1 σ H1 _ I1 q1) fun u s2 ⟨y, H2, I2, r2, q2⟩ =>
    thn (ho pins s2 σ H2 x y v u _ I2 r1 r2 q2) fun c s3 ⟨z, H3, I3, r3, k, e, q3⟩ => ?_) hm
  subst e
  cases r3
  exact wpAny_truthy_bool ⟨H3, I3, q3⟩
def tChain (r r' : R2) (ta tb tc : TE) : TE := fun σ H Q => ta σ H fun x H1 => tb σ H1 fun y H2 => r x y H2 fun z H3 => ∃ k, z = .bl k ∧
  (if k = true then tc σ H3 fun w' H4 => r' y w' H4 Q else Q (.bl false) H3)
theorem pe_chain {op op' : CmpOp} {r r' : R2} (ho : OpR X (compareOp op) r) (ho' : OpR X (compareOp op') r') (ha : PE X a ta) (hb : PE X b tb) (hc : PE X c tc)
    (hm : lastMarks [op, op'] [b, c] = false := by with_unfolding_all rfl) : PE X (.Compare a [op, op'] [b, c] pos) (tChain r r' ta tb tc) := by
  intro pins s σ H Q I h
  refine Compare_chain (thn (ha pins s σ H _ I h) fun v s1 ⟨x, H1, I1, r1, q1⟩ => chain_link (thn (hb pins s1 σ H1 _ I1 q1) fun u s2 ⟨y, H2, I2, r2, q2⟩ =>
    thn (ho pins s2 σ H2 x y v u _ I2 r1 r2 q2) fun d s3 ⟨z, H3, I3, r3, k, e, q3⟩ => ?_)) hm
  subst e
  cases r3
  refine wpAny_truthy_bool ?_
  cases k with
  | false => exact ite_ff ⟨.bl false, H3, I3, rfl, q3⟩
  | true => exact ite_tt (chain_last (thn (hc pins s3 σ H3 _ I3 q3) fun w' s4 ⟨z', H4, I4, r4, q4⟩ => ho' pins s4 σ H4 y z' u w' Q I4 r2 r4 q4))
theorem pt_chain {op op' : CmpOp} {r r' : R2} (ho : OpR X (compareOp op) r) (ho' : OpR X (compareOp op') r') (ha : PE X a ta) (hb : PE X b tb) (hc : PE X c tc)
    (hm : lastMarks [op, op'] [b, c] = false := by with_unfolding_all rfl) : PT X (.Compare a [op, op'] [b, c] pos) (tTest (tChain r r' ta tb tc)) := by
  intro pins s σ H Q I h
  refine isTrue_chain (thn (ha pins s σ H _ I h) fun v s1 ⟨x, H1, I1, r1, q1⟩ => test_link (thn (hb pins s1 σ H1 _ I1 q1) fun u s2 ⟨y, H2, I2, r2, q2⟩ =>
    thn (ho pins s2 σ H2 x y v u _ I2 r1 r2 q2) fun d s3 ⟨z, H3, I3, r3, k, e, q3⟩ => ?_)) hm
  subst e
  cases r3
  refine wpAny_truthy_bool ?_
  cases k with
  | false =>
    obtain ⟨k', e', q'⟩ := q3
    cases e'
    exact ite_ff ⟨H3, I3, q'⟩
  | true =>
    refine ite_tt (test_last (thn (hc pins s3 σ H3 _ I3 q3) fun w' s4 ⟨z', H4, I4, r4, q4⟩ => thn (ho' pins s4 σ H4 y z' u w' _ I4 r2 r4 q4) fun d' s5 ⟨z2, H5, I5, r5, k2, e2, q5⟩ => ?_))
    subst e2
    cases r5
    exact wpAny_truthy_bool ⟨H5, I5, q5⟩

def TruV (K : PySem.W.Frag) (x : V) (H : Hp) (k : Bool) : Prop :=
  match x with
  | .non => k = false
  | .bl b => k = b
  | .int i => k = (i != 0)
  | .str y => y.length ≤ sizeLine ∧ k = ((y.length : Int) != 0)
  | .byt y => y.size ≤ sizeLine ∧ k = ((y.size : Int) != 0)
  | .ref p => (∃ xs, SqL K H p xs ∧ k = !xs.isEmpty) ∨ (∃ xs, SqT K H p xs ∧ k = !xs.isEmpty) ∨ ∃ kvs, H p = some (.dK kvs) ∧ k = !kvs.isEmpty
  | _ => False
theorem isEmpty_kv {κ : Type} {kvs : List (κ × V)} {vs : List (κ × Value)} (r : KV kvs vs) : (!vs.isEmpty) = !kvs.isEmpty := by
  cases r <;> rfl
theorem isEmpty_of {xs : List V} {its : List Value} (r : Vals xs its) : (!its.toArray.isEmpty) = !xs.isEmpty := by
  cases r <;> simp
theorem line63 : (sizeLine : Nat) < 2 ^ 63 := by rw [sizeLine_eq]; decide
theorem tru_ok : TruR X (fun x H Q => ∃ k, TruV X.K x H k ∧ Q k H) := by
  intro pins s σ H x v Q I rx h
  obtain ⟨k, e, q⟩ := h
  have hl := line63
  have hs : sizeLine = 16777216 := sizeLine_eq
  cases x with
  | non =>
    cases rx
    have e' : k = false := e
    subst e'
    exact truthy_none ⟨H, I, q⟩
  | bl b =>
    cases rx
    have e' : k = b := e
    subst e'
    exact wpAny_truthy_bool ⟨H, I, q⟩
  | int i =>
    obtain ⟨t, rfl⟩ := rx
    have e' : k = (i != 0) := e
    subst e'
    exact PySem.P.truthy_int ⟨H, I, q⟩
  | str y =>
    obtain ⟨t, rfl⟩ := rx
    obtain ⟨hy, e'⟩ : y.length ≤ sizeLine ∧ k = ((y.length : Int) != 0) := e
    subst e'
    exact PySem.P.truthy_str (by omega) ⟨H, I.tok _, q⟩
  | byt y =>
    obtain ⟨t, rfl⟩ := rx
    obtain ⟨hy, e'⟩ : y.size ≤ sizeLine ∧ k = ((y.size : Int) != 0) := e
    subst e'
    exact PySem.W.truthy_bytes (by omega) ⟨H, I.tok _, q⟩
  | ref p =>
    cases rx
    have e' : (∃ xs, SqL X.K H p xs ∧ k = !xs.isEmpty) ∨ (∃ xs, SqT X.K H p xs ∧ k = !xs.isEmpty) ∨ ∃ kvs, H p = some (.dK kvs) ∧ k = !kvs.isEmpty := e
    rcases e' with ⟨xs, hx, e'⟩ | ⟨xs, hx, e'⟩ | ⟨kvs, hx, e'⟩
    · subst e'
      obtain ⟨its, r, pl, hz⟩ := I.list hx
      have hlen := r.length
      exact wpAny_truthy_list pl.isList (by simp only [List.size_toArray]; omega) ⟨H, I.tok _, by rw [isEmpty_of r]; exact q⟩
    · subst e'
      obtain ⟨its, r, pl, hz⟩ := I.tuple hx
      have hlen := r.length
      exact truthy_tuple pl (by simp only [List.size_toArray]; omega) ⟨H, I.tok _, by rw [isEmpty_of r]; exact q⟩
    · subst e'
      obtain ⟨hz, hS, vs, r, m⟩ : kvs.length ≤ sizeLine ∧ (p == sysModules) = false ∧ ∃ vs, KV kvs vs ∧ s.heap.DictOf (mixKind X.prog X.w) p vs := I.hok p _ hx
      have hlen : kvs.length = vs.length := Paired.length r
      exact wpAny_truthy_dict hS m (by omega) ⟨H, I.tok _, by rw [isEmpty_kv r]; exact q⟩
  | _ => exact (show False from e).elim
theorem op_add_str : OpR X (binaryOp .Add) (fun x y H Q => ∃ i j, x = .str i ∧ y = .str j ∧ i.length + j.length ≤ sizeLine ∧ Q (.str (i ++ j)) H) := by
  intro pins s σ H x y v u Q I rx ry h
  obtain ⟨i, j, rfl, rfl, hz, q⟩ := h
  obtain ⟨t, rfl⟩ := rx
  obtain ⟨t', rfl⟩ := ry
  exact add_str (fun t' tk => ⟨.str (i ++ j), H, I.tok _, ⟨_, rfl⟩, q⟩) hz
theorem vals1 {x : V} {us : List Value} (r : Vals [x] us) : ∃ u, us = [u] ∧ RelV x u := by
  cases r with
  | cons r1 r2 => cases r2; exact ⟨_, rfl, r1⟩
theorem vals2 {x y : V} {us : List Value} (r : Vals [x, y] us) : ∃ u w', us = [u, w'] ∧ RelV x u ∧ RelV y w' := by
  cases r with
  | cons r1 r2 =>
    cases r2 with
    | cons r3 r4 => cases r4; exact ⟨_, _, rfl, r1, r3⟩
def LenV (K : PySem.W.Frag) (x : V) (H : Hp) (n : Nat) : Prop :=
  match x with
  | .str y => y.length ≤ sizeLine ∧ n = y.length
  | .byt y => y.size ≤ sizeLine ∧ n = y.size
  | .ref p => (∃ xs, SqL K H p xs ∧ n = xs.length) ∨ ∃ xs, SqT K H p xs ∧ n = xs.length
  | _ => False
theorem call_len : CallR X (.builtin "len") (fun xs H Q => ∃ x n, xs = [x] ∧ LenV X.K x H n ∧ Q (.int n) H) := by
  intro pins s σ H xs us Q I r h
  obtain ⟨x, n, rfl, e, q⟩ := h
  obtain ⟨u, rfl, rx⟩ := vals1 r
  have hl := line63
  have hs : sizeLine = 16777216 := sizeLine_eq
  cases x with
  | str y =>
    obtain ⟨t, rfl⟩ := rx
    obtain ⟨hy, e'⟩ : y.length ≤ sizeLine ∧ n = y.length := e
    subst e'
    exact len_str (by omega) ⟨.int _, H, I.tok _, ⟨_, rfl⟩, q⟩
  | byt y =>
    obtain ⟨t, rfl⟩ := rx
    obtain ⟨hy, e'⟩ : y.size ≤ sizeLine ∧ n = y.size := e
    subst e'
    exact PySem.W.len_bytes (by omega) ⟨.int _, H, I.tok _, ⟨_, rfl⟩, q⟩
  | ref p =>
    cases rx
    have e' : (∃ xs, SqL X.K H p xs ∧ n = xs.length) ∨ ∃ xs, SqT X.K H p xs ∧ n = xs.length := e
    rcases e' with ⟨xs, hx, e'⟩ | ⟨xs, hx, e'⟩
    · subst e'
      obtain ⟨its, r', pl, hz⟩ := I.list hx
      have hlen := r'.length
      exact Calls.call_len_list pl.isList (by simp only [List.size_toArray]; omega) ⟨.int xs.length, H, I.tok _, ⟨_, by simp only [List.size_toArray]; rw [hlen]⟩, q⟩
    · subst e'
      obtain ⟨its, r', pl, hz⟩ := I.tuple hx
      have hlen := r'.length
      exact len_tuple pl (by simp only [List.size_toArray]; omega) ⟨.int xs.length, H, I.tok _, ⟨_, by simp only [List.size_toArray]; rw [hlen]⟩, q⟩
  | _ => exact (show False from e).elim
end
end L2

namespace L2
open PySem PySem.Spec PyProof.Rows

structure ObjM (h : Heap) (x dx C : Addr) (mA : Str → Option Value) : Prop where
  obj : h.get? x = some (PySem.W.instObj C dx)
  ns : h.Ns1 dx mA
  ne : dx ≠ x

theorem lookIn_ns {h : Heap} {dx : Addr} {mA : Str → Option Value} (n : h.Ns1 dx mA) : ∃ od, h.get? dx = some od ∧ ∀ name, PySem.W.lookIn name od = some (mA name) := by
  obtain ⟨o, es, ep, ho, hd, hk, _, hm⟩ := n
  refine ⟨o, ho, fun name => ?_⟩
  have e := hm name
  unfold nsFind findBy at e
  rw [← Array.find?_toList] at e
  unfold PySem.W.lookIn
  rw [hd]
  dsimp only
  split
  · rename_i y q
    rw [q] at e
    exact congrArg some e
  · rename_i q
    rw [q] at e
    have a : es.toList.any (·.refKey) = false := by
      rw [List.any_eq_false]
      intro y hy
      obtain ⟨z, t, hkey⟩ := hk y (Array.mem_toList_iff.mp hy)
      simp [DictEntry.refKey, hkey]
    have a' : ¬ es.toList.any (·.refKey) = true := by rw [a]; exact Bool.false_ne_true
    rw [if_neg a']
    exact congrArg some e

theorem ObjM.look {h : Heap} {x dx C : Addr} {mA : Str → Option Value} (I : ObjM h x dx C mA) : ∃ od, PySem.W.InstAt h x (PySem.W.instObj C dx) C (some od) ∧ ∀ name, PySem.W.lookIn name od = some (mA name) :=
  let ⟨od, ho, hl⟩ := lookIn_ns I.ns
  ⟨od, ⟨I.obj, rfl, rfl, ho⟩, hl⟩

section
variable {prog : Program} {w : World} {A : Around} {E : Value → Shared → Prop} {s : Shared} {K : PySem.W.Frag} {x dx C f : Addr} {mA : Str → Option Value} {name : Str} {v : Value}

end

theorem RelO.some_of {v : V} {o : Option Value} (r : RelO (some v) o) : ∃ u, o = some u ∧ RelV v u := by
  cases o with
  | none => exact (show False from r).elim
  | some u => exact ⟨u, rfl, r⟩
section
variable {P : Program} {w : World} {H H' : Hp} {h h' : Heap} {a C dx : Addr} {fs fs' : List (Str × V)}
theorem ins_get (hok : HOk P w H h) (e : H a = some (.ins C dx fs)) : ∃ mA, ObjM h a dx C mA ∧ (∀ f, RelO (fs.lookup f) (mA f)) ∧ PySem.Within mA (fs.map (·.1)) ∧ fs.length ≤ 1000 ∧ H dx = some (.own a) := by
  obtain ⟨d, z, ne, ob, mA, n, r, q⟩ := (show ObjOk P w H h a (.ins C dx fs) from hok a _ e)
  exact ⟨mA, ⟨ob, n, ne⟩, r, q, z, d⟩
end

structure Cls (K : PySem.W.Frag) (C : Addr) : Prop where
  pg : PySem.W.plainGet K C Str.empty = true
  hd : PySem.W.hasDictIn K C = true
  po : PySem.W.plainOver K C = true
  sa : PySem.W.findIn K (.ref C) "__setattr__" = some (some (.builtin "object.__setattr__"))
theorem Cls.get {K : PySem.W.Frag} {C : Addr} (c : Cls K C) (f : Str) : PySem.W.plainGet K C f = true := c.pg
section
variable {X : Cx} {pins : List (Addr × Obj)} {σ : St} {H : Hp} {s : Shared} {a C dx : Addr} {fs : List (Str × V)} {f : Str} {v : V} {A : Around} {E : Value → Shared → Prop}

end

section
variable {X : Cx} {o e value : Expr} {f : Str} {pos pos' tpos : Pos} {ta tv : TE}
end

section
variable {X : Cx} {pins : List (Addr × Obj)} {σ : St} {H : Hp} {s : Shared} {A : Around} {E : Value → Shared → Prop} {Q : Value → Shared → Prop} {c : Value} {b : Bool}
inductive TyOf (K : PySem.W.Frag) (H : Hp) : V → Value → Prop where
  | non : TyOf K H .non (.type "NoneType")
  | bl (x : Bool) : TyOf K H (.bl x) (.type "bool")
  | int (i : Int) : TyOf K H (.int i) (.type "int")
  | str (x : Str) : TyOf K H (.str x) (.type "str")
  | flt (x : UInt64) : TyOf K H (.flt x) (.type "float")
  | lst {a : Addr} {xs : List V} (e : H a = some (.lst xs)) : TyOf K H (.ref a) (.type "list")
  | frz {a : Addr} {o : Obj} {xs : List V} (e : H a = some (.frz o (.lst xs))) : TyOf K H (.ref a) (.type "list")
  | tup {a : Addr} {xs : List V} (e : H a = some (.tup xs)) : TyOf K H (.ref a) (.type "tuple")
  | dK {a : Addr} {kvs : List (Key × V)} (e : H a = some (.dK kvs)) : TyOf K H (.ref a) (.type "dict")
  | dT {a : Addr} {kvs : List (List Key × V)} (e : H a = some (.dT kvs)) : TyOf K H (.ref a) (.type "dict")
  | ins {a C dx : Addr} {fs : List (Str × V)} (e : H a = some (.ins C dx fs)) (cl : Cls K C) (ha : PySem.W.findIn K (.ref C) "__class__" = some (some (.builtin "object.__class__")))
      (hn : PySem.W.specialIn K (.builtin "object.__class__") "__get__" = some (some (.builtin "getset_descriptor.__get__"))) (htk : PySem.W.takesIn K (.builtin "object.__class__") = some true)
      (hm : PySem.W.mroIn K C (.type "object") = some true) : TyOf K H (.ref a) (.ref C)
theorem isinst_ok {x : V} {u t : Value} (I : Inv X pins σ H s) (rx : RelV x u) (ty : TyOf X.K H x t) (e : PySem.W.kitOne X.K t c = some b) (h : ∀ tk, Q (.bool b) { s with toks := tk }) :
    wpAny (model X.prog X.w) A (call (.builtin "isinstance") [u, c]) Q E s := by
  cases ty with
  | non => cases (show u = Value.none from rx); exact PySem.W.kia_one PySem.W.kitx_none I.kIn True.intro e (fun z => nomatch z) h
  | bl y => cases (show u = Value.bool y from rx); exact PySem.W.kia_one PySem.W.kitx_bool I.kIn True.intro e (fun z => nomatch z) h
  | int i => obtain ⟨t, q⟩ := (show ∃ t, u = Value.int i t from rx); cases q; exact PySem.W.kia_one PySem.W.kitx_int I.kIn True.intro e (fun z => nomatch z) h
  | str y => obtain ⟨t, q⟩ := (show ∃ t, u = Value.str y t from rx); cases q; exact PySem.W.kia_one PySem.W.kitx_str I.kIn True.intro e (fun z => nomatch z) h
  | flt y => obtain ⟨t, q⟩ := (show ∃ t, u = Value.float y t from rx); cases q; exact PySem.W.kia_one PySem.W.kitx_float I.kIn True.intro e (fun z => nomatch z) h
  | @lst a xs ea =>
    cases (show u = Value.ref a from rx)
    obtain ⟨_, _, n, _, h1⟩ := (show ObjOk X.prog X.w H s.heap a (.lst xs) from I.hok a _ ea)
    exact PySem.W.kia_one PySem.W.kitx_list I.kIn ⟨_, h1, rfl⟩ e (fun z => nomatch z) h
  | @frz a ob xs ea =>
    cases (show u = Value.ref a from rx)
    obtain ⟨_, _, _, n, _, h1⟩ := (show ObjOk X.prog X.w H s.heap a (.frz ob (.lst xs)) from I.hok a _ ea)
    exact PySem.W.kia_one PySem.W.kitx_list I.kIn ⟨_, h1, rfl⟩ e (fun z => nomatch z) h
  | @tup a xs ea =>
    cases (show u = Value.ref a from rx)
    obtain ⟨_, _, _, p⟩ := (show ObjOk X.prog X.w H s.heap a (.tup xs) from I.hok a _ ea)
    obtain ⟨o, h1, h2, _⟩ := p
    exact PySem.W.kia_one PySem.W.kitx_tuple I.kIn ⟨o, h1, h2⟩ e (fun z => nomatch z) h
  | @dK a kvs ea =>
    cases (show u = Value.ref a from rx)
    obtain ⟨_, _, vs, _, p⟩ := (show ObjOk X.prog X.w H s.heap a (.dK kvs) from I.hok a _ ea)
    obtain ⟨o, es, ep, h1, h2, _⟩ := p
    exact PySem.W.kia_one PySem.W.kitx_dict I.kIn ⟨o, h1, h2.1⟩ e (fun z => nomatch z) h
  | @dT a kvs ea =>
    cases (show u = Value.ref a from rx)
    obtain ⟨_, _, xs, _, o, es, ep, h1, h2, _⟩ := (show ObjOk X.prog X.w H s.heap a (.dT kvs) from I.hok a _ ea)
    exact PySem.W.kia_one PySem.W.kitx_dict I.kIn ⟨o, h1, h2.1⟩ e (fun z => nomatch z) h
  | @ins a C dx fs ea cl ha hn htk hm =>
    cases (show u = Value.ref a from rx)
    obtain ⟨mA, O, _⟩ := ins_get I.hok ea
    obtain ⟨od, J, _⟩ := O.look
    exact PySem.W.kia_one (PySem.W.kitx_own (cl.get _) cl.hd ha hn htk hm) I.kIn J e (fun z => nomatch z) h
end
end L2

namespace L2
open PySem PySem.Spec PyProof.Rows

structure Room (k : Nat) (A : Around) : Prop where
  hd : A.handled = none
  dp : A.depth + 3 * k + 5 < recursionLimit
  un : A.units + 16 * k + 200 < cLine
theorem Room.mono {j k : Nat} {A : Around} (r : Room k A) (h : j ≤ k) : Room j A := ⟨r.hd, by have := r.dp; omega, by have := r.un; omega⟩
theorem Room.deeper {k : Nat} {A : Around} (r : Room (k + 1) A) (env : Env) : Room k (A.deeper env) :=
  ⟨r.hd, by have := r.dp; show A.depth + 1 + 3 * k + 5 < _; omega, by have := r.un; show A.units + 3 + 16 * k + 200 < _; omega⟩
theorem Room.depth {k : Nat} {A : Around} (r : Room k A) : A.depth < recursionLimit := by have := r.dp; omega
def tNil : TA := fun _ H Q => Q [] H
def tCons (ta : TE) (tr : TA) : TA := fun σ H Q => ta σ H fun x H1 => tr σ H1 fun xs H2 => Q (x :: xs) H2
section
variable {X : Cx} {e : Expr} {es : List Expr} {te : TE} {t : TA} {pos : Pos}
theorem pa_nil : PA X [] tNil := fun _ _ _ _ H Q I h => Calls.spliced_nil ⟨[], H, I, .nil, h⟩
theorem pa_cons (ha : PE X e te) (hr : PA X es t) (hs : starEach (e :: es) X.env = (false, eval e X.env) :: starEach es X.env := by rfl) : PA X (e :: es) (tCons te t) := by
  intro pos pins s σ H Q I h
  rw [hs]
  show wpAny _ _ (spliced ((false, eval e X.env) :: backTo pos (starEach es X.env))) _ _ s
  refine Calls.spliced_cons (thn (ha pins s σ H _ I h) fun u s1 ⟨x, H1, I1, r1, q1⟩ => ?_)
  exact thn (hr pos pins s1 σ H1 _ I1 q1) fun us s2 ⟨xs, H2, I2, r2, q2⟩ => ⟨x :: xs, H2, I2, .cons r1 r2, q2⟩

def tLst (t : TA) : TE := fun σ H Q => t σ H fun xs H1 => xs.length ≤ sizeLine ∧ ∀ p, H1 p = none → Q (.ref p) (upd H1 p (.lst xs))
theorem pe_lst (h : PA X es t) : PE X (.List es pos) (tLst t) := by
  intro pins s σ H Q I hq
  refine wpAny_List_spliced (thn (h pos pins s σ H _ I hq) fun us s1 ⟨xs, H1, I1, r, z, q⟩ => ⟨by rw [← r.length]; exact z, ?_⟩)
  have hf : H1 s1.heap.objs.size = none := I1.hok.fresh (Nat.le_refl _)
  refine ⟨.ref s1.heap.objs.size, upd H1 s1.heap.objs.size (.lst xs), I1.laid (t' := s1.toks) (fun b u e => Heap.get?_push_of_some _ e) (Nat.le_refl _) ?_, rfl, q _ hf⟩
  exact ⟨z, us, 0, r, Heap.get?_push_size _ rfl⟩
end

abbrev Sp := List V → Hp → VK → XK → Prop
abbrev CXT := List Env → Hp → Shared → XK → Value → Shared → Prop

structure Env0 (P : Program) (w : World) (K : PySem.W.Frag) (mg : Str → Option Value) (base : Heap) (A : Around) (outer : List Env) (s : Shared) (H : Hp) : Prop where
  frames : A.frames = some outer
  mod : Mod K mg base
  bs : ∀ b o, base.get? b = some o → s.heap.get? b = some o ∧ H b = none
  bsz : base.objs.size ≤ s.heap.objs.size
  funs : s.heap.FunFrames base outer
  frf : ∀ b ∈ frs outer, H b = none
  hok : HOk P w H s.heap
  bare : AllBare s.gens
def CE (outer : List Env) (P : Program) (w : World) (H : Hp) (s : Shared) (Q : VK) (u : Value) (s' : Shared) : Prop :=
  ∃ v H', s'.os = s.os ∧ AllBare s'.gens ∧ Un (frs outer) [] H H' s.heap s'.heap ∧ HOk P w H' s'.heap ∧ RelV v u ∧ Q v H'
def CR (CX : CXT) (outer : List Env) (P : Program) (w : World) (H : Hp) (s : Shared) (Q : VK) (E : XK) (r : Result) (s' : Shared) : Prop :=
  match r with
  | .ok (.ret u) => CE outer P w H s Q u s'
  | .ok _ => False
  | .error e => CX outer H s E e s'
structure FnOk (P : Program) (w : World) (K : PySem.W.Frag) (mg : Str → Option Value) (base : Heap) (CX : CXT) (k : Nat) (f : Addr) (fd : FuncData) (ps : List Str) (sp : Sp) : Prop where
  len : ∀ vs H Q E, sp vs H Q E → vs.length = ps.length
  run : ∀ (A : Around) (outer : List Env) (s : Shared) (H : Hp) (args : Args) (us : List Value) (vs : List V) (Q : VK) (E : XK), Room k A → Env0 P w K mg base A outer s H → BindsTo s fd args (ps.zip us) → Vals vs us → sp vs H Q E →
    codeAny (model P w) A (.call (.ref f) args) (CR CX outer P w H s Q E) s
theorem FnOk.imp {P : Program} {w : World} {K : PySem.W.Frag} {mg : Str → Option Value} {base : Heap} {CX : CXT} {k : Nat} {f : Addr} {fd : FuncData} {ps : List Str} {sp sp' : Sp} (F : FnOk P w K mg base CX k f fd ps sp)
    (h : ∀ vs H Q E, sp' vs H Q E → sp vs H Q E) : FnOk P w K mg base CX k f fd ps sp' :=
  ⟨fun vs H Q E q => F.len vs H Q E (h _ _ _ _ q), fun A outer s H args us vs Q E hr he hb hv hs => F.run A outer s H args us vs Q E hr he hb hv (h _ _ _ _ hs)⟩

section
variable {X : Cx} {pins : List (Addr × Obj)} {σ : St} {H : Hp} {s s' : Shared}
theorem Inv.env0 (I : Inv X pins σ H s) : Env0 X.prog X.w X.K X.mg X.base X.A X.stack s H :=
  ⟨I.ok.frames, I.ok.mod, I.bs, Nat.le_trans I.ok.bsz I.sz, I.stack, I.stkFree, I.hok, I.bare⟩
theorem Inv.after {Q : VK} {u : Value} (I : Inv X pins σ H s) (h : CE X.stack X.prog X.w H s Q u s') : EP X pins σ Q u s' := by
  obtain ⟨v, H', os, bare, un, hok, r, q⟩ := h
  obtain ⟨hh, g, d, t, os'⟩ := s'
  obtain rfl : os' = s.os := os
  exact ⟨v, H', I.call (h' := hh) (g' := g) (d' := d) (t' := t) (ch := []) un hok bare (fun b z => absurd z (by simp)), r, q⟩
end

def tCall (sp : Sp) (dvs : List V) (E : XK) (t : TA) : TE := fun σ H Q => t σ H fun vs H1 => sp (vs ++ dvs) H1 Q E
def Binds (K : PySem.W.Frag) (fd : FuncData) (ps : List Str) (ds : List Value) : Prop :=
  ∀ (s : Shared) (us : List Value), K.In s.heap → (us ++ ds).length = ps.length → BindsTo s fd ⟨us, []⟩ (ps.zip (us ++ ds))
theorem Binds.all {K : PySem.W.Frag} {fd : FuncData} {ps : List Str} (h : ∀ us : List Value, us.length = ps.length → bindArgs fd ⟨us, []⟩ = pure (ps.zip us)) : Binds K fd ps [] := fun s us _ hl => by
  rw [List.append_nil] at hl ⊢
  exact .of_eq (h us hl)

def Passes (CX : CXT) (X : Cx) (E : XK) : Prop := ∀ (pins : List (Addr × Obj)) (σ : St) (H : Hp) (s : Shared) (e : Value) (s' : Shared), Inv X pins σ H s → CX X.stack H s E e s' → X.xe e s'

section
variable {X : Cx} {CX : CXT} {k : Nat} {f C : Addr} {fd : FuncData} {ps : List Str} {sp : Sp} {dvs : List V} {ds : List Value} {E : XK} {x m : Str} {p pos apos : Pos} {e o : Expr} {es : List Expr} {ta : TE} {t : TA}

theorem run_fn {pins : List (Addr × Obj)} {σ : St} {H : Hp} {s : Shared} {Q : VK} {us : List Value} {vs : List V} (F : FnOk X.prog X.w X.K X.mg X.base CX k f fd ps sp) (hr : Room k X.A) (hb : Binds X.K fd ps ds) (hd : Vals dvs ds) (hx : Passes CX X E)
    (I : Inv X pins σ H s) (r : Vals vs us) (h : sp (vs ++ dvs) H Q E) : wpAny (model X.prog X.w) X.A (call (.ref f) us) (EP X pins σ Q) X.xe s := by
  have r2 : Vals (vs ++ dvs) (us ++ ds) := r.append hd
  have hl : (us ++ ds).length = ps.length := by rw [← r2.length]; exact F.len _ _ _ _ h
  refine wpAny_call (codeAny_mono (F.run X.A X.stack s H ⟨us, []⟩ (us ++ ds) (vs ++ dvs) Q E hr I.env0 (hb s us I.kIn hl) r2 h) fun r s' hq => ?_)
  cases r with
  | error e => exact hx pins σ H s e s' I hq
  | ok fl =>
    cases fl with
    | ret u => exact I.after hq
    | next => exact False.elim hq
    | brk => exact False.elim hq
    | cont => exact False.elim hq

theorem pe_call (F : FnOk X.prog X.w X.K X.mg X.base CX k f fd ps sp) (hr : Room k X.A) (hg : Gl X x) (hm : X.mg x = some (.ref f)) (hk : PySem.W.keepIn X.K (.ref f) = true) (hb : Binds X.K fd ps ds) (hd : Vals dvs ds) (hx : Passes CX X E)
    (ha : PA X (e :: es) t) (hdb : (x == ("__debug__" : Str)) = false := by decide) (he : starEach (e :: es) X.env = (false, eval e X.env) :: starEach es X.env := by rfl) (hpl : (backTo pos (starEach es X.env)).any (·.1) = false := by rfl) :
    PE X (.Call (.Name x p) (e :: es) [] pos) (tCall sp dvs E t) := by
  intro pins s σ H Q I h
  refine wpAny_Call_Name_kw (ld_glob I hg hm ?_ hdb)
  refine PySem.W.callWith_K (h₀ := X.base) I.ok.mod.kin hk (thn (ha pos pins s σ H _ I h) fun us s1 ⟨vs, H1, I1, r, q⟩ => ⟨I1.kIn, ?_⟩) he hpl
  exact run_fn F hr hb hd hx I1 r q
end

section
variable {X : Cx} {CX : CXT} {k : Nat} {f C : Addr} {fd : FuncData} {ps ks : List Str} {sp : Sp} {E : XK} {x m : Str} {p pos apos kpos : Pos} {e o : Expr} {es : List Expr} {kws : List Keyword} {te ta : TE} {t tk : TA} {nm : Option Str}
variable {g : List Value → List Value → List Value} {gV : List V → List V → List V}
end

structure FnScope (N P : List Str) (sc : Scope) : Prop where
  kind : sc.kind = .function
  co : sc.isCoroutine = false
  gen : sc.isGenerator = false
  nd : N.Nodup
  pre : N.take P.length = P
  par : ∀ x ∈ P, sc.names.lookup x = some .local ∨ sc.names.lookup x = some .cell
  nofree : ∀ y ∈ sc.names, y.2 ≠ .free

theorem bindL_out {kindOf : Str → Option NameKind} {x : Str} : ∀ {binds : List (Str × Value)} {m : Str → Option Value}, (∀ v, (x, v) ∉ binds) → bindL kindOf binds m x = m x
  | [], _, _ => rfl
  | (n, v) :: r, m, h => by
    unfold bindL
    rw [bindL_out fun w hw => h w (List.mem_cons_of_mem _ hw)]
    split
    · have : x ≠ n := by rintro rfl; exact h v List.mem_cons_self
      simp [this]
    · rfl
theorem bindC_out {kindOf : Str → Option NameKind} {x : Str} : ∀ {binds : List (Str × Value)} {m : Str → Option Value}, (∀ v, (x, v) ∉ binds) → bindC kindOf binds m x = m x
  | [], _, _ => rfl
  | (n, v) :: r, m, h => by
    unfold bindC
    rw [bindC_out fun w hw => h w (List.mem_cons_of_mem _ hw)]
    split
    · rfl
    · have : x ≠ n := by rintro rfl; exact h v List.mem_cons_self
      simp [this]
theorem bindL_get {kindOf : Str → Option NameKind} {x : Str} {v : Value} : ∀ {P : List Str} {vs : List Value} {i : Nat} {m : Str → Option Value}, P.Nodup → P[i]? = some x → vs[i]? = some v → kindOf x = some .local →
    bindL kindOf (P.zip vs) m x = some v
  | [], _, _, _, _, h, _, _ => by simp at h
  | _ :: _, [], _, _, _, _, h, _ => by simp at h
  | p :: P, w :: vs, 0, m, nd, h1, h2, hk => by
    simp at h1 h2; subst h1; subst h2
    show bindL kindOf ((p, w) :: P.zip vs) m p = _
    unfold bindL
    rw [bindL_out fun v hv => (List.nodup_cons.mp nd).1 (List.of_mem_zip hv).1, if_pos hk]
    simp
  | p :: P, w :: vs, i + 1, m, nd, h1, h2, hk => by
    show bindL kindOf ((p, w) :: P.zip vs) m x = _
    unfold bindL
    exact bindL_get (i := i) (List.nodup_cons.mp nd).2 (by simpa using h1) (by simpa using h2) hk
theorem bindC_get {kindOf : Str → Option NameKind} {x : Str} {v : Value} : ∀ {P : List Str} {vs : List Value} {i : Nat} {m : Str → Option Value}, P.Nodup → P[i]? = some x → vs[i]? = some v → kindOf x ≠ some .local →
    bindC kindOf (P.zip vs) m x = some v
  | [], _, _, _, _, h, _, _ => by simp at h
  | _ :: _, [], _, _, _, _, h, _ => by simp at h
  | p :: P, w :: vs, 0, m, nd, h1, h2, hk => by
    simp at h1 h2; subst h1; subst h2
    show bindC kindOf ((p, w) :: P.zip vs) m p = _
    unfold bindC
    rw [bindC_out fun v hv => (List.nodup_cons.mp nd).1 (List.of_mem_zip hv).1, if_neg hk]
    simp
  | p :: P, w :: vs, i + 1, m, nd, h1, h2, hk => by
    show bindC kindOf ((p, w) :: P.zip vs) m x = _
    unfold bindC
    exact bindC_get (i := i) (List.nodup_cons.mp nd).2 (by simpa using h1) (by simpa using h2) hk

def start (N : List Str) (vs : List V) : St := vs.map some ++ List.replicate (N.length - vs.length) none

def cxOf (CX : CXT) (P : Program) (w : World) (K : PySem.W.Frag) (mg : Str → Option Value) (base : Heap) (N : List Str) (qual : Str) (scope : Scope) (f : Addr) (cd : Value) (A : Around) (outer : List Env) (s : Shared) (H : Hp) (E : XK) : Cx where
  prog := P
  w := w
  K := K
  mg := mg
  base := base
  A := A.deeper (envOfC qual scope s.heap.objs.size f cd)
  N := N
  s₀ := s
  H₀ := H
  env := envOfC qual scope s.heap.objs.size f cd
  outer := outer
  stack := envOfC qual scope s.heap.objs.size f cd :: outer
  ex := []
  calm := true
  fn := fun _ => true
  pn := []
  xe := fun e s' => wpAny (model P w) (A.deeper (envOfC qual scope s.heap.objs.size f cd)) (leaving (envOfC qual scope s.heap.objs.size f cd) e) (fun _ s'' => CX outer H s E e s'') (fun e' s'' => CX outer H s E e' s'') s'

theorem cell_has {sc : Scope} {n : Nat} {x : Str} (h : sc.names.lookup x = some .cell) : ∃ c, (cellsFrom n sc.names []).lookup x = some c := by
  have q := PySem.W.cellsFrom_some sc.names n [] (.inl h)
  exact Option.isSome_iff_exists.mp q

theorem inv_start {CX : CXT} {P : Program} {w : World} {K : PySem.W.Frag} {mg : Str → Option Value} {base : Heap} {N ps : List Str} {qual : Str} {scope : Scope} {f : Addr} {cd : Value} {A : Around} {outer : List Env} {s s1 : Shared} {H : Hp} {E : XK} {us : List Value} {vs : List V}
    (S : FnScope N ps scope) (hd : A.handled = none) (e0 : Env0 P w K mg base A outer s H) (hl : vs.length = ps.length) (r : Vals vs us)
    (x : InCallC s s.heap.objs.size (bindL (envOfC qual scope s.heap.objs.size f cd).kindOf (ps.zip us) fun _ => none) (cellsFrom (s.heap.objs.size + 1) scope.names []) (bindC (envOfC qual scope s.heap.objs.size f cd).kindOf (ps.zip us) fun _ => none) s1) :
    Inv (cxOf CX P w K mg base N qual scope f cd A outer s H E) [] (start N vs) H s1 := by
  have hpl : ps.length ≤ N.length := by have := congrArg List.length S.pre; rw [List.length_take] at this; omega
  obtain ⟨h1, tk, rfl, hk⟩ := x.done
  have noA : ∀ b : Addr, b ∉ (cxOf CX P w K mg base N qual scope f cd A outer s H E).ex := fun b z => absurd (show b ∈ ([] : List Addr) from z) (by simp)
  refine ⟨⟨e0.mod, S.kind, rfl, rfl, Nat.le_refl _, fun y z c h1 h2 => ?_, fun y hy => ?_, fun y c _ h => ?_, fun _ => hd, Around.frames_deeper e0.frames, .inr ⟨rfl, rfl⟩, fun b z => absurd z (noA b), e0.bs, e0.bsz, fun b _ _ => noA b, fun b z => absurd z (noA b), e0.funs, e0.frf⟩,
    rfl, e0.bare, Un.kept hk, ⟨_, x.toInCall.ns, fun i y v h1 h2 h3 => ?_⟩, fun y c h => ⟨_, x.cell y c h⟩, e0.hok.fresh (Nat.le_refl _), fun y c h => ?_, fun p hp => absurd (show p ∈ ([] : List (Addr × Obj)) from hp) (by simp), e0.hok.kept hk, ?_⟩
  · exact name_of_addr x.apart (PySem.mem_of_lookup h1) (PySem.mem_of_lookup h2)
  · have hy : scope.names.lookup y = some .cell ∨ scope.names.lookup y = some .free := hy
    rcases hy with hy | hy
    · exact cell_has hy
    · exact absurd rfl (S.nofree _ (PySem.mem_of_lookup hy))
  · exact Nat.le_of_lt (x.above y c (PySem.mem_of_lookup h))
  · have hi : i < vs.length := by
      unfold start at h2
      by_cases hi : i < vs.length
      · exact hi
      · rw [List.getElem?_append_right (by simpa using hi)] at h2
        rw [List.getElem?_replicate] at h2
        split at h2 <;> cases h2
    have ha : vs[i]? = some v := by
      unfold start at h2
      rw [List.getElem?_append_left (by simpa using hi), List.getElem?_map] at h2
      cases e : vs[i]? with
      | none => rw [e] at h2; cases h2
      | some a => rw [e] at h2; cases h2; rfl
    obtain ⟨u, hu, rv⟩ := r.get ha
    have hp : ps[i]? = some y := by
      rw [← S.pre, List.getElem?_take_of_lt (by omega)]; exact h1
    have ndP : ps.Nodup := by rw [← S.pre]; exact S.nd.sublist (List.take_sublist _ _)
    refine ⟨u, rv, ?_⟩
    rcases S.par y (List.mem_of_getElem? hp) with k | k
    · exact .inl ⟨k, bindL_get ndP hp hu k⟩
    · obtain ⟨c, e⟩ := cell_has (n := s.heap.objs.size + 1) k
      refine .inr ⟨.inl k, c, e, ?_⟩
      have q := x.cell y c e
      rw [bindC_get ndP hp hu (by show scope.names.lookup y ≠ _; rw [k]; decide)] at q
      exact q
  · exact e0.hok.fresh (Nat.le_of_lt (x.above y c (PySem.mem_of_lookup h)))
  · unfold start
    show _ = N.length
    rw [List.length_append, List.length_map, List.length_replicate]
    omega

theorem fn_of {CX : CXT} {P : Program} {w : World} {K : PySem.W.Frag} {mg : Str → Option Value} {base : Heap} {k : Nat} {f : Addr} {name qual : Str} {params : Arguments} {body : List Stmt} {scope : Scope} {dV kV doc pm cdv ct oc : Value} {an od : Option Addr}
    {osl : Array (Option Value)} {N ps : List Str} {sp : Sp} (lk : K.lookup f = some ⟨oc, od, .func (PySem.W.fnOf name qual params body scope dV kV doc pm an cdv ct), osl⟩) (hcd : PySem.W.codeIn K cdv qual = true) (S : FnScope N ps scope)
    (len : ∀ vs H Q E, sp vs H Q E → vs.length = ps.length)
    (hbody : ∀ (A : Around) (outer : List Env) (s : Shared) (H : Hp) (vs : List V) (Q : VK) (E : XK), Room k (A.deeper (envOfC qual scope s.heap.objs.size f cdv)) → sp vs H Q E →
      ∃ t, PSs (cxOf CX P w K mg base N qual scope f cdv A outer s H E) body t ∧ t { nx := fun _ H' => Q .non H', rt := Q } (start N vs) H) :
    FnOk P w K mg base CX (k + 1) f (PySem.W.fnOf name qual params body scope dV kV doc pm an cdv ct) ps sp := by
  refine ⟨len, fun A outer s H args us vs Q E hr e0 hb r hsp => ?_⟩
  have hl := len _ _ _ _ hsp
  have KX : K.In s.heap := e0.mod.kin.keeps fun b o e => (e0.bs b o e).1
  have lim : s.heap.NoLimit := e0.mod.nolimit.keeps fun b o e => (e0.bs b o e).1
  have hkind : ∀ y ∈ ps.zip us, scope.names.lookup y.1 = some .local ∨ (scope.names.lookup y.1 = some .cell ∧ ((cellsFrom (s.heap.objs.size + 1) scope.names []).lookup y.1).isSome = true) := fun ⟨n, v⟩ hy => by
    rcases S.par n (List.of_mem_zip hy).1 with q | q
    · exact .inl q
    · exact .inr ⟨q, PySem.W.cellsFrom_some _ _ _ (.inl q)⟩
  refine codeAny_call_function hr.depth (KX _ _ lk) rfl S.co S.gen rfl (PySem.W.codeRec_of KX hcd) (hb _ _ _ _ ?_)
  refine wpAny_newFunctionEnv_cells S.kind hkind fun env he s1 x => ?_
  subst he
  refine ⟨lim.keeps x.toInCall.keep, codeAny_func ?_⟩
  obtain ⟨t, ht, hq⟩ := hbody A outer s H vs Q E (hr.deeper _) hsp
  have I : Inv (cxOf CX P w K mg base N qual scope f cdv A outer s H E) [] (start N vs) H s1 := inv_start S hr.hd e0 hl r x
  refine wpAny_mono (ht [] s1 (start N vs) H _ I hq) (fun fl s' hs => ?_) fun e s' hs => hs
  have fin : ∀ {σ' : St} {H' : Hp} {v : V} {u : Value}, Inv (cxOf CX P w K mg base N qual scope f cdv A outer s H E) [] σ' H' s' → RelV v u → Q v H' → CE outer P w H s Q u s' :=
    fun {σ' H' v u} J rv q => ⟨v, H', J.os, J.bare, J.base, J.hok, rv, q⟩
  cases fl with
  | ret u =>
    obtain ⟨v, σ', H', J, rv, q⟩ := hs
    exact fin J rv q
  | next =>
    obtain ⟨σ', H', J, q⟩ := hs
    exact fin (v := V.non) (u := Value.none) J rfl q
  | brk =>
    obtain ⟨_, _, _, q⟩ := hs
    exact False.elim q
  | cont =>
    obtain ⟨_, _, _, q⟩ := hs
    exact False.elim q
end L2

namespace L2
open PySem PySem.Spec PyProof.Rows
section
variable {X : Cx} {x : Str} {p pos : Pos} {e : Expr} {es : List Expr} {t : TA} {id T : String} {r : List V → Hp → VK → Prop}

def tCB (r : List V → Hp → VK → Prop) (t : TA) : TE := fun σ H Q => t σ H fun vs H1 => r vs H1 Q
theorem pe_callB (hc : CallR X (.builtin id) r) (hg : Gl X x) (hm : X.mg x = none) (hv : bootBuiltins x = some (.builtin id)) (ha : PA X (e :: es) t) (hn : x ≠ "__name__" := by decide) (hdb : (x == ("__debug__" : Str)) = false := by decide)
    (he : starEach (e :: es) X.env = (false, eval e X.env) :: starEach es X.env := by rfl) (hpl : (backTo pos (starEach es X.env)).any (·.1) = false := by rfl) : PE X (.Call (.Name x p) (e :: es) [] pos) (tCB r t) := by
  intro pins s σ H Q I h
  refine wpAny_Call_Name_kw (ld_blt I hg hm hv ?_ hn hdb)
  exact PyProof.Rows.callWith_builtin1 (thn (ha pos pins s σ H _ I h) fun us s1 ⟨vs, H1, I1, r1, q1⟩ => hc pins s1 σ H1 vs us Q I1 r1 q1) he hpl
end
end L2

namespace HT
open PySem PyProof.Rows

section
open PySem.SeqAt
open PySem.AutoSeq1 (wpAny_loadPart')
open PySem.MeetsSeq PySem.MeetsSeq2 PySem.MeetsSeq3

end

section
variable {prog : Program} {w : World} {A : Around} {E : Value → Shared → Prop} {s : Shared}

def sIx (n d : Nat) : Option Int → Nat
  | none => d
  | some v => if v < 0 then (v + (n : Int)).toNat else min v.toNat n
theorem sIx_none (n d : Nat) : sIx n d none = d := rfl
theorem sIx_nat (n d k : Nat) : sIx n d (some (k : Int)) = min k n := by
  show (if (k : Int) < 0 then ((k : Int) + (n : Int)).toNat else min (k : Int).toNat n) = min k n
  rw [if_neg (by omega), Int.toNat_natCast]
theorem sIx_le (n d : Nat) (hd : d ≤ n) (o : Option Int) : sIx n d o ≤ n := by
  cases o with
  | none => exact hd
  | some v =>
    show (if v < 0 then (v + (n : Int)).toNat else min v.toNat n) ≤ n
    by_cases hv : v < 0
    · rw [if_pos hv]; omega
    · rw [if_neg hv]; exact Nat.min_le_right _ _
theorem clip_eq (v : Int) (n d : Nat) : (if v < 0 then max (v + (n : Int)) 0 else min v (n : Int)) = ((sIx n d (some v) : Nat) : Int) := by
  show (if v < 0 then max (v + (n : Int)) 0 else min v (n : Int)) = (((if v < 0 then (v + (n : Int)).toNat else min v.toNat n) : Nat) : Int)
  by_cases hv : v < 0
  · simp only [if_pos hv]; omega
  · simp only [if_neg hv]; omega
theorem adjust_gen (lo hi : Option Int) (n : Nat) : Builtin.Slice.sliceAdjust lo hi 1 (n : Int) = (((sIx n 0 lo : Nat) : Int), ((sIx n n hi : Nat) : Int)) := by
  have h1 : ¬ ((1 : Int) < 0) := by omega
  unfold Builtin.Slice.sliceAdjust
  simp only [h1, if_false]
  refine Prod.ext ?_ ?_
  · cases lo with
    | none => rfl
    | some v => exact clip_eq v n 0
  · cases hi with
    | none => rfl
    | some v => exact clip_eq v n n
theorem places_gen (i j : Nat) : Builtin.Slice.slicePlaces (i : Int) (j : Int) 1 = j - i := by
  unfold Builtin.Slice.slicePlaces
  have h1 : (1 : Int) > 0 := by omega
  simp only [h1, if_true, Int.ediv_one]
  split <;> omega
theorem slicePart_ {v : Value} {o : Option Int} {Q : Option Int → Shared → Prop} (p : IsPart v o) (h : Q o s) : wpAny (model prog w) A (Builtin.Slice.slicePartIndex v) Q E s := by
  cases p with
  | none => exact slicePart_none h
  | int i t => exact slicePart_int h
theorem sliceApplied_gen {sl : Addr} {vl vu : Value} {lo hi : Option Int} {n : Nat} {Q : Int × Int × Nat → Shared → Prop} (hs : s.heap.IsSliceOf sl vl vu .none) (pl : IsPart vl lo) (pu : IsPart vu hi)
    (h : Q (((sIx n 0 lo : Nat) : Int), 1, sIx n n hi - sIx n 0 lo) s) : wpAny (model prog w) A (Builtin.Slice.sliceApplied (.ref sl) (pure (n : Int))) Q E s := by
  obtain ⟨os, hos, hcs, hds⟩ := id hs
  unfold Builtin.Slice.sliceApplied Builtin.Slice.sliceFields
  refine wpAny_bind (wpAny_bind (wpAny_field hos hds (x := vl) rfl (wpAny_bind (wpAny_field hos hds (x := vu) rfl (wpAny_bind (wpAny_field hos hds (x := .none) rfl (wpAny_pure ?_)))))))
  refine wpAny_bind (slicePart_none ?_)
  show wpAny _ _ (if ((1 : Int) == 0) = true then _ else _) _ _ s
  rw [if_neg (by decide)]
  refine wpAny_bind (slicePart_ pl (wpAny_bind (slicePart_ pu (wpAny_bind (wpAny_pure ?_)))))
  show wpAny _ _ (match Builtin.Slice.sliceAdjust lo hi 1 (n : Int) with | (lo, hi) => pure (lo, (1 : Int), Builtin.Slice.slicePlaces lo hi 1)) _ _ s
  rw [adjust_gen lo hi n]
  show wpAny _ _ (pure (((sIx n 0 lo : Nat) : Int), (1 : Int), Builtin.Slice.slicePlaces ((sIx n 0 lo : Nat) : Int) ((sIx n n hi : Nat) : Int) 1)) _ _ s
  rw [places_gen]
  exact wpAny_pure h
theorem pick_gen (xs : Array Value) (i k : Nat) : ((List.range k).filterMap fun (m : Nat) => xs[((i : Int) + (m : Int) * 1).toNat]?).toArray = ((xs.toList.drop i).take k).toArray := by
  have e : (fun (m : Nat) => xs[((i : Int) + (m : Int) * 1).toNat]?) = fun m => xs[i + m]? := by
    funext m
    have : ((i : Int) + (m : Int) * 1).toNat = i + m := by omega
    rw [this]
  rw [e]
  have := pick_run xs i k
  rw [List.filterMap_map] at this
  have e2 : ((fun x => xs[x]?) ∘ fun x => i + x) = fun m => xs[i + m]? := rfl
  rw [e2] at this
  rw [this]

theorem getItem_tuple_cut {t sl : Addr} {items : Array Value} {vl vu : Value} {lo hi : Option Int} {Q : Value → Shared → Prop} (ht : IsTup s.heap t items) (hs : s.heap.IsSliceOf sl vl vu .none) (pl : IsPart vl lo) (pu : IsPart vu hi)
    (hw : ¬ (sIx items.size 0 lo = 0 ∧ sIx items.size items.size hi = items.size))
    (h : Q (.ref s.heap.objs.size) { s with heap := s.heap.push { cls := .type "tuple", data := .seq ((items.toList.drop (sIx items.size 0 lo)).take (sIx items.size items.size hi - sIx items.size 0 lo)).toArray } })
    (hsz : items.size ≤ sizeLine) : wpAny (model prog w) A (getItem (.ref t) (.ref sl)) Q E s := by
  have htake : sizeOk (.seq ((items.toList.drop (sIx items.size 0 lo)).take (sIx items.size items.size hi - sIx items.size 0 lo)).toArray) := by
    show ((items.toList.drop (sIx items.size 0 lo)).take (sIx items.size items.size hi - sIx items.size 0 lo)).toArray.size ≤ sizeLine
    rw [List.size_toArray, List.length_take, List.length_drop, Array.length_toList]
    omega
  have hj : sIx items.size items.size hi ≤ items.size := sIx_le _ _ (Nat.le_refl _) hi
  obtain ⟨os, hos, hcs, hds⟩ := id hs
  have hTs : s.TypeIs (.ref sl) "slice" := ⟨os, hos, hcs⟩
  unfold getItem
  try with_reducible refine wpAny_holding ?_
  first | refine wpAny_bind (wpAny_pure ?_) | skip
  refine wpAny_bind (wpAny_sequenceKey ht.typeIs (by decide) ?_)
  refine wpAny_bind (wpAny_callSpecial?_slot (name := Str.ofString "__getitem__") ht.typeIs PyProof.Rows.slot_tuple_getitem
    (wpAny_call_entry PyProof.Rows.slot_tuple_getitem ht.typeIs entry_tuple_getitem ?_ (args_tuple_getitem _ _)))
  show wpAny _ _ (Builtin.Tuple.tupleItemsOf (.ref t) >>= _) _ _ s
  refine wpAny_bind (tupleItemsOf_ ht ?_)
  refine wpAny_bind (wpAny_typeOf hTs ?_)
  rw [if_pos (by decide)]
  refine wpAny_bind (sliceApplied_gen hs pl pu ?_)
  have hno : ¬ ((((sIx items.size 0 lo : Nat) : Int) == 0 && (1 : Int) == 1 && (sIx items.size items.size hi - sIx items.size 0 lo) == items.size) = true) := by
    intro q
    rw [Bool.and_eq_true, Bool.and_eq_true] at q
    have q1 : ((sIx items.size 0 lo : Nat) : Int) = 0 := eq_of_beq q.1.1
    have q2 : sIx items.size items.size hi - sIx items.size 0 lo = items.size := eq_of_beq q.2
    exact hw ⟨by omega, by omega⟩
  show wpAny _ _ (if (((sIx items.size 0 lo : Nat) : Int) == 0 && (1 : Int) == 1 && (sIx items.size items.size hi - sIx items.size 0 lo) == items.size) = true then _ else _) _ _ s
  rw [if_neg hno, pick_gen]
  first
    | exact wpAny_bind (m := Builtin.Tuple.tupleExact _) (wpAny_newObj_type (wpAny_pure ⟨_, rfl, wpAny_pure h⟩) htake)
    | exact wpAny_bind (m := Builtin.Tuple.tupleExact _) (wpAny_newObj_type (wpAny_bind (wpAny_pure (wpAny_pure ⟨_, rfl, wpAny_pure h⟩))) htake)
    | exact wpAny_bind (wpAny_bind (m := Builtin.Tuple.tupleExact _) (wpAny_newObj_type (wpAny_pure (wpAny_pure ⟨_, rfl, wpAny_pure h⟩)) htake))
    | exact wpAny_bind (wpAny_bind (m := Builtin.Tuple.tupleExact _) (wpAny_newObj_type (wpAny_pure ⟨_, rfl, wpAny_pure h⟩) htake))
end
end HT

namespace L2
open PySem PySem.Spec PyProof.Rows

abbrev TO := St → Hp → (Option Int → Hp → Prop) → Prop
def PO (X : Cx) (e : Option Expr) (t : TO) : Prop :=
  ∀ (pins : List (Addr × Obj)) (s : Shared) (σ : St) (H : Hp) (Q : Option Int → Hp → Prop), Inv X pins σ H s → t σ H Q →
    wpAny (model X.prog X.w) X.A (evalPart e X.env) (fun u s' => ∃ o H', Inv X pins σ H' s' ∧ IsPart u o ∧ Q o H') X.xe s
def tNoPart : TO := fun _ H Q => Q none H
def tPart (t : TE) : TO := fun σ H Q => t σ H fun x H1 => ∃ i, x = .int i ∧ Q (some i) H1

section
variable {X : Cx} {e : Expr} {te : TE} {lo hi : Option Expr} {tl th : TO} {pos p2 : Pos}

theorem po_none : PO X none tNoPart := by
  intro pins s σ H Q I h
  rw [evalPart_none]
  exact wpAny_pure ⟨none, H, I, .none, h⟩
theorem po_some (h : PE X e te) : PO X (some e) (tPart te) := by
  intro pins s σ H Q I hw
  rw [evalPart_some]
  refine thn (h pins s σ H _ I hw) fun u s1 ⟨x, H1, I1, r1, q1⟩ => ?_
  obtain ⟨i, rfl, q⟩ := q1
  obtain ⟨t, rfl⟩ := r1
  exact ⟨some i, H1, I1, .int i t, q⟩

def SlR (X : Cx) (r : V → Option Int → Option Int → Hp → VK → Prop) : Prop :=
  ∀ (pins : List (Addr × Obj)) (s : Shared) (σ : St) (H : Hp) (x : V) (v vl vu : Value) (lo hi : Option Int) (sl : Addr) (Q : VK), Inv X pins σ H s → RelV x v → s.heap.IsSliceOf sl vl vu .none → IsPart vl lo → IsPart vu hi → r x lo hi H Q →
    ∃ T id, typeLookup (.type T) "__getitem__" = pure (some (.builtin id)) ∧ s.TypeIs v T ∧ wpAny (model X.prog X.w) X.A (getItem v (.ref sl)) (EP X pins σ Q) X.xe s
def tSl (r : V → Option Int → Option Int → Hp → VK → Prop) (te : TE) (tl th : TO) : TE := fun σ H Q => te σ H fun x H1 => tl σ H1 fun l H2 => th σ H2 fun u H3 => r x l u H3 Q
theorem pe_slice {r : V → Option Int → Option Int → Hp → VK → Prop} (hr : SlR X r) (he : PE X e te) (hl : PO X lo tl) (hu : PO X hi th) : PE X (.Subscript e (.Slice lo hi none p2) pos) (tSl r te tl th) := by
  intro pins s σ H Q I h
  refine Subscript_ (thn (he pins s σ H _ I h) fun v s1 ⟨x, H1, I1, r1, q1⟩ => ?_)
  refine wpAny_Slice (thn (hl pins s1 σ H1 _ I1 q1) fun vl s2 ⟨l, H2, I2, pl, q2⟩ => thn (hu pins s2 σ H2 _ I2 q2) fun vu s3 ⟨u, H3, I3, pu, q3⟩ => ?_)
  rw [evalPart_none]
  refine wpAny_pure ?_
  have I4 : Inv X pins σ H3 { s3 with heap := s3.heap.push { cls := .type "slice", data := .fields #[vl, vu, .none] } } := I3.kept (t' := s3.toks) fun b ob q => Heap.get?_push_of_some _ q
  obtain ⟨T, id, hT, ht, hg⟩ := hr pins { s3 with heap := s3.heap.push { cls := .type "slice", data := .fields #[vl, vu, .none] } } σ H3 x v vl vu l u s3.heap.objs.size Q I4 r1 (Heap.IsSliceOf.new ..) pl pu q3
  show wpAny (model X.prog X.w) X.A (subscriptTail e (.Slice lo hi none p2) v (.ref s3.heap.objs.size)) (EP X pins σ Q) X.xe { s3 with heap := s3.heap.push { cls := .type "slice", data := .fields #[vl, vu, .none] } }
  exact tail_any (ops := [.ref s3.heap.objs.size, v]) ht hT hg (by with_unfolding_all rfl)

def cutV (xs : List V) (lo hi : Option Int) : List V := (xs.drop (HT.sIx xs.length 0 lo)).take (HT.sIx xs.length xs.length hi - HT.sIx xs.length 0 lo)
theorem cutV_length (xs : List V) (lo hi : Option Int) : (cutV xs lo hi).length ≤ xs.length := by
  unfold cutV
  rw [List.length_take, List.length_drop]
  omega
def rSlT (K : PySem.W.Frag) : V → Option Int → Option Int → Hp → VK → Prop := fun x lo hi H Q => ∃ a xs, x = .ref a ∧ SqT K H a xs ∧
  ¬ (HT.sIx xs.length 0 lo = 0 ∧ HT.sIx xs.length xs.length hi = xs.length) ∧ ∀ p, H p = none → Q (.ref p) (upd H p (.tup (cutV xs lo hi)))
theorem sl_tup : SlR X (rSlT X.K) := by
  intro pins s σ H x v vl vu lo hi sl Q I rx hs pl pu h
  obtain ⟨a, xs, rfl, hx, hw, q⟩ := h
  cases rx
  obtain ⟨its, r, ht, hz⟩ := I.tuple hx
  have hlen : its.toArray.size = xs.length := by rw [List.size_toArray]; exact r.length.symm
  refine ⟨"tuple", _, PyProof.Rows.slot_tuple_getitem.lookup, ht.typeIs, ?_⟩
  refine HT.getItem_tuple_cut ht hs pl pu (by rw [hlen]; exact hw) ?_ (by rw [hlen]; exact hz)
  rw [hlen]
  refine ⟨.ref s.heap.objs.size, _, I.laid (t' := s.toks) (o := .tup (cutV xs lo hi)) (fun b ob q => Heap.get?_push_of_some _ q) (Nat.le_refl _) ?_, rfl, q _ (I.hok.fresh (Nat.le_refl _))⟩
  exact ⟨Nat.le_trans (cutV_length xs lo hi) hz, _, (r.drop (HT.sIx xs.length 0 lo)).take (HT.sIx xs.length xs.length hi - HT.sIx xs.length 0 lo), IsTup.new _ _⟩

end
end L2

namespace L2
open PySem PySem.Spec PyProof.Rows

def ixN (n : Nat) (i : Int) : Option Nat := if 0 ≤ i then (if i < n then some i.toNat else none) else if -(n : Int) ≤ i then some (i + n).toNat else none
def atI {α : Type} (xs : List α) (i : Int) : Option α := (ixN xs.length i).bind fun j => xs[j]?
theorem ixN_seq {n : Nat} {i : Int} {j : Nat} (h : ixN n i = some j) : seqIndex? i n = some j ∧ j < n ∧ -(n : Int) ≤ i ∧ i < n := by
  unfold ixN at h
  by_cases h0 : 0 ≤ i
  · rw [if_pos h0] at h
    by_cases h1 : i < n
    · rw [if_pos h1] at h
      have e : i.toNat = j := Option.some.inj h
      exact ⟨by rw [seqIndex_of h0 h1, e], by omega, by omega, h1⟩
    · rw [if_neg h1] at h; cases h
  · rw [if_neg h0] at h
    by_cases h1 : -(n : Int) ≤ i
    · rw [if_pos h1] at h
      have e : (i + n).toNat = j := Option.some.inj h
      exact ⟨by rw [seqIndex_neg (by omega) h1, e], by omega, h1, by omega⟩
    · rw [if_neg h1] at h; cases h
theorem atI_get {α : Type} {xs : List α} {i : Int} {v : α} (h : atI xs i = some v) : ∃ j, seqIndex? i xs.length = some j ∧ xs[j]? = some v ∧ j < xs.length ∧ -(xs.length : Int) ≤ i ∧ i < xs.length := by
  unfold atI at h
  cases e : ixN xs.length i with
  | none => rw [e] at h; cases h
  | some j =>
    rw [e] at h
    obtain ⟨h1, h2, h3, h4⟩ := ixN_seq e
    exact ⟨j, h1, h, h2, h3, h4⟩
theorem atI_nat {α : Type} {xs : List α} {j : Nat} {v : α} (h : xs[j]? = some v) : atI xs (j : Int) = some v := by
  have hj : j < xs.length := (List.getElem?_eq_some_iff.mp h).1
  have e : ixN xs.length (j : Int) = some j := by
    unfold ixN
    rw [if_pos (by omega), if_pos (by omega)]; simp
  unfold atI; rw [e]; exact h
def PlainIx (b : Expr) : Prop := ∀ o i, subscripted b false o i = operate [o, i] (getItem o i)
def IxR (X : Cx) (r : R2) : Prop :=
  ∀ (value slice : Expr) (pins : List (Addr × Obj)) (s : Shared) (σ : St) (H : Hp) (x y : V) (v u : Value) (Q : VK), Inv X pins σ H s → RelV x v → RelV y u → r x y H Q →
    subscripted slice false v u = operate [v, u] (getItem v u) → wpAny (model X.prog X.w) X.A (subscriptTail value slice v u) (EP X pins σ Q) X.xe s
def MtR (X : Cx) (id : String) (r : V → List V → Hp → VK → Prop) : Prop :=
  ∀ (pins : List (Addr × Obj)) (s : Shared) (σ : St) (H : Hp) (x : V) (xs : List V) (v : Value) (us : List Value) (Q : VK), Inv X pins σ H s → RelV x v → Vals xs us → r x xs H Q →
    wpAny (model X.prog X.w) X.A (call (.builtin id) (v :: us)) (EP X pins σ Q) X.xe s
section
variable {X : Cx} {a b : Expr} {ta tb : TE} {pos : Pos}
theorem pe_ix {r : R2} (hr : IxR X r) (ha : PE X a ta) (hb : PE X b tb) (hs : PlainIx b) : PE X (.Subscript a b pos) (tOp r ta tb) := by
  intro pins s σ H Q I h
  exact Subscript_ (binT ha hb I h fun v u s2 x y H2 I2 rx ry q => hr a b pins s2 σ H2 x y v u Q I2 rx ry q (hs _ _))

def rIxL (K : PySem.W.Frag) : R2 := fun x y H Q => ∃ p xs i v, x = .ref p ∧ y = .int i ∧ SqL K H p xs ∧ atI xs i = some v ∧ Q v H
def rIxT (K : PySem.W.Frag) : R2 := fun x y H Q => ∃ p xs i v, x = .ref p ∧ y = .int i ∧ SqT K H p xs ∧ atI xs i = some v ∧ Q v H
def rIxS : R2 := fun x y H Q => ∃ z i c, x = .str z ∧ y = .int i ∧ z.length ≤ sizeLine ∧ atI z.cps.toList i = some c ∧ Q (.str ⟨#[c]⟩) H
theorem ix_list : IxR X (rIxL X.K) := by
  intro value slice pins s σ H x y v u Q I rx ry h hs
  obtain ⟨p, xs, i, z, rfl, rfl, hq, he, q⟩ := h
  cases rx
  obtain ⟨t, rfl⟩ := ry
  obtain ⟨its, r, pl, hz⟩ := I.list hq
  obtain ⟨j, h1, h2, h3, h4, h5⟩ := atI_get he
  obtain ⟨w, ew, rw'⟩ := r.get h2
  have hl := r.length
  have hn := line63
  have fin : EP X pins σ Q w s := ⟨z, H, I, rw', q⟩
  by_cases h0 : 0 ≤ i
  · have hj : i.toNat = j := by
      rw [seqIndex_of h0 h5] at h1
      exact Option.some.inj h1
    exact item_listR pl.isList h0 (by omega) (by rw [hj]; simpa using ew) fin hs
  · have hj : (i + (its.toArray.size : Int)).toNat = j := by
      rw [seqIndex_neg (by omega) h4] at h1
      rw [List.size_toArray, ← hl]
      exact Option.some.inj h1
    exact subscriptTail_builtinR (x := w) pl.isList.typeIs slot_list_getitem.lookup
      (wpAny_getItem_list_neg (Q := fun r s' => r = w ∧ EP X pins σ Q r s') pl.isList (by omega) (by rw [List.size_toArray] <;> omega) (by omega) (by rw [hj]; simpa using ew) ⟨rfl, fin⟩) hs
theorem ix_tup : IxR X (rIxT X.K) := by
  intro value slice pins s σ H x y v u Q I rx ry h hs
  obtain ⟨p, xs, i, z, rfl, rfl, hq, he, q⟩ := h
  cases rx
  obtain ⟨t, rfl⟩ := ry
  obtain ⟨its, r, pl, hz⟩ := I.tuple hq
  obtain ⟨j, h1, h2, h3, h4, h5⟩ := atI_get he
  obtain ⟨w, ew, rw'⟩ := r.get h2
  have hl := r.length
  have hn := line63
  have fin : EP X pins σ Q w s := ⟨z, H, I, rw', q⟩
  exact subscriptTail_builtinR (x := w) pl.typeIs slot_tuple_getitem.lookup
    (getItem_tuple (j := j) (Q := fun r s' => r = w ∧ EP X pins σ Q r s') pl (by omega) (by omega) (by rw [List.size_toArray, ← hl]; exact h1) (by simpa using ew) ⟨rfl, fin⟩) hs
theorem ix_str : IxR X rIxS := by
  intro value slice pins s σ H x y v u Q I rx ry h hs
  obtain ⟨z, i, c, rfl, rfl, hz, he, q⟩ := h
  obtain ⟨t, rfl⟩ := rx
  obtain ⟨t', rfl⟩ := ry
  obtain ⟨j, h1, h2, h3, h4, h5⟩ := atI_get he
  have hl : z.cps.toList.length = z.length := by simp [Str.length]
  rw [hl] at h1 h4 h5
  have hn := line63
  exact tail_any (typeIs_str s z t) slot_str_getitem.lookup (getItem_str (c := c) (by
    have e1 : decide (i < -(2 ^ 63 : Int)) = false := decide_eq_false (by omega)
    have e2 : decide (i ≥ 2 ^ 63) = false := decide_eq_false (by omega)
    rw [e1, e2, Bool.or_false]) (by rw [h1]; simpa using h2) ⟨.str ⟨#[c]⟩, H, I.tok _, ⟨_, rfl⟩, q⟩) hs
theorem mapSeq_set (its : List Value) (n j : Nat) (u : Value) : Obj.mapSeq (·.setIfInBounds j u) { cls := .type "list", data := .seq its.toArray n } = { cls := .type "list", data := .seq (its.set j u).toArray n } := by
  simp [Obj.mapSeq]
theorem Inv.lst {pins : List (Addr × Obj)} {σ : St} {H : Hp} {s : Shared} {p : Addr} {xs : List V} (I : Inv X pins σ H s) (h : H p = some (.lst xs)) :
    ∃ (its : List Value) (n : Nat), Vals xs its ∧ s.heap.get? p = some { cls := .type "list", data := .seq its.toArray n } ∧ xs.length ≤ sizeLine := by
  obtain ⟨z, its, n, r, e⟩ := I.hok p _ h
  exact ⟨its, n, r, e, z⟩
theorem Inv.lstUpd {pins : List (Addr × Obj)} {σ : St} {H : Hp} {s : Shared} {p : Addr} {xs ys : List V} {its its' : List Value} {n n' : Nat} {f : Obj → Obj} (I : Inv X pins σ H s) (h : H p = some (.lst xs))
    (ho : s.heap.get? p = some { cls := .type "list", data := .seq its.toArray n }) (hf : f { cls := .type "list", data := .seq its.toArray n } = { cls := .type "list", data := .seq its'.toArray n' }) (r : Vals ys its') (hz : ys.length ≤ sizeLine) (t : Nat) :
    Inv X pins σ (upd H p (.lst ys)) { s with heap := s.heap.update p f, toks := t } := by
  have e : (s.heap.update p f).get? p = some { cls := .type "list", data := .seq its'.toArray n' } := by
    rw [Heap.get?_update_self f ho (by rw [hf] <;> rfl), hf]
  refine I.write (x := p) (e := p) (by rw [h]; trivial) (.inl rfl) (fun b u hb q => (Heap.get?_update_other _ _ (Ne.symm hb)).trans q) ⟨_, e⟩ ?_
  exact ⟨hz, its', n', r, e⟩
def rSetL : V → V → V → Hp → (Hp → Prop) → Prop := fun o i v H Q => ∃ p xs k j, o = .ref p ∧ i = .int k ∧ H p = some (.lst xs) ∧ ixN xs.length k = some j ∧ Q (upd H p (.lst (xs.set j v)))
theorem set_list : PSet X rSetL := by
  intro pins s σ H o i v ov iv u Q I ro ri rv h
  obtain ⟨p, xs, k, j, rfl, rfl, hp, hj, q⟩ := h
  cases ro
  obtain ⟨t, rfl⟩ := ri
  obtain ⟨its, n, r, ho, hz⟩ := I.lst hp
  obtain ⟨h1, h2, h3, h4⟩ := ixN_seq hj
  have hl := r.length
  have hn := line63
  have I' : Inv X pins σ (upd H p (.lst (xs.set j v))) { s with heap := s.heap.update p (Obj.mapSeq (·.setIfInBounds j u)) } :=
    I.lstUpd hp ho (mapSeq_set its n j u) (r.set rv j) (by rw [List.length_set]; exact hz) s.toks
  by_cases h0 : 0 ≤ k
  · have hk : k.toNat = j := by
      rw [seqIndex_of h0 h4] at h1
      exact Option.some.inj h1
    exact PySem.W.ki_setAt ho h0 (by omega) (by rw [List.size_toArray, ← hl]; exact h4) (by rw [hk]; exact ⟨_, I', q⟩)
  · have hk : (k + (its.toArray.size : Int)).toNat = j := by
      rw [seqIndex_neg (by omega) h3] at h1
      rw [List.size_toArray, ← hl]
      exact Option.some.inj h1
    exact PySem.W.ki_setBack ho (by omega) (by rw [List.size_toArray, ← hl]; exact h3) (by omega) (by rw [hk]; exact ⟨_, I', q⟩)

theorem slice_bounds (lo hi : Option Int) (n : Nat) : (sliceBounds lo hi none n).1 = ((HT.sIx n 0 lo : Nat) : Int) ∧ (sliceBounds lo hi none n).2.1 = ((HT.sIx n n hi : Nat) : Int) ∧ (sliceBounds lo hi none n).2.2 = 1 := by
  refine ⟨?_, ?_, rfl⟩
  · cases lo with
    | none => simp [sliceBounds, HT.sIx]
    | some i =>
      simp only [sliceBounds, HT.sIx, Option.getD_none, show (1 : Int) > 0 by decide, if_true]
      by_cases h : i < 0
      · simp only [h, if_true] <;> omega
      · simp only [h, if_false] <;> omega
  · cases hi with
    | none => simp [sliceBounds, HT.sIx]
    | some i =>
      simp only [sliceBounds, HT.sIx, Option.getD_none, show (1 : Int) > 0 by decide, if_true]
      by_cases h : i < 0
      · simp only [h, if_true] <;> omega
      · simp only [h, if_false] <;> omega
theorem slicePick_cut (its : List Value) (lo hi : Option Int) : slicePick its.toArray lo hi none = ((its.drop (HT.sIx its.length 0 lo)).take (HT.sIx its.length its.length hi - HT.sIx its.length 0 lo)).toArray := by
  obtain ⟨h1, h2, h3⟩ := slice_bounds lo hi its.toArray.size
  unfold slicePick
  rw [h1, h2, h3]
  simp only [sliceRange_one, pick_run, List.size_toArray] <;> rfl
def rSlL (K : PySem.W.Frag) : V → Option Int → Option Int → Hp → VK → Prop := fun x lo hi H Q => ∃ a xs, x = .ref a ∧ SqL K H a xs ∧ ∀ p, H p = none → Q (.ref p) (upd H p (.lst (cutV xs lo hi)))
theorem sl_list : SlR X (rSlL X.K) := by
  intro pins s σ H x v vl vu lo hi sl Q I rx hs pl pu h
  obtain ⟨a, xs, rfl, hx, q⟩ := h
  cases rx
  obtain ⟨its, r, ht, hz⟩ := I.list hx
  have hlen := r.length
  refine ⟨"list", _, slot_list_getitem.lookup, ht.isList.typeIs, ?_⟩
  refine wpAny_getItem_list_slice ht.isList hs pl pu .none (by simp) ?_ (by rw [List.size_toArray] <;> omega)
  rw [slicePick_cut, ← hlen]
  refine ⟨.ref s.heap.objs.size, _, I.laid (t' := s.toks) (o := .lst (cutV xs lo hi)) (fun b ob q => Heap.get?_push_of_some _ q) (Nat.le_refl _) ?_, rfl, q _ (I.hok.fresh (Nat.le_refl _))⟩
  exact ⟨Nat.le_trans (cutV_length xs lo hi) hz, _, 0, (r.drop (HT.sIx xs.length 0 lo)).take (HT.sIx xs.length xs.length hi - HT.sIx xs.length 0 lo), Heap.get?_push_size _ rfl⟩

theorem op_notIn_str : OpR X (compareOp .NotIn) (fun x y H Q => ∃ i j, x = .str i ∧ y = .str j ∧ Q (.bl (!(!(Builtin.Str.occurrences j i 0 j.length 1).isEmpty))) H) := by
  intro pins s σ H x y v u Q I rx ry h
  obtain ⟨i, j, rfl, rfl, q⟩ := h
  obtain ⟨t, rfl⟩ := rx
  obtain ⟨t', rfl⟩ := ry
  exact notIn_str ⟨.bl _, H, I, rfl, q⟩

def tyV (K : PySem.W.Frag) (T : String) (x : V) (H : Hp) : Prop := match x with
  | .str _ => T = "str"
  | .int _ => T = "int"
  | .ref p => (T = "list" ∧ ∃ xs, SqL K H p xs) ∨ (T = "tuple" ∧ ∃ o, K.lookup p = some o ∧ o.cls = .type "tuple" ∧ o.dict = none) ∨
      (T = "dict" ∧ ((∃ kvs, H p = some (.dK kvs)) ∨ ∃ kvs, H p = some (.dT kvs))) ∨ (T = "set" ∧ ∃ S n, H p = some (.set S n))
  | _ => False
theorem tyV_is {pins : List (Addr × Obj)} {σ : St} {H : Hp} {s : Shared} {T : String} {x : V} {v : Value} (I : Inv X pins σ H s) (r : RelV x v) (ty : tyV X.K T x H) :
    s.TypeIs v T ∧ ∀ a, v = .ref a → ∃ ob, s.heap.get? a = some ob ∧ ob.dict = none := by
  cases x with
  | str z =>
    obtain ⟨t, rfl⟩ := r
    cases (show T = "str" from ty)
    exact ⟨typeIs_str s z t, fun _ e => nomatch e⟩
  | int i =>
    obtain ⟨t, rfl⟩ := r
    cases (show T = "int" from ty)
    exact ⟨typeIs_int s i t, fun _ e => nomatch e⟩
  | ref p =>
    cases r
    rcases ty with ⟨rfl, xs, hq⟩ | ⟨rfl, o, hk, hc, hd⟩ | ⟨rfl, hk⟩ | ⟨rfl, S, n, hk⟩
    · obtain ⟨its, _, pl, _⟩ := I.list hq
      refine ⟨pl.isList.typeIs, fun a e => ?_⟩
      cases e
      obtain ⟨o, n, e, c, hd, _⟩ := pl
      exact ⟨o, e, hd⟩
    · refine ⟨⟨o, I.kIn p o hk, hc⟩, fun a e => ?_⟩
      cases e
      exact ⟨o, I.kIn _ o hk, hd⟩
    · have z : ∃ o, s.heap.get? p = some o ∧ o.ExactDict := by
        rcases hk with ⟨kvs, hk⟩ | ⟨kvs, hk⟩
        · obtain ⟨_, _, _, _, o, _, _, e, ex, _⟩ := I.hok p _ hk
          exact ⟨o, e, ex⟩
        · obtain ⟨_, _, _, _, o, _, _, e, ex, _⟩ := I.hok p _ hk
          exact ⟨o, e, ex⟩
      obtain ⟨o, e, ex⟩ := z
      refine ⟨⟨o, e, ex.1⟩, fun a e2 => ?_⟩
      cases e2
      exact ⟨o, e, ex.2.1⟩
    · obtain ⟨o, _, _, _, e, ex, _⟩ := I.hok p _ hk
      refine ⟨⟨o, e, ex.1⟩, fun a e2 => ?_⟩
      cases e2
      exact ⟨o, e, ex.2.1⟩
  | _ => exact False.elim ty
def tBM (K : PySem.W.Frag) (T : String) (r : V → List V → Hp → VK → Prop) (to : TE) (t : TA) : TE := fun σ H Q => to σ H fun x H1 => tyV K T x H1 ∧ t σ H1 fun xs H2 => r x xs H2 Q
variable {o e : Expr} {es : List Expr} {to : TE} {t : TA} {name : Str} {apos cpos : Pos} {T id : String} {r : V → List V → Hp → VK → Prop}
theorem pe_bm (pa : PlainAttrs T) (slot : Slot T name id) (hty : typeOf (.builtin id) = pure (.type "method_descriptor")) (hm : MtR X id r) (ho : PE X o to) (ha : PA X (e :: es) t)
    (hbase : attributeBase o name X.env (eval o X.env) = eval o X.env := by rfl)
    (hfew : ((backTo cpos (starEach (e :: es) X.env)).all (fun x => !x.1) && (backToKw cpos (keywordEach [] X.env)).all (fun x => x.1.isSome)
      && decide ((e :: es).length + ([] : List Keyword).length + (if ([] : List Keyword).isEmpty then 0 else 1) < 30)) = true := by rfl)
    (hline : (apos.endLine == cpos.line) = true := by rfl) (hs : starEach (e :: es) X.env = (false, eval e X.env) :: starEach es X.env := by rfl) (hplain : (backTo cpos (starEach es X.env)).any (·.1) = false := by rfl) :
    PE X (.Call (.Attribute o name apos) (e :: es) [] cpos) (tBM X.K T r to t) := by
  intro pins s σ H Q I h
  refine wpAny_Call_method_late hbase hfew hline rfl (thn (ho pins s σ H _ I h) fun v s1 ⟨x, H1, I1, r1, ty, q1⟩ => ?_)
  obtain ⟨h1, h2⟩ := tyV_is I1 r1 ty
  refine ⟨T, id, pa, slot, hty, h1, h2, ?_⟩
  have hA := ha cpos pins s1 σ H1 _ I1 q1
  rw [hs] at hA ⊢
  refine Calls.callWith_builtin (by show (false || (backTo cpos (starEach es X.env)).any (·.1)) = false; rw [hplain] <;> rfl) (Calls.evalArgs_plain ?_)
  exact thn hA fun us s2 ⟨vs, H2, I2, r2, q2⟩ => hm pins s2 σ H2 x vs v us Q I2 r1 r2 q2
/- xs.append(e), list.index on a module's tuple .. are MtR facts of 06m -/
end
end L2

namespace L2
open PySem PySem.Spec PyProof.Rows

def MtM (X : Cx) (id : String) (r : V → List V → Hp → VK → Prop) : Prop :=
  ∀ (pins : List (Addr × Obj)) (s : Shared) (σ : St) (H : Hp) (x : V) (xs : List V) (v : Value) (us : List Value) (Q : VK), Inv X pins σ H s → RelV x v → Vals xs us → r x xs H Q →
    wpAny (model X.prog X.w) X.A (call (.builtin id) (v :: us)) (EP X pins σ Q) X.xe s

theorem Vals.one : ∀ {x : V} {us : List Value}, Vals [x] us → ∃ u, us = [u] ∧ RelV x u
  | _, _, .cons r .nil => ⟨_, rfl, r⟩
theorem Vals.rep {xs : List V} {us : List Value} (h : Vals xs us) : ∀ k : Nat, Vals (List.replicate k xs).flatten (List.replicate k us).flatten
  | 0 => .nil
  | k + 1 => by
    rw [List.replicate_succ, List.replicate_succ, List.flatten_cons, List.flatten_cons]
    exact Vals.append h (Vals.rep h k)
theorem foldl_rep (its : List Value) : ∀ (k : Nat) (acc : List Value),
    List.foldl (fun x1 x2 => x1 ++ x2) acc.toArray (List.replicate k its.toArray) = (acc ++ (List.replicate k its).flatten).toArray
  | 0, acc => by simp
  | k + 1, acc => by
    have e : acc.toArray ++ its.toArray = (acc ++ its).toArray := by simp
    have e2 : (acc ++ its) ++ (List.replicate k its).flatten = acc ++ (List.replicate (k + 1) its).flatten := by
      rw [List.replicate_succ, List.flatten_cons, List.append_assoc]
    rw [← e2, ← foldl_rep its k (acc ++ its), ← e, List.replicate_succ, List.foldl_cons]

section
variable {X : Cx} {pins : List (Addr × Obj)} {σ : St} {H : Hp} {s : Shared} {l b : Addr} {xs ys zs : List V}

theorem Inv.lset {its its' : List Value} {n : Nat} {f : Array Value → Array Value} {t' : Nat} (I : Inv X pins σ H s) (hH : H l = some (.lst xs))
    (e : s.heap.get? l = some { cls := .type "list", data := .seq its.toArray n }) (hf : f its.toArray = its'.toArray) (hv : Vals ys its') (hz : ys.length ≤ sizeLine) :
    Inv X pins σ (upd H l (.lst ys)) { s with heap := s.heap.update l (Obj.mapSeq f), toks := t' } := by
  have q := PySem.IsL.update e f
  rw [hf] at q
  refine I.write (x := l) (e := l) (by rw [hH]; exact trivial) (.inl rfl) (fun b' u hb hu => (Heap.get?_update_other s.heap (Obj.mapSeq f) (Ne.symm hb)).trans hu) ⟨_, q⟩ ?_
  exact ⟨hz, its', _, hv, q⟩
theorem Inv.lnew {its : List Value} {t' : Nat} (I : Inv X pins σ H s) (hv : Vals ys its) (hz : ys.length ≤ sizeLine) :
    Inv X pins σ (upd H s.heap.objs.size (.lst ys)) { s with heap := s.heap.push { cls := .type "list", data := .seq its.toArray }, toks := t' } :=
  I.laid (fun _ _ q => Heap.get?_push_of_some _ q) (Nat.le_refl _) ⟨hz, its, 0, hv, Heap.get?_push_size _ rfl⟩
theorem Inv.fresh (I : Inv X pins σ H s) : H s.heap.objs.size = none := I.hok.fresh (Nat.le_refl _)
theorem Inv.lstM (I : Inv X pins σ H s) (hH : H l = some (.lst xs)) : xs.length ≤ sizeLine ∧ ∃ (its : List Value) (n : Nat), Vals xs its ∧ xs.length = its.length ∧ s.heap.get? l = some { cls := .type "list", data := .seq its.toArray n } := by
  obtain ⟨z, its, n, r, e⟩ := I.hok l _ hH
  exact ⟨z, its, n, r, r.length, e⟩

theorem notLongL {n : Nat} (h : n ≤ sizeLine) : Builtin.List.listTooLong n = false := by
  unfold Builtin.List.listTooLong
  exact decide_eq_false (by omega)
end

section
variable {X : Cx}

def rAppend : V → List V → Hp → VK → Prop := fun x vs H Q => ∃ l xs y, x = .ref l ∧ vs = [y] ∧ H l = some (.lst xs) ∧ xs.length < sizeLine ∧ Q .non (upd H l (.lst (xs ++ [y])))
theorem mt_append : MtM X "list.append" rAppend := by
  intro pins s σ H x vs v us Q I rx rv h
  obtain ⟨l, xs, y, rfl, rfl, hH, hz, q⟩ := h
  cases rx
  obtain ⟨u, rfl, ru⟩ := rv.one
  obtain ⟨z, its, n, r, hl, e⟩ := I.lstM hH
  refine call_meets F.slot_list_append ⟨_, e, rfl⟩ F.entry_list_append (F.args_list_append_2 _ _) (PySem.list_append l its.toArray n u (by rw [List.size_toArray]; omega)) ⟨e, ?_⟩
  refine ⟨.non, _, I.lset (its' := its ++ [u]) hH e (by simp) (r.append (.cons ru .nil)) ?_, rfl, q⟩
  rw [List.length_append, List.length_singleton]
  omega

theorem len_rep {α : Type} (xs : List α) (k : Nat) : (List.replicate k xs).flatten.length = k * xs.length := by
  induction k with
  | zero => simp
  | succ k ih => rw [List.replicate_succ, List.flatten_cons, List.length_append, ih, Nat.succ_mul, Nat.add_comm]
end

section
variable {prog : Program} {w : World} {A : Around} {E : Value → Shared → Prop} {s : Shared}
end

section
variable {X : Cx}
end
end L2

namespace Att
open PySem PySem.W PySem.Calls PyProof.Rows

theorem ints_of_wellAll {P : Params} {h : Heap} : ∀ (ns : List Int) (vs : List Value), WellAll P h vs (ns.map WData.int) → IntsAre vs ns := by
  intro ns
  induction ns with
  | nil =>
    intro vs w
    rw [List.map_nil] at w
    cases w
    exact .nil
  | cons n ns ih =>
    intro vs w
    rw [List.map_cons] at w
    cases w with
    | cons a b =>
      cases a
      exact .cons _ _ (ih _ b)

theorem script_of {l : OpenLaw} {n : Nat} (hn : l.most = some n) {P : Params} {h : Heap} {args : List WData} {vals : List Value}
    (hpre : l.row.toRowW.claim.pre args = true) (hwl : WellAll P h vals args) :
    ∃ a vs ns, vals = [Value.ref a] ∧ args = [WData.list (ns.map WData.int)] ∧ h.get? a = some { cls := .type "list", data := .seq vs.toArray } ∧ IntsAre vs ns ∧ ns.length ≤ n := by
  have hsh : WShape.hasAll [] args [.list .int] = true := (pre_splitW hpre).1
  have hc : l.pre.holds [] { args := args } = true := (pre_splitW hpre).2
  obtain ⟨d, r, rfl, h1, h2⟩ := hasAllW_cons hsh
  obtain rfl := hasAllW_nil h2
  obtain ⟨xs, rfl, h3⟩ := hasW_list h1
  obtain ⟨ns, rfl⟩ := items_int h3
  have hlen : ns.length ≤ n := by
    unfold OpenLaw.pre at hc
    have h4 : (WTm.not (.lt (.lit (.int (n : Int))) (.len (.arg 0)))).holds [] { args := [.list (ns.map .int)] } = true := by
      have h4 := (holds_andW hc).1
      rw [hn] at h4
      exact h4
    have h5 := condW_of h4 (w_not (w_lt w_lit (w_len_list (w_arg rfl))))
    rw [List.length_map] at h5
    refine Nat.le_of_not_lt fun q => ?_
    have q' : (n : Int) < ((ns.length : Nat) : Int) := by omega
    first
      | (rw [decide_eq_true q'] at h5; exact absurd h5 (by decide))
      | (simp at h5; omega)
  cases hwl with
  | cons w1 w2 =>
    cases w2
    cases w1 with
    | list ho hall => exact ⟨_, _, ns, rfl, rfl, ho, ints_of_wellAll ns _ hall, hlen⟩

theorem post_true (l : OpenLaw) (args : List WData) : l.row.toRowW.claim.post args (.bool true) args = true :=
  postW_of (r := l.row.toRowW) (X := (true == true))
    (show WShape.has [] (.bool true) .bool = true by first | rfl | decide | simp [WShape.has, WShape.arms, WShape.armsAll])
    (show (WTm.eq .res (.lit (.bool true))).value [] { args := args, res := some (.bool true), after := args } = some (.bool (true == true)) from w_eq_bool (w_res rfl) w_lit) rfl

theorem attach_call {l : OpenLaw} {n : Nat} {q : Program} {loose : List Str} {XP : (Str → Option Value) → Heap → Prop} {YP : World → Heap → Prop} {d : DefRec}
    (hn : l.most = some n) (hdf : d.params.defaults = [])
    (call : ∀ (w : World) (s₀ s₁ : Shared) (mg mb : Str → Option Value) (fa : Addr) (o : Obj) (pm cd doc : Value) (a : Addr) (vs : List Value) (ns : List Int),
      Ground q loose [] XP w s₀ mg mb s₁.heap → YP w s₁.heap →
      s₁.heap.get? fa = some o → o.data = .func (docDef d.name d.params d.body d.scope pm cd doc) → s₁.heap.CodeRec cd d.name → mg d.name = some (.ref fa) →
      s₁.heap.get? a = some { cls := .type "list", data := .seq vs.toArray } → IntsAre vs ns → ns.length ≤ n → s₁.gens = #[] →
      codeAny (model l.prog w) callerA (.call (.ref fa) ⟨[.ref a], []⟩) (fun r s' => r = .ok (.ret (.bool true)) ∧ OldK s₁.heap s'.heap ∧ s'.os = s₁.os ∧ AllBare s'.gens) s₁) :
    WalkO q loose XP YP l.row.toRowW d [] (fun f vs => PySem.call f vs) := by
  intro w s₀ s₁ mg mb G Y fa o pm cd doc dV kV ho hd hcd hD hmg hg args vals as hpre hlay hrd hwl hlo
  obtain rfl : dV = .none := Dflts.none hD hdf
  obtain rfl : kV = .none := Dflts.noKw hD
  obtain ⟨a, vs, ns, rfl, rfl, hobj, hints, hlen⟩ := script_of hn hpre hwl
  refine enter_call (codeAny_mono (call w s₀ s₁ mg mb fa o pm cd doc a vs ns G Y ho (fd_plain hd) hcd hmg hobj hints hlen hg) fun r s' hq => ?_)
  obtain ⟨rfl, h2, h3, h4⟩ := hq
  exact ⟨.inl ⟨.bool true, .bool true, [], rfl, fun _ => rfl, .bool true, post_true l _, fun _ => ⟨List.Pairwise.nil, fun _ hm => (nomatch hm)⟩⟩, h2, h3, h4⟩

section
variable {prog : Program} {w : World} {A : Around} {E : Value → Shared → Prop} {s : Shared} {K : Frag}

end
end Att

namespace L2
open PySem PySem.Spec PyProof.Rows

theorem vals_ints : ∀ {vs : List Value} {ns : List Int}, IntsAre vs ns → Vals (ns.map V.int) vs
  | _, _, .nil => .nil
  | _, _, .cons n t h => .cons ⟨t, rfl⟩ (vals_ints h)

def Only (H : Hp) : Prop := ∀ b, H b = none ∨ ∃ o xs, H b = some (.frz o (.lst xs))

theorem law_call {P : Program} {w : World} {K : PySem.W.Frag} {mg mb : Str → Option Value} {CX : CXT} {k : Nat} {fa a : Addr} {fd : FuncData} {x : Str} {sp : Sp} {s₁ : Shared} {vs : List Value} {ns : List Int}
    (KX : K.In s₁.heap) (hns : s₁.heap.Ns mainGlobals mg) (hb : s₁.heap.Ns builtinsNs mb) (hbb : ∀ x : Str, x ≠ "__name__" → mb x = bootBuiltins x) (hlim : s₁.heap.NoLimit) (hg : s₁.gens = #[])
    (ha : s₁.heap.get? a = some { cls := .type "list", data := .seq vs.toArray }) (hi : IntsAre vs ns) (hl : ns.length ≤ sizeLine) (hr : Room k callerA)
    (F : ∀ base : Heap, K.In base → base.Ns mainGlobals mg → FnOk P w K mg base CX k fa fd [x] sp) (hbind : ∀ (s : Shared) (u : Value), BindsTo s fd ⟨[u], []⟩ [(x, u)])
    (hsp : ∀ H : Hp, Only H → SqL K H a (ns.map V.int) → sp [.ref a] H (fun v _ => v = .bl true) fun _ _ _ => False)
    (hCX : ∀ H e s', CX [] H s₁ (fun _ _ _ => False) e s' → False) :
    codeAny (model P w) callerA (.call (.ref fa) ⟨[.ref a], []⟩) (fun r s' => r = .ok (.ret (.bool true)) ∧ OldK s₁.heap s'.heap ∧ s'.os = s₁.os ∧ AllBare s'.gens) s₁ := by
  have rv := vals_ints hi
  have lenV := hi.length
  -- from an abstract heap in which nothing but the script may be tracked
  have core : ∀ H : Hp, Only H → SqL K H a (ns.map V.int) → HOk P w H s₁.heap → (∀ b, H b ≠ none → b = a) → (H a ≠ none → K.lookup a = none) →
      codeAny (model P w) callerA (.call (.ref fa) ⟨[.ref a], []⟩) (fun r s' => r = .ok (.ret (.bool true)) ∧ OldK s₁.heap s'.heap ∧ s'.os = s₁.os ∧ AllBare s'.gens) s₁ := by
    intro H hO hS hok hA hK
    have base_of : ∀ {b : Addr} {o : Obj}, s₁.heap.get? b = some o → H b = none → (hidT s₁.heap H).get? b = some o := fun e n => hidT_get e n
    have noA : ∀ {b : Addr} {o : Obj} {es : Array DictEntry} {ep : Nat}, s₁.heap.get? b = some o → o.data = .dict es ep → H b = none := fun {b o es ep} e d => by
      cases q : H b with
      | none => rfl
      | some u =>
        have e' : b = a := hA b (by rw [q]; simp)
        subst e'
        rw [ha] at e; cases e
        have d' : Data.seq vs.toArray _ = Data.dict es ep := d
        cases d'
    have nsK : ∀ {b : Addr} {m : Str → Option Value}, s₁.heap.Ns b m → (hidT s₁.heap H).Ns b m := fun {b m} ⟨o, es, ep, e, d, r⟩ => ⟨o, es, ep, base_of e (noA e d), d, r⟩
    have hKb : K.In (hidT s₁.heap H) := fun b o e => base_of (KX b o e) (by
      cases q : H b with
      | none => rfl
      | some u =>
        have e' : b = a := hA b (by rw [q]; simp)
        subst e'
        rw [hK (by rw [q]; simp)] at e; cases e)
    have hM : Mod K mg (hidT s₁.heap H) := ⟨hKb, nsK hns, ⟨mb, nsK hb, hbb⟩, let ⟨mc, h1, h2⟩ := hlim; ⟨mc, nsK h1, h2⟩⟩
    have e0 : Env0 P w K mg (hidT s₁.heap H) callerA [] s₁ H := ⟨rfl, hM, fun b o e => of_hidT e, Nat.le_of_eq (hidT_size _ _), trivial, fun b hb => absurd (show b ∈ ([] : List Addr) from hb) (by simp), hok, .of_eq hg⟩
    refine codeAny_mono ((F _ hKb (nsK hns)).run callerA [] s₁ H ⟨[.ref a], []⟩ [.ref a] [.ref a] _ _ hr e0 (hbind s₁ (.ref a)) (.cons rfl .nil) (hsp H hO hS)) fun r s' h => ?_
    cases r with
    | error e => exact (hCX H e s' h).elim
    | ok fl =>
      cases fl with
      | next => exact False.elim h
      | brk => exact False.elim h
      | cont => exact False.elim h
      | ret u =>
        obtain ⟨v, H', os, bare, un, hok', r', q⟩ := h
        have q' : v = .bl true := q
        subst q'
        obtain rfl : u = Value.bool true := r'
        refine ⟨rfl, OldK.of_keep fun b o e => ?_, os, bare⟩
        cases q : H b with
        | none => exact un.keep b o e q (by intro z; exact absurd (show b ∈ ([] : List Addr) from z) (by simp)) (by simp)
        | some u =>
          rcases hO b with z | ⟨ob, xs, z⟩
          · rw [q] at z; cases z
          · have z2 := un.frzs b ob _ z
            obtain ⟨e1, _⟩ := hok b _ z
            obtain ⟨e2, _⟩ := hok' b _ z2
            rw [e] at e1; cases e1
            exact e2
  cases hk : K.lookup a with
  | some o =>
    -- the script is one of the module's own objects
    have e := KX a o hk
    rw [ha] at e
    cases e
    refine core (fun _ => none) (fun _ => .inl rfl) (.inr ⟨_, vs.toArray, _, hk, rfl, rfl, rfl, by rw [List.size_toArray, lenV]; exact hl, by simpa using rv⟩) (fun b u z => by have z' : (none : Option HO) = some u := z; cases z') (fun b z => absurd rfl z) fun z => absurd rfl z
  | none =>
    refine core (fun b => if b = a then some (.frz { cls := .type "list", data := .seq vs.toArray } (.lst (ns.map V.int))) else none) (fun b => ?_) (.inl (.inr ⟨{ cls := .type "list", data := .seq vs.toArray }, if_pos rfl⟩)) (fun b u z => ?_) (fun b z => ?_) fun _ => hk
    · by_cases hb : b = a
      · exact .inr ⟨_, _, if_pos hb⟩
      · exact .inl (if_neg hb)
    · by_cases hb : b = a
      · have z' := (if_pos hb).symm.trans z
        cases z'
        subst hb
        exact ⟨ha, by rw [List.length_map]; exact hl, vs, _, rv, ha⟩
      · have z' := (if_neg hb).symm.trans z
        cases z'
    · by_cases hb : b = a
      · exact hb
      · exact absurd (if_neg hb) z
end L2

namespace L2
open PySem PySem.Spec PyProof.Rows

theorem walk_of {l : PySem.W.OpenLaw} {n k : Nat} {q : Program} {loose : List Str} {XP : (Str → Option Value) → Heap → Prop} {YP : World → Heap → Prop} {d : DefRec} {K : Params → PySem.W.Frag} {CX : World → CXT} {sp : World → Sp} {x : Str}
    (hn : l.most = some n) (hn2 : n ≤ sizeLine) (hdf : d.params.defaults = []) (hr : Room k callerA)
    (hY : ∀ (w : World) (h : Heap), YP w h → (K w.params).In h)
    (F : ∀ (w : World) (mg : Str → Option Value) (fa : Addr) (h : Heap), (K w.params).In h → h.Ns mainGlobals mg → mg d.name = some (.ref fa) →
      ∃ fd : FuncData, (∀ (s : Shared) (u : Value), BindsTo s fd ⟨[u], []⟩ [(x, u)]) ∧
        ∀ base : Heap, (K w.params).In base → base.Ns mainGlobals mg → FnOk l.prog w (K w.params) mg base (CX w) k fa fd [x] (sp w))
    (hsp : ∀ (w : World) (H : Hp) (a : Addr) (ns : List Int), ns.length ≤ n → Only H → SqL (K w.params) H a (ns.map V.int) → sp w [.ref a] H (fun v _ => v = .bl true) fun _ _ _ => False)
    (hCX : ∀ (w : World) (H : Hp) (s : Shared) (e : Value) (s' : Shared), CX w [] H s (fun _ _ _ => False) e s' → False) :
    PySem.W.WalkO q loose XP YP l.row.toRowW d [] (fun f vs => PySem.call f vs) := by
  refine Att.attach_call hn hdf fun w s₀ s₁ mg mb fa o pm cd doc a vs ns G Y ho hd hcd hmg hobj hints hlen hg => ?_
  have KX := hY w _ Y
  obtain ⟨fd, hb, hF⟩ := F w mg fa _ KX G.T.g hmg
  exact law_call KX G.T.g G.T.b G.T.builtins G.T.nolimit hg hobj hints (Nat.le_trans hlen hn2) hr hF hb (fun H hO hS => hsp w H a ns hlen hO hS) fun H e s' => hCX w H s₁ e s'
end L2

/- THE LAST THEOREM (shape; LID, My.* are yours):
   My.Adr: a structure of the addresses that your layer names (classes, functions); My.Txt K t: a structure (Prop) of the equations over K;
   My.txt_mk : {K} {implicit addresses ..} (e1 : nsIn K mainGlobals "law" = some (some (.ref f))) (e2 : K.lookup f = some ⟨oc, od, .func (fnOf "law" "law" params body scope dV kV doc pm an cdv ct), sl⟩) (e3 : codeIn K cdv "law" = true) .. : ∃ t, My.Txt K t

set_option maxRecDepth 100000 in
set_option maxHeartbeats 0 in
theorem PySem.Challenge.cw_LID_holds : PySem.Challenge.rw_LID.Holds := by
  w_on; o_law; k_head; (case hw => w_witness2)
  k_fill
  refine L2.walk_of (l := PySem.Challenge.rw_LID) (n := 63) (k := 40) (x := "script") (CX := fun w => ..) (sp := fun _ => My.sp_law) rfl (by decide) rfl ⟨rfl, by decide, by decide⟩ (fun w h Y => PySem.W.kIn_of Y) ?F ?S ?C
  case F =>
    intro w mg fa h KX G hmg
    have T : ∃ t, My.Txt (L2.KOf KX) t := by
      dsimp only [L2.KOf]                          -- K must stand as «<heap const> w.params» for k_is
      refine' My.txt_mk ?e1 ?e2 ?e3 ..
      (case e1 => PySem.W.k_is)                    -- in the order: a name -> its address -> its object -> its parts
      (case e2 => PySem.W.k_is)
      ..
    obtain ⟨t, T⟩ := T
    have e0 := hmg.symm.trans (PySem.W.mg_of KX G T.law)
    cases e0                                       -- fa is the law's own address
    exact ⟨_, fun s u => .of_eq rfl, fun base kb nb => My.law_fn T kb nb⟩     -- if «.of_eq rfl» comes too early: refine' ⟨_, ?b, fun base kb nb => My.law_fn T kb nb⟩; exact fun s u => .of_eq rfl
  case S => exact fun w H a ns hl hO hS => ..
  case C => exact ..
(the tactic k_is has no namespace: write k_is) -/

namespace L2
open PySem PySem.Spec PyProof.Rows

def defArgs (s : Stmt) : Arguments := match s with
  | .FunctionDef _ a _ _ _ _ _ _ _ _ => a
  | _ => { posonlyargs := [], args := [], vararg := none, kwonlyargs := [], kw_defaults := [], kwarg := none, defaults := [] }
def defBody (s : Stmt) : List Stmt := match s with
  | .FunctionDef _ _ b _ _ _ _ _ _ _ => b
  | _ => []
def defScope (s : Stmt) : Scope := match s with
  | .FunctionDef _ _ _ _ _ _ sc _ _ _ => sc
  | _ => { kind := .function, names := [], isGenerator := false, isCoroutine := false }

abbrev CX0 : CXT := fun _ _ _ _ _ _ => False
abbrev E0 : XK := fun _ _ _ => False
theorem pass0 {X : Cx} : Passes CX0 X E0 := fun _ _ _ _ _ _ _ h => h.elim

structure Fun (K : PySem.W.Frag) (x qual : Str) (st : Stmt) (f : Addr) (fd : FuncData) : Prop where
  ex : ∃ (oc : Value) (od : Option Addr) (kV doc pm : Value) (an : Option Addr) (cdv ct : Value) (osl : Array (Option Value)),
    fd = PySem.W.fnOf x qual (defArgs st) (defBody st) (defScope st) .none kV doc pm an cdv ct ∧ K.lookup f = some ⟨oc, od, .func fd, osl⟩ ∧ PySem.W.codeIn K cdv qual = true
  kp : PySem.W.keepIn K (.ref f) = true
section
variable {P : Program} {w : World} {K : PySem.W.Frag} {mg : Str → Option Value} {base : Heap}
theorem Fun.ok {x qual : Str} {st : Stmt} {f : Addr} {fd : FuncData} {N ps : List Str} {k : Nat} {sp : Sp} (F : Fun K x qual st f fd) (S : FnScope N ps (defScope st)) (len : ∀ vs H Q E, sp vs H Q E → vs.length = ps.length)
    (hbody : ∀ (cdv : Value) (A : Around) (outer : List Env) (s : Shared) (H : Hp) (vs : List V) (Q : VK) (E : XK), Room k (A.deeper (envOfC qual (defScope st) s.heap.objs.size f cdv)) → sp vs H Q E →
      ∃ t, PSs (cxOf CX0 P w K mg base N qual (defScope st) f cdv A outer s H E).nox (defBody st) t ∧ t { nx := fun _ H' => Q .non H', rt := Q } (start N vs) H) : FnOk P w K mg base CX0 (k + 1) f fd ps sp := by
  obtain ⟨oc, od, kV, doc, pm, an, cdv, ct, osl, rfl, lk, hcd⟩ := F.ex
  refine fn_of lk hcd S len fun A outer s H vs Q E hr hsp => ?_
  obtain ⟨t, h, q⟩ := hbody cdv A outer s H vs Q E hr hsp
  exact ⟨t, h.nox, q⟩
theorem Fun.binds {x qual : Str} {st : Stmt} {f : Addr} {fd : FuncData} {ps : List Str} (F : Fun K x qual st f fd)
    (h : ∀ (kV doc pm : Value) (an : Option Addr) (cdv ct : Value) (us : List Value), us.length = ps.length → bindArgs (PySem.W.fnOf x qual (defArgs st) (defBody st) (defScope st) .none kV doc pm an cdv ct) ⟨us, []⟩ = pure (ps.zip us)) : Binds K fd ps [] := by
  obtain ⟨oc, od, kV, doc, pm, an, cdv, ct, osl, rfl, lk, hcd⟩ := F.ex
  exact .all (h kV doc pm an cdv ct)
theorem fun_mk {x qual : Str} {st : Stmt} {f : Addr} {oc : Value} {od an : Option Addr} {osl : Array (Option Value)} {kV doc pm cdv ct : Value} (l : K.lookup f = some ⟨oc, od, .func (PySem.W.fnOf x qual (defArgs st) (defBody st) (defScope st) .none kV doc pm an cdv ct), osl⟩)
    (c : PySem.W.codeIn K cdv qual = true) (k : PySem.W.keepIn K (.ref f) = true) : Fun K x qual st f (PySem.W.fnOf x qual (defArgs st) (defBody st) (defScope st) .none kV doc pm an cdv ct) := ⟨⟨oc, od, kV, doc, pm, an, cdv, ct, osl, rfl, l, c⟩, k⟩
end
section
variable {X : Cx}
end

def Same (H H' : Hp) : Prop := ∀ b o, H b = some o → H' b = some o
theorem Same.refl (H : Hp) : Same H H := fun _ _ h => h
theorem Same.trans {H H1 H2 : Hp} (a : Same H H1) (b : Same H1 H2) : Same H H2 := fun c o h => b c o (a c o h)
theorem Same.free {H H' : Hp} (e : Same H H') {l : Addr} (h : H' l = Option.none) : H l = Option.none := by
  cases q : H l with
  | none => rfl
  | some o =>
    rw [e l o q] at h
    cases h
theorem Same.seq {K : PySem.W.Frag} {H H' : Hp} {a : Addr} {xs : List V} (e : Same H H') (h : SqL K H a xs) : SqL K H' a xs := by
  rcases h with (h | ⟨o, h⟩) | h
  · exact .inl (.inl (e _ _ h))
  · exact .inl (.inr ⟨o, e _ _ h⟩)
  · exact .inr h

end L2

namespace L2
open PySem PySem.Spec PyProof.Rows
section
variable {P : Program} {w : World} {H H' : Hp} {h h1 h2 : Heap} {a C : Addr} {o : HO} {fs ex : List Addr}
theorem HOk.track (x : HOk P w H h) (hn : H a = none) (new : ObjOk P w (upd H a o) h a o) : HOk P w (upd H a o) h := fun b u e => by
  by_cases hb : b = a
  · subst hb; rw [upd_same] at e; cases e; exact new
  · rw [upd_ne hb] at e
    exact (x b u e).stay (fun _ _ _ q => q) (fun c q => by rw [upd_ne (ne_of_none q hn)]; exact q) (fun c xs q => by rw [upd_ne (ne_of_none q hn)]; exact q)
theorem Un.track (u : Un fs ex H H' h h1) (hn : H' a = none) (ha : h.get? a = none) : Un fs ex H (upd H' a o) h h1 where
  keep := u.keep
  slot := u.slot
  free := fun b ob q n hx => by
    rw [upd_ne (by rintro rfl; rw [ha] at q; cases q)]
    exact u.free b ob q n hx
  there := u.there
  tups := fun b xs q => by have := u.tups b xs q; rw [upd_ne (ne_of_none this hn)]; exact this
  frzs := fun b ob xs q => by have := u.frzs b ob xs q; rw [upd_ne (ne_of_none this hn)]; exact this
  tbls := fun b ps q => by
    obtain ⟨m, this⟩ := u.tbls b ps q
    exact ⟨m, by rw [upd_ne (ne_of_none this hn)]; exact this⟩
end

theorem closure_go (env : Env) (f : Str × NameKind → List (Str × Addr) → Sem (ForInStep (List (Str × Addr))))
    (h1 : ∀ n cs a, env.cells.lookup n = some a → f (n, .free) cs = pure (.yield ((n, a) :: cs))) (h2 : ∀ n k cs, k ≠ .free → f (n, k) cs = pure (.yield cs)) :
    ∀ (l : List (Str × NameKind)) (cs : List (Str × Addr)), (∀ x ∈ l, x.2 = .free → ∃ c, env.cells.lookup x.1 = some c) → (∀ x c, cs.lookup x = some c → env.cells.lookup x = some c) →
      ∃ cl, forIn l cs f = pure cl ∧ (∀ x c, cl.lookup x = some c → env.cells.lookup x = some c) ∧ (∀ x ∈ l, x.2 = .free → ∃ c, cl.lookup x.1 = some c) ∧ ∀ x c, cs.lookup x = some c → ∃ c', cl.lookup x = some c'
  | [], cs, _, hc => ⟨cs, rfl, hc, (fun _ z => (nomatch z)), fun x c q => ⟨c, q⟩⟩
  | (n, k) :: l, cs, hl, hc => by
    by_cases hk : k = .free
    · subst hk
      obtain ⟨a, ha⟩ := hl (n, .free) List.mem_cons_self rfl
      have hc' : ∀ x c, ((n, a) :: cs).lookup x = some c → env.cells.lookup x = some c := fun x c q => by
        rw [List.lookup_cons] at q
        cases e : x == n with
        | true => rw [e] at q; cases q; rw [eq_of_beq e]; exact ha
        | false => rw [e] at q; exact hc x c q
      obtain ⟨cl, e, p1, p2, p3⟩ := closure_go env f h1 h2 l ((n, a) :: cs) (fun x hx => hl x (List.mem_cons_of_mem _ hx)) hc'
      refine ⟨cl, ?_, p1, fun x hx hf => ?_, fun x c q => ?_⟩
      · rw [List.forIn_cons, h1 n cs a ha, pure_bind]; exact e
      · rcases List.mem_cons.mp hx with rfl | hx
        · exact p3 n a (by rw [List.lookup_cons]; simp)
        · exact p2 x hx hf
      · by_cases e : (x == n) = true
        · exact p3 x a (by rw [List.lookup_cons, e])
        · have e' : (x == n) = false := by simpa using e
          exact p3 x c (by rw [List.lookup_cons, e']; exact q)
    · obtain ⟨cl, e, p1, p2, p3⟩ := closure_go env f h1 h2 l cs (fun x hx => hl x (List.mem_cons_of_mem _ hx)) hc
      refine ⟨cl, ?_, p1, fun x hx hf => ?_, p3⟩
      · rw [List.forIn_cons, h2 n k cs hk, pure_bind]; exact e
      · rcases List.mem_cons.mp hx with rfl | hx
        · exact absurd hf hk
        · exact p2 x hx hf
theorem closureFor_cells {scope : Scope} {env : Env} (h : ∀ x ∈ scope.names, x.2 = .free → ∃ c, env.cells.lookup x.1 = some c) :
    ∃ cl, closureFor scope env = pure cl ∧ (∀ x c, cl.lookup x = some c → env.cells.lookup x = some c) ∧ ∀ x ∈ scope.names, x.2 = .free → ∃ c, cl.lookup x.1 = some c := by
  unfold closureFor
  obtain ⟨cl, e, p1, p2, _⟩ := closure_go env (fun (x : Str × NameKind) (r : List (Str × Addr)) => match x with
      | (name, kind) => if (kind == NameKind.free) = true then (do let a ← cellOf env name; pure (ForInStep.yield ((name, a) :: r))) else pure (ForInStep.yield r))
    (fun n cs a ha => by simp [cellOf, ha]) (fun n k cs hk => by
      have : (k == NameKind.free) = false := by simpa using hk
      simp [this]) scope.names [] h (fun x c q => by simp at q)
  refine ⟨cl, ?_, p1, p2⟩
  first
    | (rw [e]; rfl)
    | (simp only [pure_bind, bind_pure] at e ⊢; exact e)
    | (show (forIn scope.names [] _ >>= _) = _; rw [e]; rfl)

theorem lookup_relabel (env : Env) : ∀ (names : List (Str × NameKind)) (x : Str),
    (names.map fun (n, k) => if (k == NameKind.free && env.scope.kind == .function && env.kindOf n == some .cell) then (n, NameKind.cell) else (n, k)).lookup x =
      (names.lookup x).map fun k => if (k == NameKind.free && env.scope.kind == .function && env.kindOf x == some .cell) then NameKind.cell else k
  | [], x => rfl
  | (n, k) :: r, x => by
    have ih := lookup_relabel env r x
    show List.lookup x ((if (k == NameKind.free && env.scope.kind == .function && env.kindOf n == some .cell) = true then (n, NameKind.cell) else (n, k)) :: _) = _
    cases hx : x == n with
    | true =>
      have e := eq_of_beq hx
      subst e
      by_cases hc : (k == NameKind.free && env.scope.kind == .function && env.kindOf x == some .cell) = true
      · rw [if_pos hc]; simp only [List.lookup_cons, hx, Option.map_some, if_pos hc]
      · rw [if_neg hc]; simp only [List.lookup_cons, hx, Option.map_some, if_neg hc]
    | false =>
      by_cases hc : (k == NameKind.free && env.scope.kind == .function && env.kindOf n == some .cell) = true
      · rw [if_pos hc]; simp only [List.lookup_cons, hx]; exact ih
      · rw [if_neg hc]; simp only [List.lookup_cons, hx]; exact ih

abbrev cxC (X : Cx) (own : List Str) (outs : List Nat) (scope : Scope) (cl : List (Str × Addr)) (C : Addr) (s : Shared) (H : Hp) (fp : List Addr) : Cx where
  prog := X.prog
  w := X.w
  K := X.K
  mg := X.mg
  base := X.base
  A := X.A
  N := own ++ outs.map fun j => X.N.getD j Str.empty
  s₀ := s
  H₀ := H
  env := compEnvC scope cl C X.env
  outer := X.stack
  stack := X.stack
  ex := fp
  fn := fun _ => false
  calm := X.calm
  pn := []
  xe := fun _ _ => False
def stC (k : Nat) (outs : List Nat) (σ : St) : St := List.replicate k none ++ outs.map fun j => (σ[j]?).join
structure CompOk (sc : Scope) (N : List Str) (own : List Str) (outs : List Nat) (scope : Scope) : Prop where
  kind : scope.kind = .function
  cell : ∀ y ∈ scope.names, y.2 ≠ .cell
  loc : ∀ y ∈ scope.names, y.2 = .local → scope.names.lookup y.1 = some .local
  fre : ∀ y ∈ scope.names, y.2 = .free → sc.names.lookup y.1 = some .cell ∨ sc.names.lookup y.1 = some .free
  out : ∀ j ∈ outs, ∃ y, N[j]? = some y ∧ scope.names.lookup y = some .free
  ownN : ∀ y ∈ own, scope.names.lookup y = some .local
def compB (sc : Scope) (N : List Str) (own : List Str) (outs : List Nat) (scope : Scope) : Bool :=
  decide (scope.kind = .function) && scope.names.all (fun y => y.2 != .cell) && scope.names.all (fun y => y.2 != .local || scope.names.lookup y.1 == some .local) &&
  scope.names.all (fun y => y.2 != .free || sc.names.lookup y.1 == some .cell || sc.names.lookup y.1 == some .free) &&
  outs.all (fun j => match N[j]? with | some y => scope.names.lookup y == some .free | none => false) && own.all (fun y => scope.names.lookup y == some .local)
theorem compOk_of {sc : Scope} {N own : List Str} {outs : List Nat} {scope : Scope} (h : compB sc N own outs scope = true) : CompOk sc N own outs scope := by
  unfold compB at h
  simp only [Bool.and_eq_true, List.all_eq_true, decide_eq_true_eq] at h
  obtain ⟨⟨⟨⟨⟨h1, h2⟩, h3⟩, h4⟩, h5⟩, h6⟩ := h
  refine ⟨h1, fun y hy => ?_, fun y hy hl => ?_, fun y hy hl => ?_, fun j hj => ?_, fun y hy => ?_⟩
  · simpa using h2 y hy
  · have := h3 y hy
    rw [hl] at this
    simpa using this
  · have := h4 y hy
    rw [hl] at this
    simpa using this
  · have := h5 j hj
    cases e : N[j]? with
    | none => rw [e] at this; cases this
    | some y => rw [e] at this; exact ⟨y, rfl, by simpa using this⟩
  · simpa using h6 y hy

def PIf (X : Cx) (ifs : List Expr) (t : TT) : Prop :=
  ∀ (pins : List (Addr × Obj)) (s : Shared) (σ : St) (H : Hp) (Q : Bool → Hp → Prop), Inv X pins σ H s → t σ H Q →
    wpAny (model X.prog X.w) X.A (forIn ifs true fun c r => if r = true then do let ok ← isTrue c X.env (eval c X.env); pure (ForInStep.yield ok) else pure (ForInStep.yield r)) (TP X pins σ Q) X.xe s
def tYes : TT := fun _ H Q => Q true H
theorem pif_nil {X : Cx} : PIf X [] tYes := fun pins s σ H Q I h => wpAny_pure ⟨H, I, h⟩
theorem pif_one {X : Cx} {c : Expr} {t : TT} (hc : PT X c t) : PIf X [c] t := fun pins s σ H Q I h => by
  rw [List.forIn_cons]
  simp only [if_true, List.forIn_nil]
  refine wpAny_bind (wpAny_bind (thn (hc pins s σ H Q I h) fun b s1 q => wpAny_pure (wpAny_pure q)))
def CompRd (k : Nat) (outs : List Nat) (σ : St) (g : TG) (ti : TT) (te : TE) (J : It) (H1 : Hp) (Q : VK) : Prop := ∃ W : Nat → Nat → List V → Hp → Prop, (∃ m, W 0 m [] H1) ∧ ∀ i m ys H, W i m ys H → ys.length ≤ sizeLine ∧
  ((J.stop i H ∧ ∀ p, H p = none → Q (.ref p) (upd H p (.lst ys))) ∨
   (J.go i H ∧ ∃ N : List V → Hp → Prop, (∀ ys' H', N ys' H' → ∃ m', m' < m ∧ W (i + 1) m' ys' H') ∧ ∀ x H', J.yld i H x H' → g x (stC k outs σ) H' fun σ2 H2 => σ2.drop k = (outs.map fun j => (σ[j]?).join) ∧ ti σ2 H2 fun b H3 => if b = true then te σ2 H3 fun y H4 => N (ys ++ [y]) H4 else N ys H3))
def tComp (k : Nat) (outs : List Nat) (wi : TI) (g : TG) (ti : TT) (te : TE) : TE := fun σ H Q => wi σ H fun J H1 => CompRd k outs σ g ti te J H1 Q
end L2

namespace L2
open PySem PySem.Spec PyProof.Rows
theorem compLoop_turns {prog : Program} {w : World} {A : Around} {R : Result → Shared → Prop} {s : Shared} {elt target iter : Expr} {ifs : List Expr} {scope : Scope} {pos : Pos} {it acc : Value} {env : Env} (I : Nat → Shared → Prop)
    (turn : ∀ n s, I n s → wpAny (model prog w) A (pyNext it) (fun r s₁ => match r with
      | none => R (.ok .next) s₁
      | some v => wpAny (model prog w) A (letOwnedTupleGo target it v) (fun _ s₁' => wpAny (model prog w) A (assign target env v) (fun _ s₂ =>
          wpAny (model prog w) A (forIn ifs true fun c r => if r = true then do let ok ← isTrue c env (eval c env); pure (ForInStep.yield ok) else pure (ForInStep.yield r)) (fun ok s₃ =>
            if ok = true then wpAny (model prog w) A (eval elt env) (fun x s₄ =>
              wpAny (model prog w) A (call (.builtin "list.append") [acc, x]) (fun _ s₅ => ∃ m, m < n ∧ I m s₅) (fun _ _ => False) s₄) (fun _ _ => False) s₃
            else ∃ m, m < n ∧ I m s₃) (fun _ _ => False) s₂) (fun _ _ => False) s₁') (fun _ _ => False) s₁) (fun _ _ => False) s)
    (n : Nat) (h : I n s) :
    codeAny (model prog w) A (.compLoop (.ListComp elt [⟨target, iter, ifs, 0⟩] scope pos) 0 it acc env) R s := by
  refine codeAny_loop rfl I (fun n s hI => ?_) n h
  show wpAny _ A ((compTurn (.ListComp elt [⟨target, iter, ifs, 0⟩] scope pos) 0 it acc env).onRaise (fun x => do noteFrame x env; theTreesLotGoes x)) _ _ s
  refine wpAny_noted ?_
  rw [compTurn_list]
  refine wpAny_bind (wpAny_standAt (wpAny_bind (wpAny_mono (turn n s hI) (fun r s₁ h₁ => ?_) fun _ _ h' => h'.elim)))
  cases r with
  | none => exact wpAny_pure h₁
  | some v =>
    refine wpAny_bind (wpAny_mono h₁ (fun _ s₁' h₁' => ?_) fun _ _ h' => h'.elim)
    refine wpAny_bind (wpAny_mono h₁' (fun _ s₂ h₂ => wpAny_bind (wpAny_mono h₂ (fun ok s₃ h₃ => ?_) fun _ _ h' => h'.elim)) fun _ _ h' => h'.elim)
    cases ok with
    | false => exact wpAny_pure ⟨rfl, h₃⟩
    | true =>
      exact wpAny_bind (wpAny_bind (wpAny_mono h₃ (fun x s₄ h₄ => wpAny_bind (wpAny_mono h₄ (fun _ s₅ h₅ => wpAny_pure (wpAny_pure ⟨rfl, h₅⟩)) fun _ _ h' => h'.elim)) fun _ _ h' => h'.elim))

section
variable {X : Cx} {pins : List (Addr × Obj)} {σ : St} {H : Hp} {s : Shared} {own : List Str} {outs : List Nat} {scope : Scope} {cl : List (Str × Addr)} {C : Addr} {fp : List Addr}
theorem kind_relabel {sc : Scope} (ok : CompOk X.env.scope X.N own outs scope) {x : Str} (h : (compEnvC scope cl C X.env).kindOf x = some .cell ∨ (compEnvC scope cl C X.env).kindOf x = some .free) : (x, NameKind.free) ∈ scope.names := by
  have e : (compEnvC scope cl C X.env).kindOf x = (scope.names.lookup x).map fun k => if (k == NameKind.free && X.env.scope.kind == .function && X.env.kindOf x == some .cell) then NameKind.cell else k := lookup_relabel X.env scope.names x
  rw [e] at h
  cases q : scope.names.lookup x with
  | none => rw [q] at h; simp at h
  | some k =>
    have hm := PySem.mem_of_lookup q
    by_cases hk : k = .free
    · subst hk; exact hm
    · rw [q] at h
      have hkf : (k == NameKind.free) = false := by simpa using hk
      simp only [Option.map_some, hkf, Bool.false_and, Bool.false_eq_true, if_false, Option.some.injEq] at h
      rcases h with h | h
      · exact absurd h (ok.cell _ hm)
      · exact absurd h hk
theorem cxC_ok (I : Inv X pins σ H s) (ok : CompOk X.env.scope X.N own outs scope) (hcl : ∀ x c, cl.lookup x = some c → X.env.cells.lookup x = some c) (hcf : ∀ x ∈ scope.names, x.2 = .free → ∃ c, cl.lookup x.1 = some c)
    (hC : s.heap.objs.size ≤ C) (hfp : ∀ b ∈ fp, FpOk X pins H b) (hfs : ∀ b ∈ fp, b < s.heap.objs.size) : (cxC X own outs scope cl C s H fp).Ok where
  mod := I.ok.mod
  kind := ok.kind
  glob := I.ok.glob
  blt := I.ok.blt
  above := hC
  inj := fun x y c h1 h2 => I.ok.inj x y c (hcl x c h1) (hcl y c h2)
  has := fun x h => by
    have hm := kind_relabel (sc := scope) ok h
    exact hcf _ hm rfl
  cab := fun x c h _ => by cases h
  hd := I.ok.hd
  frames := I.ok.frames
  stk := .inl rfl
  exf := fun b hb => ⟨Nat.ne_of_lt (Nat.lt_of_lt_of_le (hfs b hb) hC), fun x c e => (hfp b hb).2.2.2.2.1 x c (hcl x c e)⟩
  bs := I.bs
  bsz := Nat.le_trans I.ok.bsz I.sz
  noex := fun b o e hb => by
    rcases (hfp b hb).2.2.2.1 with z | z
    · exact I.ok.noex b o e z
    · have h1 : b < X.base.objs.size := Heap.lt_size e
      exact absurd (Nat.lt_of_lt_of_le h1 (Nat.le_trans I.ok.bsz z)) (Nat.lt_irrefl _)
  exfs := fun b hb z => by
    rcases List.mem_cons.mp (I.stkSub b z) with q | q
    · exact (hfp b hb).2.1 q
    · exact (hfp b hb).2.2.1 q
  funs := I.stack
  frf := I.stkFree
theorem getD_eq {N : List Str} {j : Nat} {y : Str} (h : N[j]? = some y) : N.getD j Str.empty = y := by
  rw [List.getD_eq_getElem?_getD, h]; rfl
theorem inv_comp (I : Inv X pins σ H s) (ok : CompOk X.env.scope X.N own outs scope) (hcl : ∀ x c, cl.lookup x = some c → X.env.cells.lookup x = some c) (hcf : ∀ x ∈ scope.names, x.2 = .free → ∃ c, cl.lookup x.1 = some c)
    (hC : s.heap.objs.size ≤ C) (hfp : ∀ b ∈ fp, FpOk X pins H b) (hfs : ∀ b ∈ fp, b < s.heap.objs.size) {h' : Heap} {t' : Nat} {m : Str → Option Value} (hk : ∀ b o, s.heap.get? b = some o → h'.get? b = some o) (hn : h'.Ns C m) :
    Inv (cxC X own outs scope cl C s H fp) [] (stC own.length outs σ) H { s with heap := h', toks := t' } := by
  refine ⟨cxC_ok I ok hcl hcf hC hfp hfs, rfl, I.bare, Un.kept hk, ⟨m, hn, fun i x v e1 e2 e3 => ?_⟩, fun x c e => ?_, I.hok.fresh hC, fun x c e => I.freeC x c (hcl x c e), fun p hp => (nomatch hp), I.hok.kept hk, ?_⟩
  · have hi : own.length ≤ i := by
      by_cases hi : own.length ≤ i
      · exact hi
      · exfalso
        unfold stC at e2
        rw [List.getElem?_append_left (by simp; omega), List.getElem?_replicate] at e2
        split at e2 <;> cases e2
    unfold stC at e2
    rw [List.getElem?_append_right (by simp; omega), List.length_replicate, List.getElem?_map] at e2
    have e1' : (own ++ outs.map fun j => X.N.getD j Str.empty)[i]? = some x := e1
    rw [List.getElem?_append_right hi, List.getElem?_map] at e1'
    cases q : outs[i - own.length]? with
    | none => rw [q] at e2; cases e2
    | some j =>
      rw [q] at e1' e2
      obtain ⟨y, hy, hyf⟩ := ok.out j (List.mem_of_getElem? q)
      have ex : y = x := by
        rw [← getD_eq hy]
        exact Option.some.inj e1'
      subst ex
      have ev : σ[j]? = some (some v) := by
        have e2' : (σ[j]?).join = some v := Option.some.inj e2
        cases z : σ[j]? with
        | none => rw [z] at e2'; cases e2'
        | some o => rw [z] at e2'; cases o with
          | none => cases e2'
          | some v' => cases e2'; rfl
      obtain ⟨m0, hn0, hl⟩ := I.loc
      have hkd := ok.fre (y, .free) (PySem.mem_of_lookup hyf) rfl
      obtain ⟨u, r, l⟩ := hl j y v hy ev (hkd.elim (fun z => .inr (.inl z)) fun z => .inr (.inr z))
      refine ⟨u, r, ?_⟩
      rcases l with ⟨k, _⟩ | ⟨k, c, ec, hcell⟩
      · exfalso
        have k' : X.env.scope.names.lookup y = some .local := k
        rcases hkd with z | z
        · have z' : X.env.scope.names.lookup y = some .cell := z
          rw [k'] at z'; cases z'
        · have z' : X.env.scope.names.lookup y = some .free := z
          rw [k'] at z'; cases z'
      · refine .inr ⟨?_, ?_⟩
        · have e : (compEnvC scope cl C X.env).kindOf y = (scope.names.lookup y).map fun k => if (k == NameKind.free && X.env.scope.kind == .function && X.env.kindOf y == some .cell) then NameKind.cell else k := lookup_relabel X.env scope.names y
          show (compEnvC scope cl C X.env).kindOf y = _ ∨ (compEnvC scope cl C X.env).kindOf y = _
          rw [e, hyf, Option.map_some]
          split
          · exact .inl rfl
          · exact .inr rfl
        · obtain ⟨c', ec'⟩ := hcf (y, .free) (PySem.mem_of_lookup hyf) rfl
          refine ⟨c', ec', ?_⟩
          have : c' = c := Option.some.inj ((hcl y c' ec').symm.trans ec)
          subst this
          obtain ⟨o, ho, hd⟩ := hcell
          exact ⟨o, hk _ o ho, hd⟩
  · obtain ⟨v, o, ho, hd⟩ := I.cell x c (hcl x c e)
    exact ⟨v, o, hk c o ho, hd⟩
  · unfold stC
    show _ = (own ++ outs.map fun j => X.N.getD j Str.empty).length
    simp
end
end L2

namespace L2
open PySem PySem.Spec PyProof.Rows
section
variable {X : Cx} {tg iter elt : Expr} {ifs : List Expr} {own : List Str} {outs : List Nat} {scope : Scope} {wi : TI} {g : TG} {ti : TT} {te : TE} {pos : Pos}
theorem comp_core {pins : List (Addr × Obj)} {σ : St} {H : Hp} {s : Shared} {cl : List (Str × Addr)} {it : Addr} {fp : List Addr} {tn : Nat → Heap → Prop} {J : It} {E : Value → Shared → Prop} {Q : VK} (hc : X.calm = true) (ok : CompOk X.env.scope X.N own outs scope)
    (hcl : ∀ x c, cl.lookup x = some c → X.env.cells.lookup x = some c) (hcf : ∀ x ∈ scope.names, x.2 = .free → ∃ c, cl.lookup x.1 = some c)
    (hg : ∀ {C fp}, PG (cxC X own outs scope cl C s H fp) tg g) (hf : ∀ {C fp}, PIf (cxC X own outs scope cl C s H fp) ifs ti) (he : ∀ {C fp}, PE (cxC X own outs scope cl C s H fp) elt te)
    (I : Inv X pins σ H s) (T : Turn X.prog X.w X.K tg J fp it tn) (st : tn 0 s.heap) (f2 : ∀ b ∈ fp, FpOk X pins H b)
    (hW : CompRd own.length outs σ g ti te J H Q)
    {RR : Value → Addr → Result → Shared → Prop}
    (hRR : ∀ D C Hf s' m, s'.heap.Ns C m → Inv X pins σ Hf s' → Hf C = none → C ≠ X.env.locals → X.s₀.heap.objs.size ≤ C → (∀ x c, X.env.cells.lookup x = some c → c ≠ C) → (∀ p ∈ X.pn ++ pins, p.1 ≠ C) → Q (.ref D) Hf → RR (.ref D) C (.ok .next) s') :
    wpAny (model X.prog X.w) X.A (newList []) (fun acc s₃ => wpAny (model X.prog X.w) X.A (newFunctionEnv scope X.env.globals cl [] X.env.qual none .none (some X.env)) (fun cenv s₄ =>
      codeAny (model X.prog X.w) X.A (.compStart (.ListComp elt [⟨tg, iter, ifs, 0⟩] scope pos) 0 (.ref it) acc { cenv with scope := relabel scope X.env }) (RR acc cenv.locals) s₄) E s₃) E s := by
  obtain ⟨W, ⟨m0, w0⟩, turn⟩ := hW
  have hfs : ∀ b ∈ fp, @LT.lt Nat _ b s.heap.objs.size := fun b hb => let ⟨o, e, _⟩ := T.obj _ _ st b hb; Heap.lt_size e
  refine wpAny_newObj_type (wpAny_newFunctionEnv ok.cell (by intro y hy; simp at hy) (fun h₁ hns₁ hsb₁ => ?_) ok.kind)
  dsimp only at hns₁ hsb₁ ⊢
  generalize hH2 : s.heap.push { cls := .type "list", dict := none, data := .seq ([] : List Value).toArray } = H2 at hns₁ hsb₁ ⊢
  have hC : H2.objs.size = s.heap.objs.size + 1 := by rw [← hH2, Heap.size_push]
  generalize eC : H2.objs.size = C at hns₁ hsb₁ hC ⊢
  have hDC : s.heap.objs.size ≠ C := by omega
  have below : ∀ b, b < s.heap.objs.size → b ≠ C ∧ b ≠ s.heap.objs.size := fun b hb => ⟨by omega, by omega⟩
  have old : ∀ b o, s.heap.get? b = some o → h₁.get? b = some o := fun b o e => hsb₁.extBut b o (below b (Heap.lt_size e)).1 (Heap.get?_push_of_some _ (hH2 ▸ Heap.get?_push_of_some _ e))
  have hacc : h₁.PlainList s.heap.objs.size #[] := ⟨_, hsb₁.extBut _ _ hDC (Heap.get?_push_of_some _ (hH2 ▸ Heap.get?_push_size _ rfl))⟩
  have hst₁ : tn 0 h₁ := T.keep _ _ _ st fun b _ o e => old b o e
  have fresh : ∀ a, s.heap.objs.size ≤ a → s.heap.get? a = none := fun a ha => by
    cases e : s.heap.get? a with
    | none => rfl
    | some o' => exact absurd (Heap.lt_size e) (Nat.not_lt.mpr ha)
  obtain ⟨D, hD⟩ : ∃ D : Nat, s.heap.objs.size = D := ⟨_, rfl⟩
  rw [hD] at hDC hacc ⊢
  have hDs : s.heap.get? D = none := fresh D (Nat.le_of_eq hD)
  have hCs : s.heap.get? C = none := fresh C (by omega)
  have hDfp : D ∉ fp := fun z => by have := hfs D z; omega
  have hI0 : ∀ t', Inv (cxC X own outs scope cl C s H fp) [] (stC own.length outs σ) H { s with heap := h₁, toks := t' } := fun t' => inv_comp I ok hcl hcf (by omega) f2 hfs old hns₁
  have cellNe : ∀ x c, cl.lookup x = some c → @LT.lt Nat _ c s.heap.objs.size := fun x c e => let ⟨v, q⟩ := I.cell x c (hcl x c e); q.lt
  have stkLt : ∀ b ∈ frs X.stack, @LT.lt Nat _ b s.heap.objs.size := fun b hb => by
    obtain ⟨_, o, ho, _⟩ := I.stack.mem hb
    exact Heap.lt_size ho
  -- what stays true of the iterator's objects through the loop
  have stat : ∀ {H' : Hp} {oD : Obj}, (∀ b ∈ fp, H' b = none) → ∀ b ∈ fp, FpOk (cxC X own outs scope cl C s H fp) [(D, oD)] H' b := fun {H' oD} hn b hb => by
    refine ⟨hn b hb, (below b (hfs b hb)).1, fun z => ?_, .inl hb, fun x c e z => (f2 b hb).2.2.2.2.1 x c (hcl x c e) z, fun p hp z => ?_⟩
    · rcases List.mem_cons.mp (I.stkSub b z) with q | q
      · exact (f2 b hb).2.1 q
      · exact (f2 b hb).2.2.1 q
    · have : p = (D, oD) := by simpa using hp
      subst this
      exact hDfp (show D ∈ fp from (show D = b from z) ▸ hb)
  have loop : ∀ s₃ : Shared, s₃ = { s with heap := h₁, toks := s.toks + ([] : List (Str × Value)).length } →
      codeAny (model X.prog X.w) X.A (.compLoop (.ListComp elt [⟨tg, iter, ifs, 0⟩] scope pos) 0 (.ref it) (.ref D) (compEnvC scope cl C X.env)) (RR (.ref D) C) s₃ := by
    rintro s₃ rfl
    refine compLoop_turns (fun n s' => ∃ i ys us nn H', Inv (cxC X own outs scope cl C s H fp) [(D, { cls := .type "list", data := .seq us.toArray nn })] (stC own.length outs σ) H' s' ∧ tn i s'.heap ∧ (∀ b ∈ fp, H' b = none) ∧ Vals ys us ∧ W i n ys H') ?_ m0 ?_
    · rintro n s3 ⟨i, ys, us, nn, H3, I3, st3, fr3, hv, w3⟩
      have hD3 := I3.pin (D, _) (List.mem_append_right _ List.mem_cons_self)
      obtain ⟨hz, ht⟩ := turn i n ys H3 w3
      rcases ht with ⟨stop, qn⟩ | ⟨go, NN, hNN, step⟩
      · refine thn (T.done (cxC X own outs scope cl C s H fp) rfl rfl rfl hc i _ s3 _ H3 _ I3 (stat fr3) st3 stop) fun r s4 ⟨hr, I4⟩ => ?_
        subst hr
        have hD4 := I4.pin (D, _) (List.mem_append_right _ List.mem_cons_self)
        obtain ⟨m4, hn4, _⟩ := I4.loc
        have hC4 : H3 C = none := I4.free
        have hok : HOk X.prog X.w (upd H3 D (.lst ys)) s4.heap := I4.hok.track hD4.2.1 ⟨hz, us, nn, hv, hD4.1⟩
        have hun : Un (frs X.stack) fp H (upd H3 D (.lst ys)) s.heap s4.heap := Un.track I4.base hD4.2.1 hDs
        have I5 : Inv X pins σ (upd H3 D (.lst ys)) s4 := I.call' I4.os hun hok I4.bare fun b hb => ⟨(f2 b hb).2.2.2.1, (f2 b hb).2.1, (f2 b hb).2.2.2.2.1, (f2 b hb).2.2.2.2.2⟩
        refine hRR D C _ s4 m4 hn4 I5 (by rw [upd_ne hDC.symm]; exact hC4) ?_ ?_ ?_ ?_ (qn D hD4.2.1)
        · intro z
          have h1 : @LT.lt Nat _ X.env.locals s.heap.objs.size := I.lt
          have z' : @Eq Nat C X.env.locals := z
          omega
        · have h1 := I.sz
          exact Nat.le_trans h1 (by omega)
        · intro x c e z
          obtain ⟨v, q⟩ := I.cell x c e
          have h1 : @LT.lt Nat _ c s.heap.objs.size := q.lt
          have z' : @Eq Nat c C := z
          omega
        · intro p hp z
          have h1 : @LT.lt Nat _ p.1 s.heap.objs.size := Heap.lt_size (I.pin p hp).1
          have z' : @Eq Nat p.1 C := z
          omega
      · refine thn (T.item (cxC X own outs scope cl C s H fp) rfl rfl rfl hc i _ s3 _ H3 (fun _ _ => False) I3 (stat fr3) st3 go) fun r s4 ⟨u, hr, h4⟩ => ?_
        subst hr
        refine thn h4 fun _ s5 ⟨x, H5, I5, r5, y5, st5, fr5⟩ => ?_
        have I5' := I5.pinned (stat fr5) (T.obj _ _ st5)
        refine thn (hg _ s5 _ H5 x u _ I5' r5 (step x H5 y5)) fun _ s6 ⟨σ6, H6, I6, d6, q6⟩ => ?_
        have weak : ∀ {H7 : Hp} {s7 : Shared} {us' : List Value} {nn' : Nat}, Inv (cxC X own outs scope cl C s H fp) [(D, { cls := .type "list", data := .seq us'.toArray nn' })] σ6 H7 s7 → Inv (cxC X own outs scope cl C s H fp) [(D, { cls := .type "list", data := .seq us'.toArray nn' })] (stC own.length outs σ) H7 s7 := fun {H7 s7 us' nn'} I7 => by
          refine I7.weak (by have e := I7.len; have e2 : (cxC X own outs scope cl C s H fp).N.length = own.length + outs.length := by simp
                             rw [e, e2]; unfold stC; simp) fun j v e => ?_
          have hj : own.length ≤ j := by
            by_cases hj : own.length ≤ j
            · exact hj
            · exfalso
              unfold stC at e
              rw [List.getElem?_append_left (by simp; omega), List.getElem?_replicate] at e
              split at e <;> cases e
          unfold stC at e
          rw [List.getElem?_append_right (by simp; omega), List.length_replicate, ← d6, List.getElem?_drop] at e
          rw [show own.length + (j - own.length) = j by omega] at e
          exact e
        refine thn (hf _ s6 σ6 H6 _ I6 q6) fun b s7 ⟨H7, I7, q7⟩ => ?_
        have keepT : ∀ {H8 : Hp} {s8 : Shared}, Inv (cxC X own outs scope cl C s H fp) ([(D, { cls := .type "list", data := .seq us.toArray nn })] ++ pinsAt fp s5.heap) σ6 H8 s8 → (∀ b ∈ fp, ∀ o, s5.heap.get? b = some o → s8.heap.get? b = some o) ∧ ∀ b ∈ fp, H8 b = none := fun {H8 s8} I8 => by
          refine ⟨fun b hb o e => (I8.pin (b, o) (List.mem_append_right _ (List.mem_append_right _ (mem_pinsAt hb e)))).1, fun b hb => ?_⟩
          obtain ⟨o, e, d⟩ := T.obj _ _ st5 b hb
          exact (I8.pin (b, o) (List.mem_append_right _ (List.mem_append_right _ (mem_pinsAt hb e)))).2.1
        cases b with
        | false =>
          rw [if_neg (by simp)] at q7
          rw [if_neg (by simp)]
          obtain ⟨m', hm, w7⟩ := hNN _ _ q7
          exact ⟨m', hm, i + 1, ys, us, nn, H7, weak I7.unpinned, T.keep _ _ _ st5 (keepT I7).1, (keepT I7).2, hv, w7⟩
        | true =>
          rw [if_pos rfl] at q7
          rw [if_pos rfl]
          refine thn (he _ s7 σ6 H7 _ I7 q7) fun u8 s8 ⟨y8, H8, I8, r8, q8⟩ => ?_
          obtain ⟨m', hm, w8⟩ := hNN _ _ q8
          have hD8 := I8.pin (D, _) (List.mem_append_right _ (List.mem_append_left _ List.mem_cons_self))
          refine wpAny_list_append_plain (hsz := by rw [List.size_toArray, ← hv.length]; exact hz) (x := u8) ⟨nn, hD8.1⟩ fun h9 hl9 hs9 => ?_
          obtain ⟨n9, e9⟩ := hl9
          have k9 : ∀ b o, b ≠ D → s8.heap.get? b = some o → h9.get? b = some o := fun b o hb e => (hs9.2 b hb).trans e
          have I8' : Inv (cxC X own outs scope cl C s H fp) [] σ6 H8 s8 := I8.pins_of fun p hp => (nomatch hp)
          have I9 : Inv (cxC X own outs scope cl C s H fp) [] σ6 H8 { s8 with heap := h9, toks := s8.toks } := I8'.turned k9 hD8.2.1 hDC (.inr (by show s.heap.objs.size ≤ D; omega)) (fun x c e z => by have h1 := cellNe x c e; have z' : @Eq Nat c D := z; omega) (fun p hp => (nomatch hp))
          have e9' : h9.get? D = some { cls := .type "list", data := .seq (us ++ [u8]).toArray n9 } := by
            rw [e9]; simp
          have I9' : Inv (cxC X own outs scope cl C s H fp) [(D, { cls := .type "list", data := .seq (us ++ [u8]).toArray n9 })] σ6 H8 { s8 with heap := h9, toks := s8.toks } := I9.pins_of fun p hp => by
            have : p = (D, { cls := .type "list", data := .seq (us ++ [u8]).toArray n9 }) := by simpa using hp
            subst this
            refine ⟨e9', hD8.2.1, hDC, fun z => ?_, fun v z => by cases z⟩
            have := stkLt D z
            omega
          refine ⟨m', hm, i + 1, ys ++ [y8], us ++ [u8], n9, H8, weak I9', ?_, (keepT I8).2, hv.append (.cons r8 .nil), w8⟩
          exact T.keep _ _ _ st5 fun b hb o e => k9 b o (fun z => hDfp (show D ∈ fp from (show b = D from z) ▸ hb)) ((keepT I8).1 b hb o e)
    · obtain ⟨n0, e0⟩ := hacc
      refine ⟨0, [], [], n0, H, (hI0 _).pins_of fun p hp => ?_, hst₁, fun b hb => (f2 b hb).1, .nil, w0⟩
      have : p = (D, { cls := .type "list", data := .seq ([] : List Value).toArray n0 }) := by simpa using hp
      subst this
      refine ⟨e0, I.hok.fresh (by omega), hDC, fun z => ?_, fun v z => by cases z⟩
      have := stkLt D z
      omega
  exact codeAny_compStart_list (loop _ rfl) (T.self _ 0 _ _ _ hst₁ (loop _ rfl))
theorem has_cells {scope : Scope} {pins : List (Addr × Obj)} {σ : St} {H : Hp} {s : Shared} (I : Inv X pins σ H s) (ok : CompOk X.env.scope X.N own outs scope) : ∀ x ∈ scope.names, x.2 = .free → ∃ c, X.env.cells.lookup x.1 = some c := fun x hx hf => I.ok.has x.1 (ok.fre x hx hf)
theorem pe_comp (own : List Str) (outs : List Nat) (hc : X.calm = true) (ok : CompOk X.env.scope X.N own outs scope) (hi : PI X tg iter wi)
    (hg : ∀ {cl C s H fp}, PG (cxC X own outs scope cl C s H fp) tg g) (hf : ∀ {cl C s H fp}, PIf (cxC X own outs scope cl C s H fp) ifs ti) (he : ∀ {cl C s H fp}, PE (cxC X own outs scope cl C s H fp) elt te)
    (hs : ∀ x, foldedSetIterable iter X.env x = pure x := by intro _; rfl) : PE X (.ListComp elt [⟨tg, iter, ifs, 0⟩] scope pos) (tComp own.length outs wi g ti te) := by
  intro pins s σ H Q I h
  obtain ⟨cl, ecl, hcl, hcf⟩ := closureFor_cells (has_cells I ok)
  rw [eval_ListComp]
  refine wpAny_comprehension_free (use := none) rfl hs ecl ok.kind ok.loc (thn (hi pins s σ H _ I h) fun xv s₁ h₁ => thn h₁ fun itv s₂ h₂ => ?_)
  obtain ⟨it, fp, tn, J, H2, e, I2, T, st2, f2, hW⟩ := h₂
  subst e
  refine comp_core (Q := Q) (RR := fun acc C => compPost (model X.prog X.w) X.A X.xe none (EP X pins σ Q) acc C) hc ok hcl hcf hg hf he I2 T st2 f2 hW ?_
  intro D C Hf s' m hn I' hC hL hs0 hce hpi q
  refine ⟨m, hn, fun h' hs' => ?_⟩
  exact ⟨.ref D, Hf, I'.turned (t' := s'.toks) (fun b o hb e => (hs'.2 b hb).trans e) hC hL (.inr hs0) hce hpi, rfl, q⟩
theorem ps_setcomp {i : Nat} {y : Str} {py spos : Pos} (own : List Str) (outs : List Nat) (hc : X.calm = true) (ok : CompOk X.env.scope X.N own outs scope) (hN : X.N.Nodup) (hy : X.N[i]? = some y) (hx : X.env.scope.names.lookup y = some .local) (hi : PI X tg iter wi)
    (hg : ∀ {cl C s H fp}, PG (cxC X own outs scope cl C s H fp) tg g) (hf : ∀ {cl C s H fp}, PIf (cxC X own outs scope cl C s H fp) ifs ti) (he : ∀ {cl C s H fp}, PE (cxC X own outs scope cl C s H fp) elt te)
    (hsw : swapsWith (.ListComp elt [⟨tg, iter, ifs, 0⟩] scope pos) (some (.Name y py)) spos.line X.env = pure true := by rfl)
    (hs : ∀ x, foldedSetIterable iter X.env x = pure x := by intro _; rfl) : PS X (.Assign [.Name y py] (.ListComp elt [⟨tg, iter, ifs, 0⟩] scope pos) spos) (tAsg (tComp own.length outs wi g ti te) (gName i)) := by
  intro pins s σ H D I h
  obtain ⟨cl, ecl, hcl, hcf⟩ := closureFor_cells (has_cells I ok)
  rw [exec_Assign_Name_used _ _ _ _ hsw]
  refine wpAny_bind (wpAny_standAt (wpAny_bind ?_))
  show wpAny _ X.A (do let _ ← comprehension (.ListComp elt [⟨tg, iter, ifs, 0⟩] scope pos) scope X.env _ (newList []) false (eval iter X.env) (some (assign (.Name y py) X.env))) _ _ s
  refine wpAny_bind (wpAny_mono (wpAny_comprehension_free (use := some (assign (.Name y py) X.env)) (Q := fun _ s' => SP X pins D .next s') rfl hs ecl ok.kind ok.loc
    (thn (hi pins s σ H _ I h) fun xv s₁ h₁ => thn h₁ fun itv s₂ h₂ => ?_)) (fun _ s' hq => wpAny_pure (wpAny_pure hq)) fun _ _ e => e)
  obtain ⟨it, fp, tn, J, H2, e, I2, T, st2, f2, hW⟩ := h₂
  subst e
  refine comp_core (Q := fun x H1 => gName i x σ H1 D.nx) (RR := fun acc C => compPost (model X.prog X.w) X.A X.xe (some (assign (.Name y py) X.env)) (fun _ s' => SP X pins D .next s') acc C) hc ok hcl hcf hg hf he I2 T st2 f2 hW ?_
  intro D' C Hf s' m hn I' hC hL hs0 hce hpi q
  show wpAny _ X.A (assign (.Name y py) X.env (.ref D')) _ _ _
  refine wpAny_assign_Name (store_ok2 I' hN hy (.inl hx) (v := .ref D') rfl (fun s2 I2' ⟨a, hsb, ha⟩ => ?_) (.inr hx))
  have haC : C ≠ a := by
    rcases ha with rfl | ha
    · exact hL
    · exact fun z => hce _ _ ha z.symm
  refine ⟨m, hn.sameBut hsb haC, fun h' hs' => ?_⟩
  exact ⟨_, Hf, I2'.turned (t' := s2.toks) (fun b o hb e => (hs'.2 b hb).trans e) hC hL (.inr hs0) hce hpi, q⟩
end
end L2

namespace L2
open PySem PySem.Spec PyProof.Rows
section
variable {X : Cx} {tg : Expr}
def rSlS : V → Option Int → Option Int → Hp → VK → Prop := fun x lo hi H Q => ∃ z, x = .str z ∧ z.length ≤ sizeLine ∧ Q (.str (Txt.slice z lo hi)) H
theorem sl_str : SlR X rSlS := by
  intro pins s σ H x v vl vu lo hi sl Q I rx hs pl pu h
  obtain ⟨z, rfl, hz, q⟩ := h
  obtain ⟨t, rfl⟩ := rx
  refine ⟨"str", _, PySem.F.slot_str_getitem.lookup, typeIs_str _ _ _, ?_⟩
  have fin : ∀ lo' hi', lo' = lo → hi' = hi → ∀ t' k, EP X pins σ Q (.str (Txt.slice z lo' hi') t') { s with toks := k } := fun lo' hi' e1 e2 t' k => by
    subst e1 e2
    exact ⟨.str _, H, I.tok k, ⟨t', rfl⟩, q⟩
  obtain ⟨o, ho, hc, hd⟩ := hs
  cases pl with
  | none =>
    cases pu with
    | none => exact wpAny_getItem_str_slice (l := none) (u := none) (st := none) ⟨o, ho, hc, hd⟩ rfl (post_val_or_str ⟨Nat.le_trans (Txt.slice_le z _ _) hz, fun t' k => fin _ _ rfl rfl t' k⟩)
    | int j uj => exact wpAny_getItem_str_slice (l := none) (u := some (j, uj)) (st := none) ⟨o, ho, hc, hd⟩ rfl (post_val_or_str ⟨Nat.le_trans (Txt.slice_le z _ _) hz, fun t' k => fin _ _ rfl rfl t' k⟩)
  | int i ui =>
    cases pu with
    | none => exact wpAny_getItem_str_slice (l := some (i, ui)) (u := none) (st := none) ⟨o, ho, hc, hd⟩ rfl (post_val_or_str ⟨Nat.le_trans (Txt.slice_le z _ _) hz, fun t' k => fin _ _ rfl rfl t' k⟩)
    | int j uj => exact wpAny_getItem_str_slice (l := some (i, ui)) (u := some (j, uj)) (st := none) ⟨o, ho, hc, hd⟩ rfl (post_val_or_str ⟨Nat.le_trans (Txt.slice_le z _ _) hz, fun t' k => fin _ _ rfl rfl t' k⟩)
def Its (z : Str) : It := ⟨fun i _ => i < z.cps.size, fun i H x H' => H' = H ∧ ∃ c, z.cps[i]? = some c ∧ x = .str ⟨#[c]⟩, fun i _ => z.cps.size ≤ i⟩
theorem turn_ascii {P : Program} {w : World} {K : PySem.W.Frag} {tg : Expr} (z : Str) (t : Tok) (it : Addr) : Turn P w K tg (Its z) [it] it (fun i h => h.IsStrIter it "str_ascii_iterator" z t i) where
  mem := by simp
  obj := fun i h st b hb => by
    have e : b = it := by simpa using hb
    subst e
    obtain ⟨o, e, c, d⟩ := st
    exact ⟨o, e, fun v z => by rw [d] at z; cases z⟩
  keep := fun i h h' st k => let ⟨o, e, r⟩ := st; ⟨o, k it (by simp) o e, r⟩
  item := by
    intro X hP hw hK hc i pins s σ H E I hf st hg
    subst hP hw hK
    obtain ⟨f0, f1, f2, f3, f4, f5⟩ := hf it (by simp)
    have hg' : i < z.cps.size := hg
    refine wpAny_pyNext_ascii_item st (c := z.cps[i]) (by simp [hg']) fun h' st' sb => ?_
    have I1 : Inv X pins σ H { s with heap := h', toks := s.toks + 1 } := I.turned (fun b o hb e => (sb.2 b hb).trans e) f0 f1 f3 f4 f5
    obtain ⟨o, e, c, d⟩ := id st'
    exact ⟨_, rfl, go_of (s := { s with heap := h', toks := s.toks + 1 }) e c d (by decide) ⟨.str ⟨#[z.cps[i]]⟩, H, I1, ⟨_, rfl⟩, ⟨rfl, z.cps[i], by simp [hg'], rfl⟩, st', fun b hb => (hf b hb).1⟩⟩
  done := by
    intro X hP hw hK hc i pins s σ H E I hf st hg
    subst hP hw hK
    obtain ⟨f0, f1, f2, f3, f4, f5⟩ := hf it (by simp)
    have hg' : z.cps.size ≤ i := hg
    exact wpAny_pyNext_ascii_end (I.ok.hd hc) st (by simp; omega) fun h' eb => ⟨rfl, I.turned (t' := s.toks) (fun b o hb e => eb b o hb e) f0 f1 f3 f4 f5⟩
  self := fun _ _ _ _ _ st h => wpAny_pyIter_striter_ascii st h
theorem turn_wide {P : Program} {w : World} {K : PySem.W.Frag} {tg : Expr} (z : Str) (t : Tok) (it : Addr) : Turn P w K tg (Its z) [it] it (fun i h => h.IsStrIter it "str_iterator" z t i) where
  mem := by simp
  obj := fun i h st b hb => by
    have e : b = it := by simpa using hb
    subst e
    obtain ⟨o, e, c, d⟩ := st
    exact ⟨o, e, fun v z => by rw [d] at z; cases z⟩
  keep := fun i h h' st k => let ⟨o, e, r⟩ := st; ⟨o, k it (by simp) o e, r⟩
  item := by
    intro X hP hw hK hc i pins s σ H E I hf st hg
    subst hP hw hK
    obtain ⟨f0, f1, f2, f3, f4, f5⟩ := hf it (by simp)
    have hg' : i < z.cps.size := hg
    refine wpAny_pyNext_wide_item st (c := z.cps[i]) (by simp [hg']) fun h' st' sb => ?_
    have I1 : Inv X pins σ H { s with heap := h', toks := s.toks + 1 } := I.turned (fun b o hb e => (sb.2 b hb).trans e) f0 f1 f3 f4 f5
    obtain ⟨o, e, c, d⟩ := id st'
    exact ⟨_, rfl, go_of (s := { s with heap := h', toks := s.toks + 1 }) e c d (by decide) ⟨.str ⟨#[z.cps[i]]⟩, H, I1, ⟨_, rfl⟩, ⟨rfl, z.cps[i], by simp [hg'], rfl⟩, st', fun b hb => (hf b hb).1⟩⟩
  done := by
    intro X hP hw hK hc i pins s σ H E I hf st hg
    subst hP hw hK
    obtain ⟨f0, f1, f2, f3, f4, f5⟩ := hf it (by simp)
    have hg' : z.cps.size ≤ i := hg
    exact wpAny_pyNext_wide_end (I.ok.hd hc) st (by simp; omega) fun h' eb => ⟨rfl, I.turned (t' := s.toks) (fun b o hb e => eb b o hb e) f0 f1 f3 f4 f5⟩
  self := fun _ _ _ _ _ st h => wpAny_pyIter_striter_wide st h
def iStr (tl : TE) : TI := fun σ H R => tl σ H fun x H1 => ∃ z, x = .str z ∧ R (Its z) H1
theorem pi_str {l : Expr} {tl : TE} (hl : PE X l tl) : PI X tg l (iStr tl) := by
  intro pins s σ H R I h
  refine thn (hl pins s σ H _ I h) fun v s1 ⟨x, H1, I1, r1, q1⟩ => ?_
  obtain ⟨z, rfl, q⟩ := q1
  obtain ⟨t, rfl⟩ := r1
  cases ha : z.cps.all (· < 128) with
  | true =>
    refine wpAny_pyIter_ascii ha ?_
    have hn : H1 s1.heap.objs.size = none := I1.hok.fresh (Nat.le_refl _)
    exact ⟨s1.heap.objs.size, [s1.heap.objs.size], _, Its z, H1, rfl, I1.kept (t' := s1.toks) (fun b o e => Heap.get?_push_of_some _ e), turn_ascii z t _, ⟨_, Heap.get?_push_size _ rfl, rfl, rfl⟩, fun b hb => by
      have e : b = s1.heap.objs.size := by simpa using hb
      subst e
      exact I1.fpOk (Nat.le_refl _) hn, q⟩
  | false =>
    refine wpAny_pyIter_wide ha ?_
    have hn : H1 s1.heap.objs.size = none := I1.hok.fresh (Nat.le_refl _)
    exact ⟨s1.heap.objs.size, [s1.heap.objs.size], _, Its z, H1, rfl, I1.kept (t' := s1.toks) (fun b o e => Heap.get?_push_of_some _ e), turn_wide z t _, ⟨_, Heap.get?_push_size _ rfl, rfl, rfl⟩, fun b hb => by
      have e : b = s1.heap.objs.size := by simpa using hb
      subst e
      exact I1.fpOk (Nat.le_refl _) hn, q⟩
theorem call_all (hc : X.calm = true) : CallR X (.builtin "all") (fun xs H Q => ∃ (p : Addr) (bs : List Bool), xs = [.ref p] ∧ SqL X.K H p (bs.map V.bl) ∧ Q (.bl (bs.all id)) H) := by
  intro pins s σ H xs us Q I r h
  obtain ⟨p, bs, rfl, hq, q⟩ := h
  obtain ⟨u, rfl, ru⟩ := vals1 r
  cases ru
  obtain ⟨its, rv, hl, hz⟩ := I.list hq
  have hlen := rv.length
  rw [List.length_map] at hlen
  have hlt : p < s.heap.objs.size := let ⟨o, ho, _⟩ := hl.isList; Heap.lt_size ho
  refine call_all_walk (wpAny_pyIter_list hl.isList ?_)
  refine ⟨s.heap.objs.size, _, _, _, _, _, fun i => bs.getD i false, rfl, Walks.list (show X.A.in1.handled = none from I.ok.hd hc) s.heap.objs.size p (Nat.ne_of_lt hlt) its.toArray, ⟨⟨_, Heap.get?_push_size _ rfl, rfl, rfl⟩, hl.isList.at fun o e => Heap.get?_push_of_some _ e⟩, ?_, ?_⟩
  · intro i v s' Q' E' hv hQ
    have hv' : its[i]? = some v := by simpa using hv
    have hi : i < bs.length := by
      have := (List.getElem?_eq_some_iff.mp hv').1
      omega
    have hx : (bs.map V.bl)[i]? = some (V.bl bs[i]) := by rw [List.getElem?_map, List.getElem?_eq_getElem hi]; rfl
    obtain ⟨u, hu, ru⟩ := rv.get hx
    rw [hv'] at hu
    cases hu
    cases ru
    have e : bs.getD i false = bs[i] := by rw [List.getD_eq_getElem?_getD, List.getElem?_eq_getElem hi]; rfl
    have hQ' : Q' (bs.getD i false) s' := hQ
    rw [e] at hQ'
    exact wpAny_truthy_bool hQ'
  · intro h' tk hk
    have hw : ∀ b o, s.heap.get? b = some o → h'.get? b = some o := fun b o e => hk b o (by
      intro z
      have : b = s.heap.objs.size := by simpa using z
      subst this
      exact absurd (Heap.lt_size e) (Nat.lt_irrefl _)) (Heap.get?_push_of_some _ e)
    have e : (List.range its.toArray.size).all (fun i => bs.getD i false) = bs.all id := by
      rw [List.size_toArray, ← hlen]
      clear hlen hq rv q hz
      induction bs with
      | nil => rfl
      | cons b bs ih =>
        rw [List.length_cons, List.range_succ_eq_map, List.all_cons, List.all_map, List.all_cons]
        simp only [List.getD_cons_zero, id]
        congr 1
    rw [e]
    exact ⟨.bl _, H, I.kept hw, rfl, q⟩
theorem strsAre_of : ∀ {ys : List Str} {us : List Value}, Vals (ys.map V.str) us → StrsAre us ys
  | [], _, r => by cases r; exact .nil
  | y :: ys, _, r => by
    rw [List.map_cons] at r
    cases r with
    | cons r1 r2 =>
      obtain ⟨t, e⟩ := r1
      subst e
      exact .cons y t (strsAre_of r2)
def CDivB (i j : Int) : Prop := 0 < j ∧ j < 2 ^ 64
theorem op_fdivB : OpR X (binaryOp .FloorDiv) (rI CDivB fun i j => .int (i / j)) := opI fun i j _ _ _ _ _ hc q => by
  have h1 : (0 : Int) < j := hc.1
  have h2 : j < 2 ^ 64 := hc.2
  refine floordiv_int (by omega) (by rw [Int.fdiv_eq_ediv_of_nonneg i (by omega)]; exact q) (.inl (PyProof.noPylong_of_log2 ?_))
  have : j.natAbs.log2 < 64 := (Nat.log2_lt (by omega)).mpr (by omega)
  omega
end
end L2

namespace L2
open PySem PySem.Spec PyProof.Rows
def notStar : Expr → Bool
  | .Starred _ _ => false
  | _ => true
theorem star_cons {e : Expr} {es : List Expr} {env : Env} (h : notStar e = true) : starEach (e :: es) env = (false, eval e env) :: starEach es env := by
  cases e <;> first | rfl | exact absurd h Bool.false_ne_true
theorem back_any {pos : Pos} {env : Env} : ∀ {es : List Expr}, es.all notStar = true → (backTo pos (starEach es env)).any (·.1) = false
  | [], _ => rfl
  | e :: es, h => by
    rw [List.all_cons, Bool.and_eq_true] at h
    rw [star_cons h.1]
    show (false || (backTo pos (starEach es env)).any (·.1)) = false
    rw [back_any h.2]
    rfl
theorem back_all {pos : Pos} {env : Env} : ∀ {es : List Expr}, es.all notStar = true → (backTo pos (starEach es env)).all (fun x => !x.1) = true
  | [], _ => rfl
  | e :: es, h => by
    rw [List.all_cons, Bool.and_eq_true] at h
    rw [star_cons h.1]
    show (true && (backTo pos (starEach es env)).all (fun x => !x.1)) = true
    rw [back_all h.2]
    rfl
theorem all_head {e : Expr} {es : List Expr} (h : (e :: es).all notStar = true) : notStar e = true ∧ es.all notStar = true := by
  rw [List.all_cons, Bool.and_eq_true] at h
  exact h
section
variable {X : Cx} {e o : Expr} {es : List Expr} {te to : TE} {t : TA} {x name : Str} {p pos apos cpos : Pos} {id T : String} {r : List V → Hp → VK → Prop} {r3 : V → List V → Hp → VK → Prop}
theorem pac (ha : PE X e te) (hr : PA X es t) (hs : notStar e = true := by rfl) : PA X (e :: es) (tCons te t) := pa_cons ha hr (star_cons hs)
theorem pcB (hc : CallR X (.builtin id) r) (hg : Gl X x) (hm : X.mg x = none) (hv : bootBuiltins x = some (.builtin id)) (ha : PA X (e :: es) t) (hn : x ≠ "__name__" := by decide) (hdb : (x == ("__debug__" : Str)) = false := by decide)
    (hs : (e :: es).all notStar = true := by rfl) : PE X (.Call (.Name x p) (e :: es) [] pos) (tCB r t) := pe_callB hc hg hm hv ha hn hdb (star_cons (all_head hs).1) (back_any (all_head hs).2)
theorem pbm (pa : PlainAttrs T) (slot : Slot T name id) (hty : typeOf (.builtin id) = pure (.type "method_descriptor")) (hm : MtR X id r3) (ho : PE X o to) (ha : PA X (e :: es) t)
    (hs : (e :: es).all notStar = true := by rfl) (hl : decide ((e :: es).length < 30) = true := by rfl)
    (hbase : attributeBase o name X.env (eval o X.env) = eval o X.env := by rfl) (hline : (apos.endLine == cpos.line) = true := by rfl) :
    PE X (.Call (.Attribute o name apos) (e :: es) [] cpos) (tBM X.K T r3 to t) := by
  refine pe_bm pa slot hty hm ho ha hbase ?_ hline (star_cons (all_head hs).1) (back_any (all_head hs).2)
  rw [back_all hs]
  have h2 : (e :: es).length + ([] : List Keyword).length + (if ([] : List Keyword).isEmpty then 0 else 1) < 30 := by
    have := of_decide_eq_true hl
    simpa using this
  rw [decide_eq_true h2]
  rfl
end
def Callee (P : Program) (w : World) (K : PySem.W.Frag) (mg : Str → Option Value) (base : Heap) (k : Nat) (x : Str) (ps : List Str) (sp : Sp) : Prop :=
  ∃ f fd, FnOk P w K mg base CX0 k f fd ps sp ∧ Binds K fd ps [] ∧ PySem.W.keepIn K (.ref f) = true ∧ mg x = some (.ref f)
def Glo (mg : Str → Option Value) (x : Str) (v : V) : Prop := ∃ u, mg x = some u ∧ RelV v u
section
variable {X : Cx} {P : Program} {w : World} {K : PySem.W.Frag} {mg : Str → Option Value} {base : Heap} {k k' : Nat} {x : Str} {ps : List Str} {sp : Sp} {e : Expr} {es : List Expr} {t : TA} {p pos : Pos} {v : V}
theorem pe_fn (h : Callee P w K mg base k x ps sp) (hr : Room k' X.A) (hk : k ≤ k') (ha : PA X (e :: es) t) (hg : Gl X x := by rfl) (eP : X.prog = P := by rfl) (ew : X.w = w := by rfl) (eK : X.K = K := by rfl) (em : X.mg = mg := by rfl) (eb : X.base = base := by rfl)
    (hdb : (x == ("__debug__" : Str)) = false := by decide) (hs : (e :: es).all notStar = true := by rfl) :
    PE X (.Call (.Name x p) (e :: es) [] pos) (tCall sp [] E0 t) := by
  subst eP ew eK em eb
  obtain ⟨f, fd, F, hb, hkp, hm⟩ := h
  exact pe_call F (hr.mono hk) hg hm hkp hb .nil pass0 ha hdb (star_cons (all_head hs).1) (back_any (all_head hs).2)
theorem pe_glo (h : Glo mg x v) (hg : Gl X x := by rfl) (em : X.mg = mg := by rfl) (hd : (x == ("__debug__" : Str)) = false := by decide) : PE X (.Name x pos) (tC v) := by
  subst em
  obtain ⟨u, hm, r⟩ := h
  exact pe_glob hg hm r hd
end
section
variable {X : Cx}
end
end L2

namespace L2
open PySem PySem.Spec PyProof.Rows
section
variable {X : Cx} {pos pos' : Pos} {x : Str} {e : Expr} {te : TE} {tg l : Expr} {tl : TE}
theorem slot_of {N : List Str} {i : Nat} (hi : N.findIdx? (fun y => y == x) = some i) : N[i]? = some x := by
  obtain ⟨h1, h2, _⟩ := List.findIdx?_eq_some_iff_getElem.mp hi
  rw [List.getElem?_eq_getElem h1]
  exact congrArg some (eq_of_beq h2)
theorem pg_n {i : Nat} (hN : X.N.Nodup) (hi : X.N.findIdx? (fun y => y == x) = some i := by rfl) (hx : Loc X.env.scope x := by first | exact Or.inl rfl | exact Or.inr rfl) (hf : X.fn x = true ∨ X.env.scope.names.lookup x = some .local := by first | exact .inl rfl | exact .inr rfl) :
    PG X (.Name x pos) (gName i) := pg_name hN (slot_of hi) hx hf
theorem ps_n {i : Nat} (hN : X.N.Nodup) (he : PE X e te) (hi : X.N.findIdx? (fun y => y == x) = some i := by rfl) (hx : Loc X.env.scope x := by first | exact Or.inl rfl | exact Or.inr rfl) (hs : swapsWith e (some (.Name x pos')) pos.line X.env = pure false := by rfl)
    (hf : X.fn x = true ∨ X.env.scope.names.lookup x = some .local := by first | exact .inl rfl | exact .inr rfl) : PS X (.Assign [.Name x pos'] e pos) (tAsg te (gName i)) := ps_set hN (slot_of hi) hx he hs hf
end
end L2

namespace L2
open PySem PySem.Spec PyProof.Rows
mutual
inductive RdV (K : PySem.W.Frag) (H : Hp) : V → PyData → Prop
  | non : RdV K H .non .none
  | bl (b : Bool) : RdV K H (.bl b) (.bool b)
  | int (i : Int) : RdV K H (.int i) (.int i)
  | str (z : Str) : RdV K H (.str z) (.str z)
  | lst {a : Addr} {xs : List V} {ds : List PyData} : SqL K H a xs → RdVs K H xs ds → RdV K H (.ref a) (.list ds)
  | tup {a : Addr} {xs : List V} {ds : List PyData} : SqT K H a xs → RdVs K H xs ds → RdV K H (.ref a) (.tuple ds)
inductive RdVs (K : PySem.W.Frag) (H : Hp) : List V → List PyData → Prop
  | nil : RdVs K H [] []
  | cons {x : V} {d : PyData} {xs : List V} {ds : List PyData} : RdV K H x d → RdVs K H xs ds → RdVs K H (x :: xs) (d :: ds)
end
section
variable {X : Cx} {pins : List (Addr × Obj)} {σ : St} {H : Hp} {s : Shared}
mutual
theorem RdV.reads (I : Inv X pins σ H s) : ∀ {x : V} {d : PyData} {u : Value}, RdV X.K H x d → RelV x u → ∃ as, Reads s.heap u d as
  | _, _, _, .non, r => by cases r; exact ⟨_, .none⟩
  | _, _, _, .bl b, r => by cases r; exact ⟨_, .bool b⟩
  | _, _, _, .int i, r => by obtain ⟨t, rfl⟩ := r; exact ⟨_, .int i t⟩
  | _, _, _, .str z, r => by obtain ⟨t, rfl⟩ := r; exact ⟨_, .str z t⟩
  | _, _, _, .lst hq hs, r => by
    cases r
    obtain ⟨its, rv, p, hz⟩ := I.list hq
    obtain ⟨as, h⟩ := RdVs.reads I hs rv
    obtain ⟨o, ho, hc, n, hd⟩ := p.isList
    exact ⟨_, .list ho hc hd (by simpa using h)⟩
  | _, _, _, .tup hq hs, r => by
    cases r
    obtain ⟨its, rv, p, hz⟩ := I.tuple hq
    obtain ⟨as, h⟩ := RdVs.reads I hs rv
    obtain ⟨o, ho, hc, n, hd⟩ := p
    exact ⟨_, .tuple ho hc hd (by simpa using h)⟩
theorem RdVs.reads (I : Inv X pins σ H s) : ∀ {xs : List V} {ds : List PyData} {us : List Value}, RdVs X.K H xs ds → Vals xs us → ∃ as, ReadsAll s.heap us ds as
  | _, _, _, .nil, r => by cases r; exact ⟨_, .nil⟩
  | _, _, _, .cons h hs, r => by
    cases r with
    | cons r1 r2 =>
      obtain ⟨as, h1⟩ := RdV.reads I h r1
      obtain ⟨bs, h2⟩ := RdVs.reads I hs r2
      exact ⟨_, .cons h1 h2⟩
end
end
theorem Same.seqT {K : PySem.W.Frag} {H H' : Hp} {a : Addr} {xs : List V} (e : Same H H') (h : SqT K H a xs) : SqT K H' a xs := by
  rcases h with (h | ⟨o, h⟩) | h
  · exact .inl (.inl (e _ _ h))
  · exact .inl (.inr ⟨o, e _ _ h⟩)
  · exact .inr h
mutual
theorem RdV.same {K : PySem.W.Frag} {H H' : Hp} (e : Same H H') : ∀ {x : V} {d : PyData}, RdV K H x d → RdV K H' x d
  | _, _, .non => .non
  | _, _, .bl b => .bl b
  | _, _, .int i => .int i
  | _, _, .str z => .str z
  | _, _, .lst hq hs => .lst (e.seq hq) (RdVs.same e hs)
  | _, _, .tup hq hs => .tup (e.seqT hq) (RdVs.same e hs)
theorem RdVs.same {K : PySem.W.Frag} {H H' : Hp} (e : Same H H') : ∀ {xs : List V} {ds : List PyData}, RdVs K H xs ds → RdVs K H' xs ds
  | _, _, .nil => .nil
  | _, _, .cons h hs => .cons (RdV.same e h) (RdVs.same e hs)
end
section
variable {X : Cx}
def rEqD (K : PySem.W.Frag) (neg : Bool) : R2 := fun x y H Q => ∃ d e, RdV K H x d ∧ RdV K H y e ∧ SeqAt.shaped d = true ∧ SeqAt.shaped e = true ∧ Q (.bl (if neg = true then !PyData.eqv d e else PyData.eqv d e)) H
theorem op_eqD (hu : X.A.units + 64 < cLine) : OpR X (compareOp .Eq) (rEqD X.K false) := by
  intro pins s σ H x y v u Q I rx ry h
  obtain ⟨d, e, h1, h2, s1, s2, q⟩ := h
  obtain ⟨as, r1⟩ := h1.reads I rx
  obtain ⟨bs, r2⟩ := h2.reads I ry
  exact eq_dataH r1 r2 s1 s2 hu ⟨.bl _, H, I, rfl, q⟩
theorem op_neD (hu : X.A.units + 64 < cLine) : OpR X (compareOp .NotEq) (rEqD X.K true) := by
  intro pins s σ H x y v u Q I rx ry h
  obtain ⟨d, e, h1, h2, s1, s2, q⟩ := h
  obtain ⟨as, r1⟩ := h1.reads I rx
  obtain ⟨bs, r2⟩ := h2.reads I ry
  exact ne_dataH r1 r2 s1 s2 hu ⟨.bl _, H, I, rfl, q⟩
end
end L2

namespace L2
open PySem PySem.Spec PyProof.Rows

end L2

namespace L2
open PySem PySem.Spec PyProof.Rows

section
variable (P : Program) (w : World)
end

section
variable {P : Program} {w : World} {H H' : Hp} {h h' : Heap} {a : Addr} {o : HO}
end

section
variable {P : Program} {w : World} {H : Hp} {h h' : Heap} {x e : Addr} {o' : HO}
end

section
variable {fs fs' ex ex' : List Addr} {H H1 H2 : Hp} {h h1 h2 h' : Heap} {a x e : Addr} {o : HO}
end

end L2

namespace L2
open PySem PySem.Spec PyProof.Rows

section
variable {X : Cx} {pins : List (Addr × Obj)} {σ : List (Option V)} {H H' : Hp} {s : Shared} {h' : Heap}

end

end L2

namespace L2
open PySem PySem.Spec PyProof.Rows
section
variable {X : Cx}

variable {a b : Expr} {ta tb : TE} {pos : Pos}
variable {tA tB' : TT} {rest : List Expr}
end
end L2

namespace L2
open PySem PySem.Spec PyProof.Rows

section
variable {X : Cx} {pins : List (Addr × Obj)} {σ : St} {H : Hp} {s : Shared} {a : Addr} {xs ys : List V}
end

section
variable {X : Cx} {pins : List (Addr × Obj)} {σ : St} {H : Hp} {s : Shared} {E : Value → Shared → Prop}
end

section
variable {X : Cx} {st : Stmt} {rest : List Stmt} {t u : TS} {e : Expr} {te : TE} {pos : Pos}
end

section
variable {X : Cx} {pos : Pos}
end

section
variable {X : Cx} {pos : Pos}
end

end L2

namespace L2
open PySem PySem.Spec PyProof.Rows
section
variable {X : Cx} {tg : Expr}
end

end L2

namespace L2
open PySem PySem.Spec PyProof.Rows

section
variable {X : Cx} {a b c : Expr} {ta tb tc : TE} {pos : Pos}

end

section
variable {X : Cx} {a b c : Expr} {ta tb tc : TE} {pos : Pos}
end
end L2

namespace L2
open PySem PySem.Spec PyProof.Rows

section
variable {prog : Program} {w : World} {A : Around} {E : Value → Shared → Prop} {s : Shared} {K : PySem.W.Frag} {x dx C f : Addr} {mA : Str → Option Value} {name : Str} {v : Value}

end

section
variable {P : Program} {w : World} {H H' : Hp} {h h' : Heap} {a C dx : Addr} {fs fs' : List (Str × V)}
end

section
variable {X : Cx} {pins : List (Addr × Obj)} {σ : St} {H : Hp} {s : Shared} {a C dx : Addr} {fs : List (Str × V)} {f : Str} {v : V} {A : Around} {E : Value → Shared → Prop}

end

section
variable {X : Cx} {o e value : Expr} {f : Str} {pos pos' tpos : Pos} {ta tv : TE}
end

section
variable {X : Cx} {pins : List (Addr × Obj)} {σ : St} {H : Hp} {s : Shared} {A : Around} {E : Value → Shared → Prop} {Q : Value → Shared → Prop} {c : Value} {b : Bool}
end
end L2

namespace L2
open PySem PySem.Spec PyProof.Rows

section
variable {X : Cx} {e : Expr} {es : List Expr} {te : TE} {t : TA} {pos : Pos}
end

section
variable {X : Cx} {pins : List (Addr × Obj)} {σ : St} {H : Hp} {s s' : Shared}
end

section
variable {X : Cx} {CX : CXT} {k : Nat} {f C : Addr} {fd : FuncData} {ps : List Str} {sp : Sp} {dvs : List V} {ds : List Value} {E : XK} {x m : Str} {p pos apos : Pos} {e o : Expr} {es : List Expr} {ta : TE} {t : TA}

end

section
variable {X : Cx} {CX : CXT} {k : Nat} {f C : Addr} {fd : FuncData} {ps ks : List Str} {sp : Sp} {E : XK} {x m : Str} {p pos apos kpos : Pos} {e o : Expr} {es : List Expr} {kws : List Keyword} {te ta : TE} {t tk : TA} {nm : Option Str}
variable {g : List Value → List Value → List Value} {gV : List V → List V → List V}
end

end L2

namespace L2
open PySem PySem.Spec PyProof.Rows
section
variable {X : Cx} {x : Str} {p pos : Pos} {e : Expr} {es : List Expr} {t : TA} {id T : String} {r : List V → Hp → VK → Prop}

end
end L2

namespace L2
open PySem PySem.Spec PyProof.Rows

section
variable {κ : Type} [DecidableEq κ]
def valV (kvs : List (κ × V)) (k : κ) : Option V := (kvs.find? fun kv => decide (kv.1 = k)).map (·.2)
def putK (kvs : List (κ × V)) (k : κ) (v : V) : List (κ × V) :=
  if (kvs.any fun kv => decide (kv.1 = k)) = true then kvs.map (fun kv => if kv.1 = k then (kv.1, v) else kv) else kvs ++ [(k, v)]
theorem valV_pos {p : κ × V} {r : List (κ × V)} {k : κ} (e : p.1 = k) : valV (p :: r) k = some p.2 := by simp [valV, List.find?_cons, e]
theorem valV_neg {p : κ × V} {r : List (κ × V)} {k : κ} (e : ¬ p.1 = k) : valV (p :: r) k = valV r k := by simp [valV, List.find?_cons, e]
theorem valV_any (k : κ) : ∀ kvs : List (κ × V), (kvs.any fun kv => decide (kv.1 = k)) = (valV kvs k).isSome
  | [] => rfl
  | p :: r => by
    rw [List.any_cons]
    by_cases e : p.1 = k
    · simp only [valV_pos e, decide_eq_true e, Bool.true_or, Option.isSome_some]
    · rw [valV_neg e, decide_eq_false e, Bool.false_or]; exact valV_any k r
theorem length_putK (kvs : List (κ × V)) (k : κ) (v : V) : (putK kvs k v).length ≤ kvs.length + 1 := by
  unfold putK
  split
  · rw [List.length_map]; omega
  · rw [List.length_append, List.length_cons, List.length_nil]; omega
theorem RelO.isSome_eq {o : Option V} {u : Option Value} (r : RelO o u) : o.isSome = u.isSome := by
  cases o with
  | none => cases u with
    | none => rfl
    | some _ => exact (show False from r).elim
  | some _ => cases u with
    | none => exact (show False from r).elim
    | some _ => rfl
theorem RelO.getD {o : Option V} {u : Option Value} {d : V} {d' : Value} (r : RelO o u) (rd : RelV d d') : RelV (o.getD d) (u.getD d') := by
  cases o with
  | none => cases u with
    | none => exact rd
    | some _ => exact (show False from r).elim
  | some _ => cases u with
    | none => exact (show False from r).elim
    | some _ => exact r

theorem KV.val {kvs : List (κ × V)} {vs : List (κ × Value)} (r : KV kvs vs) (k : κ) : RelO (valV kvs k) (valueAt vs k) := by
  unfold KV at r
  induction r with
  | nil => exact True.intro
  | @cons p q ps qs h t ih =>
    obtain ⟨h1, h2⟩ := h
    by_cases e : p.1 = k
    · have e' : q.1 = k := h1.symm.trans e
      have b : valueAt (q :: qs) k = some q.2 := by simp [valueAt, List.find?_cons, e']
      rw [valV_pos e, b]; exact h2
    · have e' : ¬ q.1 = k := fun z => e (h1.trans z)
      have b : valueAt (q :: qs) k = valueAt qs k := by simp [valueAt, List.find?_cons, e']
      rw [valV_neg e, b]; exact ih
theorem KV.any {kvs : List (κ × V)} {vs : List (κ × Value)} (r : KV kvs vs) (k : κ) : (kvs.any fun kv => decide (kv.1 = k)) = vs.any fun kv => decide (kv.1 = k) := by
  unfold KV at r
  induction r with
  | nil => rfl
  | cons h t ih => rw [List.any_cons, List.any_cons, ih, h.1]
theorem KV.repl {kvs : List (κ × V)} {vs : List (κ × Value)} (r : KV kvs vs) (k : κ) {y : V} {u : Value} (ry : RelV y u) :
    KV (kvs.map fun kv => if kv.1 = k then (kv.1, y) else kv) (vs.map fun kv => if kv.1 = k then (kv.1, u) else kv) := by
  unfold KV at r ⊢
  induction r with
  | nil => exact .nil
  | @cons p q ps qs h t ih =>
    rw [List.map_cons, List.map_cons]
    refine .cons ?_ ih
    obtain ⟨h1, h2⟩ := h
    by_cases e : p.1 = k
    · rw [if_pos e, if_pos (h1.symm.trans e)]; exact ⟨h1, ry⟩
    · rw [if_neg e, if_neg (fun z => e (h1.trans z))]; exact ⟨h1, h2⟩
theorem KV.put {kvs : List (κ × V)} {vs : List (κ × Value)} (r : KV kvs vs) (k : κ) {y : V} {u : Value} (ry : RelV y u) : KV (putK kvs k y) (stored vs k u) := by
  unfold putK stored
  rw [r.any k]
  by_cases e : (vs.any fun kv => decide (kv.1 = k)) = true
  · rw [if_pos e, if_pos e]; exact r.repl k ry
  · rw [if_neg e, if_neg e]; exact Paired.snoc r ⟨rfl, ry⟩
theorem KV.length {kvs : List (κ × V)} {vs : List (κ × Value)} (r : KV kvs vs) : kvs.length = vs.length := Paired.length r
end


theorem kV_is {P : Program} {w : World} {k : Key} {u : Value} (r : RelV (kV k) u) : (mixKind P w).is k u = true := by
  cases k with
  | inl i => obtain ⟨t, e⟩ := (show ∃ t, u = Value.int i t from r); subst e; exact mixKind_int P w i t
  | inr x => obtain ⟨t, e⟩ := (show ∃ t, u = Value.str x t from r); subst e; exact mixKind_str P w x t
theorem items_are {P : Program} {w : World} : ∀ {ks : List Key} {us : List Value}, Vals (ks.map kV) us → ItemsAre (mixKind P w) ks us
  | [], _, r => by rw [List.map_nil] at r; cases r; exact .nil
  | k :: ks, _, r => by
    rw [List.map_cons] at r
    cases r with
    | cons h t => exact .cons (kV_is h) (items_are t)

abbrev KT (H : Hp) : List (List Key × V) → List (List Key × Addr × Value) → Prop := Paired fun p q => p.1 = q.1 ∧ H q.2.1 = some (.tup (p.1.map kV)) ∧ RelV p.2 q.2.2
theorem KT.val {H : Hp} {kvs : List (List Key × V)} {xs : List (List Key × Addr × Value)} (r : KT H kvs xs) (k : List Key) : RelO (valV kvs k) ((atKey xs k).map (·.2)) := by
  induction r with
  | nil => exact True.intro
  | @cons p q ps qs h t ih =>
    obtain ⟨h1, _, h2⟩ := h
    by_cases e : p.1 = k
    · have e' : q.1 = k := h1.symm.trans e
      have b : atKey (q :: qs) k = some q.2 := by simp [atKey, List.find?_cons, e']
      rw [valV_pos e, b]; exact h2
    · have e' : ¬ q.1 = k := fun z => e (h1.trans z)
      have b : atKey (q :: qs) k = atKey qs k := by simp [atKey, List.find?_cons, e']
      rw [valV_neg e, b]; exact ih
theorem KT.repl {H : Hp} {kvs : List (List Key × V)} {xs : List (List Key × Addr × Value)} (r : KT H kvs xs) (k : List Key) {y : V} {u : Value} (ry : RelV y u) :
    KT H (kvs.map fun kv => if kv.1 = k then (kv.1, y) else kv) (xs.map (putAt k u)) := by
  induction r with
  | nil => exact .nil
  | @cons p q ps qs h t ih =>
    rw [List.map_cons, List.map_cons]
    refine .cons ?_ ih
    obtain ⟨h1, h2, h3⟩ := h
    unfold putAt
    by_cases e : p.1 = k
    · rw [if_pos e, if_pos (h1.symm.trans e)]; exact ⟨h1, h2, ry⟩
    · rw [if_neg e, if_neg (fun z => e (h1.trans z))]; exact ⟨h1, h2, h3⟩
theorem KT.put {H : Hp} {kvs : List (List Key × V)} {xs : List (List Key × Addr × Value)} (r : KT H kvs xs) (k : List Key) {b : Addr} {y : V} {u : Value} (hb : H b = some (.tup (k.map kV))) (ry : RelV y u) :
    KT H (putK kvs k y) (storedH xs k b u) := by
  have e : (kvs.any fun kv => decide (kv.1 = k)) = (atKey xs k).isSome := by
    rw [valV_any, (r.val k).isSome_eq, Option.isSome_map]
  unfold putK storedH
  rw [e]
  by_cases q : (atKey xs k).isSome = true
  · rw [if_pos q, if_pos q]; exact r.repl k ry
  · rw [if_neg q, if_neg q]; exact Paired.snoc r ⟨rfl, hb, ry⟩
theorem KT.keeps {H H' : Hp} {kvs : List (List Key × V)} {xs : List (List Key × Addr × Value)} (r : KT H kvs xs) (ht : ∀ b ys, H b = some (.tup ys) → H' b = some (.tup ys)) : KT H' kvs xs :=
  Paired.mapP r fun _ _ z => ⟨z.1, ht _ _ z.2.1, z.2.2⟩

section
variable {P : Program} {w : World} {H : Hp} {h : Heap} {a : Addr}
theorem rd_of {u : HO} (ok : HOk P w H h) (e : Rd H a u) : ObjOk P w H h a u := e.ok ok
theorem dk_rd {kvs : List (Key × V)} (ok : HOk P w H h) (e : Rd H a (.dK kvs)) : kvs.length ≤ sizeLine ∧ (a == sysModules) = false ∧ ∃ vs, KV kvs vs ∧ h.DictOf (mixKind P w) a vs :=
  show ObjOk P w H h a (.dK kvs) from rd_of ok e
theorem dk_of {kvs : List (Key × V)} (ok : HOk P w H h) (e : H a = some (.dK kvs)) : kvs.length ≤ sizeLine ∧ (a == sysModules) = false ∧ ∃ vs, KV kvs vs ∧ h.DictOf (mixKind P w) a vs := dk_rd ok (.inl e)
theorem key_of {ks : List Key} (ok : HOk P w H h) (e : H a = some (.tup (ks.map kV))) : (tupleKind (mixKind P w)).is h ks a := by
  obtain ⟨_, its, r, o, h1, h2, n, h3⟩ := (show ObjOk P w H h a (.tup (ks.map kV)) from ok a _ e)
  exact ⟨o, its.toArray, n, h1, h2, h3, by simpa using items_are r⟩
theorem dt_rd {kvs : List (List Key × V)} (ok : HOk P w H h) (e : Rd H a (.dT kvs)) : kvs.length ≤ sizeLine ∧ (a == sysModules) = false ∧
    ∃ xs, KT H kvs xs ∧ h.DictOfH (tupleKind (mixKind P w)) a xs := by
  obtain ⟨z, y, xs, r, o, es, ep, h1, h2, h3, h4, h5⟩ := (show ObjOk P w H h a (.dT kvs) from rd_of ok e)
  refine ⟨z, y, xs, r, o, es, ep, h1, h2, h3, h4, fun x hx => ?_, h5⟩
  have all : ∀ {l : List (List Key × V)} {m : List (List Key × Addr × Value)}, KT H l m → ∀ x ∈ m, (tupleKind (mixKind P w)).is h x.1 x.2.1 := by
    intro l m q
    induction q with
    | nil => intro x hx; exact nomatch hx
    | @cons p q ps qs hq t ih =>
      intro x hx
      rcases List.mem_cons.mp hx with e | hx
      · subst e
        exact key_of ok (by rw [← hq.1]; exact hq.2.1)
      · exact ih x hx
  exact all r x hx
theorem dt_of {kvs : List (List Key × V)} (ok : HOk P w H h) (e : H a = some (.dT kvs)) : kvs.length ≤ sizeLine ∧ (a == sysModules) = false ∧
    ∃ xs, KT H kvs xs ∧ h.DictOfH (tupleKind (mixKind P w)) a xs := dt_rd ok (.inl e)
end

def DGet (H : Hp) (a : Addr) (y : V) (r : Option V) : Prop :=
  (∃ kvs k, Rd H a (.dK kvs) ∧ y = kV k ∧ r = valV kvs k) ∨ ∃ kvs k b, Rd H a (.dT kvs) ∧ y = .ref b ∧ H b = some (.tup (k.map kV)) ∧ r = valV kvs k
def DPut (H : Hp) (a : Addr) (y v : V) (H' : Hp) : Prop :=
  (∃ kvs k, H a = some (.dK kvs) ∧ y = kV k ∧ kvs.length < sizeLine ∧ H' = upd H a (.dK (putK kvs k v))) ∨
  ∃ kvs k b, H a = some (.dT kvs) ∧ y = .ref b ∧ H b = some (.tup (k.map kV)) ∧ kvs.length < sizeLine ∧ H' = upd H a (.dT (putK kvs k v))
theorem DGet.k {H : Hp} {a : Addr} {kvs : List (Key × V)} {k : Key} (e : H a = some (.dK kvs)) : DGet H a (kV k) (valV kvs k) := .inl ⟨kvs, k, .inl e, rfl, rfl⟩
theorem DPut.k {H : Hp} {a : Addr} {kvs : List (Key × V)} {k : Key} {v : V} (e : H a = some (.dK kvs)) (hl : kvs.length < sizeLine) : DPut H a (kV k) v (upd H a (.dK (putK kvs k v))) := .inl ⟨kvs, k, e, rfl, hl, rfl⟩
section
variable {X : Cx} {pins : List (Addr × Obj)} {σ : St} {H : Hp} {s : Shared} {a : Addr} {y v : V} {u r : Value} {o : Option V} {A : Around} {E : Value → Shared → Prop}

theorem Inv.big (I : Inv X pins σ H s) : sysModules < s.heap.objs.size := by
  have h : mainGlobals < s.heap.objs.size := (I.mod.glob.keeps I.bk).lt
  exact Nat.lt_trans (by decide) h

theorem d_getItem {Q : Value → Shared → Prop} (hu : A.units + 1 < cLine) (I : Inv X pins σ H s) (g : DGet H a y (some v)) (ry : RelV y u) (h : ∀ w' s', Inv X pins σ H s' → RelV v w' → Q w' s') :
    wpAny (model X.prog X.w) A (getItem (.ref a) u) Q E s := by
  rcases g with ⟨kvs, k, e, ey, l⟩ | ⟨kvs, k, b, e, ey, eb, l⟩
  · subst ey
    obtain ⟨z, hd, vs, rel, dd⟩ := dk_rd I.hok e
    obtain ⟨w', hw, rw'⟩ := RelO.some_of (v := v) (o := valueAt vs k) (by rw [l]; exact rel.val k)
    exact wpAny_getItem_of (kV_is ry) dd.mapOf hw (h w' _ (I.tok _) rw')
  · subst ey
    cases (show u = Value.ref b from ry)
    obtain ⟨z, hd, xs, rel, dd⟩ := dt_rd I.hok e
    obtain ⟨w', hw, rw'⟩ := RelO.some_of (v := v) (o := (atKey xs k).map (·.2)) (by rw [l]; exact rel.val k)
    obtain ⟨p, hp, hp2⟩ := Option.map_eq_some_iff.mp hw
    refine wpAny_getItem_heap (tupleKind_room_in1 hu) (key_of I.hok eb) dd hp ?_
    rw [hp2]
    exact h w' _ (I.tok _) rw'
theorem d_in {Q : Value → Shared → Prop} (hu : A.units + 1 < cLine) (I : Inv X pins σ H s) (g : DGet H a y o) (ry : RelV y u) (h : ∀ s', Inv X pins σ H s' → Q (.bool o.isSome) s') :
    wpAny (model X.prog X.w) A (compareOp .In u (.ref a)) Q E s := by
  rcases g with ⟨kvs, k, e, ey, l⟩ | ⟨kvs, k, b, e, ey, eb, l⟩
  · subst ey
    obtain ⟨z, hd, vs, rel, dd⟩ := dk_rd I.hok e
    refine wpAny_in_of (kV_is ry) hd dd.mapOf ?_
    rw [← (rel.val k).isSome_eq, ← l]
    exact h _ (I.tok _)
  · subst ey
    cases (show u = Value.ref b from ry)
    obtain ⟨z, hd, xs, rel, dd⟩ := dt_rd I.hok e
    refine wpAny_in_heap (tupleKind_room_in1 hu) (key_of I.hok eb) hd dd ?_
    have q := (rel.val k).isSome_eq
    rw [Option.isSome_map] at q
    rw [← q, ← l]
    exact h _ (I.tok _)
theorem d_write {h' : Heap} {t' : Nat} {ob : HO} (I : Inv X pins σ H s) (mu : Mut (H a)) (hs : Heap.SameBut a s.heap h') (he : ∃ q, h'.get? a = some q) (new : ObjOk X.prog X.w (upd H a ob) h' a ob) :
    Inv X pins σ (upd H a ob) { s with heap := h', toks := t' } :=
  I.write (x := a) (e := a) mu (.inl rfl) (fun b q hb z => (hs.2 b hb).trans z) he new
theorem dk_new {P : Program} {w : World} {H' : Hp} {h' : Heap} {kvs : List (Key × V)} {vs : List (Key × Value)} (z : kvs.length ≤ sizeLine) (hd : (a == sysModules) = false) (rel : KV kvs vs) (dd : h'.DictOf (mixKind P w) a vs) :
    ObjOk P w H' h' a (.dK kvs) := ⟨z, hd, vs, rel, dd⟩
theorem d_setItem {H' : Hp} {Q : Unit → Shared → Prop} (hu : A.units + 1 < cLine) (I : Inv X pins σ H s) (g : DPut H a y v H') (ry : RelV y u) (rv : RelV v r) (h : ∀ s', Inv X pins σ H' s' → Q () s') :
    wpAny (model X.prog X.w) A (setItem (.ref a) u r) Q E s := by
  rcases g with ⟨kvs, k, e, ey, l, eH⟩ | ⟨kvs, k, b, e, ey, eb, l, eH⟩
  · subst ey eH
    obtain ⟨z, hd, vs, rel, dd⟩ := dk_of I.hok e
    have hz : vs.length ≤ sizeLine := by rw [← rel.length]; exact z
    have hl : (putK kvs k v).length ≤ sizeLine := by have := length_putK kvs k v; omega
    refine wpAny_setItem_pairs (hsz := hz) (kV_is ry) dd fun h' dd' hs => h _ ?_
    have he : ∃ q, h'.get? a = some q := let ⟨q, _, _, hq, _⟩ := dd'; ⟨q, hq⟩
    exact d_write I (by rw [e]; exact True.intro) hs he (dk_new hl hd (rel.put k rv) dd')
  · subst ey eH
    cases (show u = Value.ref b from ry)
    obtain ⟨z, hd, xs, rel, dd⟩ := dt_of I.hok e
    have hz : xs.length ≤ sizeLine := by rw [← Paired.length rel]; exact z
    have hl : (putK kvs k v).length ≤ sizeLine := by have := length_putK kvs k v; omega
    refine wpAny_setItem_heap (hsz := hz) (tupleKind_room_in1 hu) (key_of I.hok eb) dd fun h' dd' hs => h _ ?_
    obtain ⟨q, es, ep, hq, h2, h3, h4, _, h5⟩ := dd'
    refine d_write I (by rw [e]; exact True.intro) hs ⟨q, hq⟩ ⟨hl, hd, _, (rel.put k eb rv).keeps fun c ys ec => ?_, q, es, ep, hq, h2, h3, h4, h5⟩
    rw [upd_ne (ne_of ec e (fun z => nomatch z))]
    exact ec
end

section
variable {X : Cx} {pins : List (Addr × Obj)} {σ : St} {H : Hp} {s : Shared} {a : Addr} {kvs : List (Key × V)} {k : Key} {u : Value} {A : Around} {E : Value → Shared → Prop}
end


def NoSl (i : Expr) : Prop := ∀ ov iv, subscripted i false ov iv = operate [ov, iv] (getItem ov iv)
theorem subD_of {prog : Program} {w : World} {A : Around} {E : Value → Shared → Prop} {s : Shared} {env : Env} {value slice : Expr} {pos : Pos} {T id : String} {Q : Value → Shared → Prop}
    (hl : typeLookup (.type T) "__getitem__" = pure (some (.builtin id))) (hs : NoSl slice)
    (h : wpAny (model prog w) A (eval value env) (fun o s₁ => wpAny (model prog w) A (eval slice env) (fun i s₂ => s₂.TypeIs o T ∧ wpAny (model prog w) A (getItem o i) Q E s₂) E s₁) E s) :
    wpAny (model prog w) A (eval (.Subscript value slice pos) env) Q E s := by
  refine Subscript_ (wpAny_mono h (fun o s₁ h₁ => wpAny_mono h₁ (fun i s₂ h₂ => ?_) fun _ _ x => x) fun _ _ x => x)
  obtain ⟨hT, h₂⟩ := h₂
  unfold subscriptTail
  refine wpAny_bind ?_
  rw [getitemInPython_of_ne hT.not_modules]
  refine wpAny_bind (wpAny_specialOf hT hl ?_)
  have fin : wpAny (model prog w) A (subscripted slice false o i) (fun r s₃ => wpAny (model prog w) A (letTemporaryGo value o r >>= fun _ => pure r) Q E s₃) E s₂ := by
    rw [hs o i]
    exact wpAny_operating (wpAny_mono h₂ (fun r s₃ h₃ => wpAny_bind (wpAny_letTemporaryGo (wpAny_pure h₃))) fun _ _ x => x)
  first
    | exact wpAny_pure (wpAny_bind fin)
    | exact wpAny_bind (wpAny_pure (wpAny_bind fin))
    | exact wpAny_bind fin

theorem dict_typeIs {X : Cx} {pins : List (Addr × Obj)} {σ : St} {H : Hp} {s : Shared} {a : Addr} {y : V} {o : Option V} (I : Inv X pins σ H s) (g : DGet H a y o) : s.TypeIs (.ref a) "dict" := by
  rcases g with ⟨kvs, k, e, _, _⟩ | ⟨kvs, k, b, e, _, _, _⟩
  · obtain ⟨_, _, vs, _, dd⟩ := dk_rd I.hok e
    exact dd.typeIs
  · obtain ⟨_, _, xs, _, dd⟩ := dt_rd I.hok e
    exact dd.typeIs
def tDGet (td ty : TE) : TE := fun σ H Q => td σ H fun x H1 => ty σ H1 fun y H2 => ∃ a v, x = .ref a ∧ DGet H2 a y (some v) ∧ Q v H2
def sDPut (td ty tv : TE) : TS := fun D σ H => tv σ H fun v H1 => td σ H1 fun x H2 => ty σ H2 fun y H3 => ∃ a H4, x = .ref a ∧ DPut H3 a y v H4 ∧ D.nx σ H4
section
variable {X : Cx} {o i e value : Expr} {pos pos' tpos : Pos} {td ty tv : TE}
theorem pe_dget (hu : X.A.units + 1 < cLine) (ho : PE X o td) (hi : PE X i ty) (hs : NoSl i) : PE X (.Subscript o i pos) (tDGet td ty) := by
  intro pins s σ H Q I h
  refine subD_of PySem.F.slot_dict_getitem.lookup hs (thn (ho pins s σ H _ I h) fun u s1 ⟨x, H1, I1, rx, q1⟩ => thn (hi pins s1 σ H1 _ I1 q1) fun iv s2 ⟨y, H2, I2, ry, a, v, ex, g, q2⟩ => ?_)
  subst ex
  obtain rfl : u = Value.ref a := rx
  exact ⟨dict_typeIs I2 g, d_getItem hu I2 g ry fun w' s3 I3 rw' => ⟨v, H2, I3, rw', q2⟩⟩
theorem ps_dput (hu : X.A.units + 1 < cLine) (ho : PE X o td) (hi : PE X i ty) (hv : PE X value tv) (hs : swapsWith value (some (.Subscript o i pos')) pos.line X.env = pure false) :
    PS X (.Assign [.Subscript o i pos'] value pos) (sDPut td ty tv) := by
  intro pins s σ H D I h
  refine wpAny_Assign_Subscript (thn (hv pins s σ H _ I h) fun r s1 ⟨v, H1, I1, rv, q1⟩ => thn (ho pins s1 σ H1 _ I1 q1) fun u s2 ⟨x, H2, I2, rx, q2⟩ => thn (hi pins s2 σ H2 _ I2 q2) fun iv s3 ⟨y, H3, I3, ry, a, H4, ex, g, q3⟩ => ?_) hs
  subst ex
  obtain rfl : u = Value.ref a := rx
  exact d_setItem hu I3 g ry rv fun s4 I4 => ⟨σ, H4, I4, q3⟩
end


theorem dk_empty {P : Program} {w : World} {H : Hp} (h : Heap) (hb : sysModules < h.objs.size) : ObjOk P w H (h.push { cls := .type "dict", data := .dict #[] }) h.objs.size (.dK []) :=
  ⟨Nat.zero_le _, beq_eq_false_iff_ne.mpr (Ne.symm (Nat.ne_of_lt hb)), [], .nil, Heap.DictOf.new h⟩
section
variable {X : Cx} {pos : Pos}
end

def tPairs : List (TE × TE) → St → Hp → (List (V × V) → Hp → Prop) → Prop
  | [], _, H, Q => Q [] H
  | (tk, tv) :: r, σ, H, Q => tk σ H fun x H1 => tv σ H1 fun y H2 => tPairs r σ H2 fun ps H3 => Q ((x, y) :: ps) H3
abbrev VV : List (V × V) → List (Value × Value) → Prop := Paired fun p q => RelV p.1 q.1 ∧ RelV p.2 q.2
def PPs (X : Cx) (pos : Pos) (keys : List (Option Expr)) (values : List Expr) (trs : List (TE × TE)) : Prop :=
  ∀ (pins : List (Addr × Obj)) (s : Shared) (σ : St) (H : Hp) (Q : List (V × V) → Hp → Prop), Inv X pins σ H s → tPairs trs σ H Q →
    wpAny (model X.prog X.w) X.A (evalPairs (pairTrees keys values X.env pos)) (fun vs s' => ∃ ps H', Inv X pins σ H' s' ∧ VV ps vs ∧ Q ps H') X.xe s
theorem pps_nil {X : Cx} {pos : Pos} : PPs X pos [] [] [] := fun pins s σ H Q I h => pairTrees_nil_walk ⟨[], H, I, .nil, h⟩
theorem pps_cons {X : Cx} {pos : Pos} {k v : Expr} {ks : List (Option Expr)} {vs : List Expr} {tk tv : TE} {trs : List (TE × TE)} (hk : PE X k tk) (hv : PE X v tv) (hr : PPs X pos ks vs trs) :
    PPs X pos (some k :: ks) (v :: vs) ((tk, tv) :: trs) := fun pins s σ H Q I h =>
  pairTrees_cons_walk (thn (hk pins s σ H _ I h) fun u s1 ⟨x, H1, I1, rx, q1⟩ => thn (hv pins s1 σ H1 _ I1 q1) fun w2 s2 ⟨y, H2, I2, ry, q2⟩ =>
    thn (hr pins s2 σ H2 _ I2 q2) fun ws s3 ⟨ps, H3, I3, rel, q3⟩ => ⟨(x, y) :: ps, H3, I3, .cons ⟨rx, ry⟩ rel, q3⟩)

def mergeK (kvs more : List (Key × V)) : List (Key × V) := more.foldl (fun acc kv => putK acc kv.1 kv.2) kvs
theorem KV.merge : ∀ {more : List (Key × V)} {rs : List (Key × Value)} {kvs : List (Key × V)} {vs : List (Key × Value)}, KV more rs → KV kvs vs → KV (mergeK kvs more) (merged vs rs) := by
  intro more rs kvs vs r
  unfold KV at r
  induction r generalizing kvs vs with
  | nil => intro q; exact q
  | @cons p q ps qs h t ih =>
    intro r0
    have e : KV (putK kvs p.1 p.2) (stored vs q.1 q.2) := by
      have := r0.put p.1 h.2
      rw [← h.1]; exact this
    exact ih e
theorem length_mergeK : ∀ (more kvs : List (Key × V)), (mergeK kvs more).length ≤ kvs.length + more.length
  | [], kvs => by show kvs.length ≤ kvs.length + 0; omega
  | p :: r, kvs => by
    have h1 := length_mergeK r (putK kvs p.1 p.2)
    have h2 := length_putK kvs p.1 p.2
    show (mergeK (putK kvs p.1 p.2) r).length ≤ _
    rw [List.length_cons]; omega
theorem carries_of {P : Program} {w : World} : ∀ {kvs : List (Key × V)} {ws : List (Value × Value)}, VV (kvs.map fun kv => (kV kv.1, kv.2)) ws → ∃ rs, Carries (mixKind P w) ws rs ∧ KV kvs rs
  | [], _, r => by rw [List.map_nil] at r; cases r; exact ⟨[], True.intro, .nil⟩
  | p :: kvs, _, r => by
    rw [List.map_cons] at r
    cases r with
    | @cons a b as bs h t =>
      obtain ⟨rs, c, q⟩ := carries_of (P := P) (w := w) t
      obtain ⟨b1, b2⟩ := b
      exact ⟨(p.1, b2) :: rs, ⟨kV_is h.1, rfl, c⟩, .cons ⟨rfl, h.2⟩ q⟩
def tDisp (trs : List (TE × TE)) : TE := fun σ H Q => ∀ p, H p = none → tPairs trs σ (upd H p (.dK [])) fun ps H2 => H2 p = some (.dK []) ∧ ∃ kvs : List (Key × V), ps = kvs.map (fun kv => (kV kv.1, kv.2)) ∧ kvs.length ≤ 15 ∧ Q (.ref p) (upd H2 p (.dK (mergeK [] kvs)))
theorem pe_disp {X : Cx} {pos : Pos} {keys : List (Option Expr)} {values : List Expr} {trs : List (TE × TE)} (h : PPs X pos keys values trs) (hall : keys.all (·.isSome) = true) (hl : keys.length = values.length) (h0 : keys ≠ [])
    (h15 : keys.length ≤ 15) : PE X (.Dict keys values pos) (tDisp trs) := by
  intro pins s σ H Q I q
  have hn := I.hok.fresh (Nat.le_refl s.heap.objs.size)
  have I1 := I.laid (a := s.heap.objs.size) (o := .dK []) (h' := s.heap.push { cls := .type "dict", data := .dict #[] }) (t' := s.toks) (fun _ _ q => Heap.get?_push_of_some _ q) (Nat.le_refl _) (dk_empty s.heap I.big)
  refine wpAny_Dict_walk (knd := mixKind X.prog X.w) hall hl h0 h15 (thn (h pins _ σ _ _ I1 (q _ hn)) fun ws s2 ⟨ps, H2, I2, rel, e, kvs, ep, lk, q2⟩ => ?_)
  subst ep
  obtain ⟨rs, c, rk⟩ := carries_of (P := X.prog) (w := X.w) rel
  obtain ⟨z, hd, vs0, r0, dd⟩ := dk_of I2.hok e
  cases r0
  refine ⟨rs, c, dd, fun h' dd' hs => ⟨.ref s.heap.objs.size, _, ?_, rfl, q2⟩⟩
  have hz : (mergeK [] kvs).length ≤ sizeLine := by
    have h1 := length_mergeK kvs []
    rw [List.length_nil] at h1
    rw [sizeLine_eq]; omega
  have he : ∃ q, h'.get? s.heap.objs.size = some q := let ⟨q, _, _, hq, _⟩ := dd'; ⟨q, hq⟩
  exact d_write I2 (by rw [e]; exact True.intro) hs he (dk_new hz hd (rk.merge .nil) dd')


structure M2 (X : Cx) (o : Expr) (m : Str) (apos : Pos) (e f : Expr) (cpos : Pos) : Prop where
  base : attributeBase o m X.env (eval o X.env) = eval o X.env
  few : ((backTo cpos (starEach [e, f] X.env)).all (fun x => !x.1) && (backToKw cpos (keywordEach [] X.env)).all (fun x => x.1.isSome)
    && decide (([e, f] : List Expr).length + ([] : List Keyword).length + (if ([] : List Keyword).isEmpty then 0 else 1) < 30)) = true
  line : (apos.endLine == cpos.line) = true
  trees : backTo cpos (starEach [e, f] X.env) = [(false, eval e X.env), (false, eval f X.env)]

section
variable {X : Cx} {pins : List (Addr × Obj)} {σ : St} {H : Hp} {s : Shared} {a : Addr} {y d : V} {u r : Value} {o : Option V} {A : Around} {E : Value → Shared → Prop}
end

section
variable {X : Cx} {o e f : Expr} {apos cpos : Pos} {td ty tx : TE}
end

section
variable {X : Cx} {pins : List (Addr × Obj)} {σ : St} {H : Hp} {s : Shared} {a : Addr} {kvs : List (Key × V)} {A : Around} {E : Value → Shared → Prop}
end


section
variable {X : Cx} {pins : List (Addr × Obj)} {σ : St} {H : Hp} {s : Shared} {a : Addr} {y : V} {u : Value} {A : Around} {E : Value → Shared → Prop}
end
end L2

namespace Att
open PySem PySem.W PySem.Calls PyProof.Rows

section
variable {prog : Program} {w : World} {A : Around} {E : Value → Shared → Prop} {s : Shared} {K : Frag}

end
end Att

namespace L2
open PySem PySem.Spec PyProof.Rows

end L2

namespace L2
open PySem PySem.Spec PyProof.Rows

end L2

/- THE LAST THEOREM (shape; LID, My.* are yours):
   My.Adr: a structure of the addresses that your layer names (classes, functions); My.Txt K t: a structure (Prop) of the equations over K;
   My.txt_mk : {K} {implicit addresses ..} (e1 : nsIn K mainGlobals "law" = some (some (.ref f))) (e2 : K.lookup f = some ⟨oc, od, .func (fnOf "law" "law" params body scope dV kV doc pm an cdv ct), sl⟩) (e3 : codeIn K cdv "law" = true) .. : ∃ t, My.Txt K t

set_option maxRecDepth 100000 in
set_option maxHeartbeats 0 in
(the tactic k_is has no namespace: write k_is) -/

namespace L2
open PySem PySem.Spec PyProof.Rows

section
variable {P : Program} {w : World} {K : PySem.W.Frag} {mg : Str → Option Value} {base : Heap}
end
section
variable {X : Cx}
end

section
variable {κ : Type} [DecidableEq κ]
end
end L2

namespace L2
open PySem PySem.Spec PyProof.Rows
section
variable {X : Cx} {a b c e o : Expr} {es rest : List Expr} {ta tb tc te to : TE} {t u : TS} {tA tB' : TT} {pos pos' p apos cpos : Pos} {x name : Str} {tr : TA} {v : V} {i : Nat}
variable {tg l : Expr} {tl : TE}
variable {st : Stmt} {sts : List Stmt}
end
section
variable {P : Program} {w : World} {K : PySem.W.Frag} {mg : Str → Option Value} {base : Heap}
end
end L2

namespace KW
open PySem L2 PySem.Spec PyProof.Rows
end KW

namespace L2
open PySem PySem.Spec PyProof.Rows
section
variable {X : Cx}
end
end L2

namespace L2
open PySem PySem.Spec PyProof.Rows
def cutC {α : Type} (xs : List α) (lo hi : Option Int) : List α := (xs.drop (HT.sIx xs.length 0 lo)).take (HT.sIx xs.length xs.length hi - HT.sIx xs.length 0 lo)
theorem range_eq (a b : Nat) : sliceRange (a : Int) (b : Int) 1 = (List.range (b - a)).map (fun k => a + k) := by
  unfold sliceRange
  have h : (if (1 : Int) > 0 then (if (a : Int) < b then ((b : Int) - a + 1 - 1) / 1 else 0) else (if (a : Int) > b then ((a : Int) - b - 1 - 1) / (-1) else 0)).toNat = b - a := by
    rw [if_pos (by decide)]
    by_cases h : (a : Int) < b
    · rw [if_pos h]; omega
    · rw [if_neg h]; omega
  simp only [h]
  refine List.map_congr_left fun k _ => ?_
  omega
theorem clip_sIx (v : Int) (n d : Nat) : max 0 (min (if v < 0 then v + (n : Int) else v) (n : Int)) = ((HT.sIx n d (some v) : Nat) : Int) := by
  show max 0 (min (if v < 0 then v + (n : Int) else v) (n : Int)) = (((if v < 0 then (v + (n : Int)).toNat else min v.toNat n) : Nat) : Int)
  by_cases hv : v < 0
  · simp only [if_pos hv]; omega
  · simp only [if_neg hv]; omega
theorem sliceIdx_eq (l u : Option Int) (n : Nat) : Builtin.Str.strSliceIndices l u 1 n = (List.range (HT.sIx n n u - HT.sIx n 0 l)).map (fun k => HT.sIx n 0 l + k) := by
  rw [← range_eq]
  unfold Builtin.Str.strSliceIndices
  simp only [show ((1 : Int) > 0) = True from by simp, if_true]
  congr 1
  · cases l with
    | none => rfl
    | some v => exact clip_sIx v n 0
  · cases u with
    | none => rfl
    | some v => exact clip_sIx v n n
theorem slice_cps (z : Str) (l u : Option Int) : (Txt.slice z l u).cps.toList = cutC z.cps.toList l u := by
  have hn : z.cps.toList.length = z.length := by rw [Array.length_toList]; rfl
  have hl : HT.sIx z.length 0 l ≤ z.length := HT.sIx_le _ 0 (Nat.zero_le _) l
  have hu : HT.sIx z.length z.length u ≤ z.length := HT.sIx_le _ _ (Nat.le_refl _) u
  unfold Txt.slice cutC
  rw [sliceIdx_eq, hn]
  split
  · rename_i h
    simp only [beq_self_eq_true, Bool.true_and, List.length_map, List.length_range, beq_iff_eq] at h
    have e1 : HT.sIx z.length 0 l = 0 := by omega
    have e2 : HT.sIx z.length z.length u = z.length := by omega
    rw [e1, e2, List.drop_zero, Nat.sub_zero, List.take_of_length_le (by omega)]
  · by_cases h : HT.sIx z.length 0 l ≤ HT.sIx z.length z.length u
    · have h2 := StrLaws.picks z.cps.toList (HT.sIx z.length z.length u - HT.sIx z.length 0 l) (HT.sIx z.length 0 l) (by omega)
      rw [← h2]
      show List.filterMap (fun x => z.cps[x]?) _ = _
      have e : (fun x => z.cps[x]?) = (fun x : Nat => z.cps.toList[x]?) := by funext i; simp
      rw [e]
    · have e : HT.sIx z.length z.length u - HT.sIx z.length 0 l = 0 := by omega
      rw [e, List.take_zero]; rfl
theorem sIx_one (n d : Nat) : HT.sIx n d (some 1) = min 1 n := HT.sIx_nat n d 1
theorem slice_tail (z : Str) : (Txt.slice z (some 1) none).cps.toList = z.cps.toList.drop 1 := by
  rw [slice_cps]
  unfold cutC
  rw [sIx_one, HT.sIx_none]
  by_cases h : 1 ≤ z.cps.toList.length
  · rw [Nat.min_eq_left h, List.take_of_length_le (by rw [List.length_drop]; omega)]
  · have e : z.cps.toList = [] := List.eq_nil_of_length_eq_zero (by omega)
    rw [e]; rfl
section
variable {X : Cx} {K : PySem.W.Frag}
end
end L2

namespace L2
open PySem PySem.Spec PyProof.Rows
section
variable {prog : Program} {w : World} {A : Around} {K : PySem.W.Frag} {C f : Addr} {h : Heap} {g : Array GenState} {d : Drawn} {t : Nat} {os : OsState} {R : Result → Shared → Prop}
end
end L2

namespace L2
open PySem PySem.Spec PyProof.Rows
def ExAt (h : Heap) (e C : Addr) (dx : Option Addr) : Prop := ∃ t f1 f2 f3 f4 f5 sl, h.get? e = some { cls := .ref C, dict := dx, data := .fields #[.ref t, f1, f2, f3, f4, f5], slots := sl }
section
variable {prog : Program} {w : World} {A : Around} {E : Value → Shared → Prop} {s : Shared} {K : PySem.W.Frag} {e C f : Addr} {name : Str} {v : Value} {R : Result → Shared → Prop}
end
end L2

namespace L2
open PySem PySem.Spec PyProof.Rows
def XO (C : Addr) (dx : Option Addr) (e : Addr) : HO := .ext fun h => ExAt h e C dx
def DXO (dx : Addr) (fs : List (Str × V)) : HO := .ext fun h => ∃ mA, h.Ns1 dx mA ∧ (∀ f, RelO (fs.lookup f) (mA f)) ∧ PySem.Within mA (fs.map (·.1))
section
variable {P : Program} {w : World} {H : Hp} {h : Heap} {e C dx : Addr} {d : Option Addr} {fs : List (Str × V)}
theorem xo_ok (x : ExAt h e C d) : ObjOk P w H h e (XO C d e) :=
  ⟨x, let ⟨_, _, _, _, _, _, _, q⟩ := x; ⟨_, q⟩, fun h1 h2 ⟨t, f1, f2, f3, f4, f5, sl, q⟩ k => ⟨t, f1, f2, f3, f4, f5, sl, k _ q⟩⟩
theorem xo_at (x : HOk P w H h) (q : H e = some (XO C d e)) : ExAt h e C d := (show ObjOk P w H h e (XO C d e) from x e _ q).1
end
section
variable {X : Cx} {pins : List (Addr × Obj)} {σ : St} {H : Hp} {s : Shared} {a C dx fI : Addr} {fs : List (Str × V)} {f : Str} {v : V} {A : Around} {E : Value → Shared → Prop}
end
section
variable {X : Cx} {e o value : Expr} {es : List Expr} {ta tv te : TE} {t : TA} {f x : Str} {p pos pos' : Pos} {C fI : Addr} {fd : FuncData} {ps : List Str} {sp : Sp} {k : Nat} {v : V}
end
end L2

namespace L2
open PySem PySem.Spec PyProof.Rows
section
variable {X : Cx} {pins : List (Addr × Obj)} {σ : St} {H : Hp} {s : Shared} {h' : Heap}
theorem Inv.turned2 {t' : Nat} {e it p : Addr} {ys : List V} (I : Inv X pins σ H s) (k : ∀ b o, b ≠ e → b ≠ it → s.heap.get? b = some o → h'.get? b = some o) (f1 : FpOk X pins H e) (f2 : FpOk X pins H it) (hp : s.heap.objs.size ≤ p)
    (new : ObjOk X.prog X.w (upd H p (.tup ys)) h' p (.tup ys)) : Inv X pins σ (upd H p (.tup ys)) { s with heap := h', toks := t' } := by
  have hfr : H p = none := I.hok.fresh hp
  have nin : ∀ b u, H b = some u → b ≠ e ∧ b ≠ it := fun b u q => ⟨(fun z => by rw [z, f1.1] at q; cases q), (fun z => by rw [z, f2.1] at q; cases q)⟩
  have nch : ∀ b, b ∉ [e, it] → b ≠ e ∧ b ≠ it := fun b hb => ⟨fun z => hb (by simp [z]), fun z => hb (by simp [z])⟩
  refine I.call' (ch := [e, it]) rfl ⟨fun b o q n _ hx => k b o (nch b hx).1 (nch b hx).2 q, fun b o q n _ hx => ⟨o.slots, k b o (nch b hx).1 (nch b hx).2 q⟩, fun b o q n _ => ?_, fun b o q hx => ⟨o, k b o (nch b hx).1 (nch b hx).2 q⟩, fun b xs q => ?_, fun b o u q => ?_, fun b ps q => ⟨#[], ?_⟩⟩ ?_ I.bare fun b hb => ?_
  · rw [upd_ne (by rintro rfl; exact absurd (Heap.lt_size q) (Nat.not_lt.mpr hp))]; exact n
  · rw [upd_ne (ne_of_none q hfr)]; exact q
  · rw [upd_ne (ne_of_none q hfr)]; exact q
  · rw [upd_ne (ne_of_none q hfr), q]; simp
  · intro b u q
    by_cases hb : b = p
    · subst hb; rw [upd_same] at q; cases q; exact new
    · rw [upd_ne hb] at q
      refine (I.hok b u q).stay (fun c v hc z => ?_) (fun c z => by rw [upd_ne (ne_of_none z hfr)]; exact z) fun c xs z => by rw [upd_ne (ne_of_none z hfr)]; exact z
      rcases hc with rfl | hc
      · exact k c v (nin c u q).1 (nin c u q).2 z
      · exact k c v (nin c _ hc).1 (nin c _ hc).2 z
  · rcases List.mem_cons.mp hb with rfl | hb
    · exact ⟨f1.2.2.2.1, f1.2.1, f1.2.2.2.2.1, f1.2.2.2.2.2⟩
    · obtain rfl : b = it := by simpa using hb
      exact ⟨f2.2.2.2.1, f2.2.1, f2.2.2.2.2.1, f2.2.2.2.2.2⟩
end
def Ite (K : PySem.W.Frag) (a : Addr) : It :=
  ⟨fun i H => ∃ xs x, SqL K H a xs ∧ xs[i]? = some x, fun i H y H' => ∃ p x, H p = none ∧ y = .ref p ∧ H' = upd H p (.tup [.int i, x]) ∧ ∀ xs, SqL K H a xs → xs[i]? = some x, fun i H => ∃ xs, SqL K H a xs ∧ xs.length ≤ i⟩
theorem turn_enum {P : Program} {w : World} {K : PySem.W.Frag} {es : List Expr} {k : Nat} {pos : Pos} (a e it : Addr) (hne : e ≠ it) :
    Turn P w K (.Tuple es k pos) (Ite K a) [e, it] e (fun i h => (∃ old, IsEnum h e it (i : Int) old) ∧ h.IsListIter it a i) where
  mem := by simp
  obj := fun i h st b hb => by
    obtain ⟨⟨old, q⟩, o, e2, c, d⟩ := st
    rcases List.mem_cons.mp hb with rfl | hb
    · exact ⟨_, q, fun v z => by cases z⟩
    · obtain rfl : b = it := by simpa using hb
      exact ⟨o, e2, fun v z => by rw [d] at z; cases z⟩
  keep := fun i h h' st k => ⟨let ⟨old, q⟩ := st.1; ⟨old, k e (by simp) _ q⟩, st.2.at fun o q => k it (by simp) o q⟩
  item := by
    intro X hP hw hK hc i pins s σ H E I hf st hg
    subst hP hw hK
    obtain ⟨xs, x, hq, hx⟩ := hg
    obtain ⟨its, rv, p, hz⟩ := I.list hq
    obtain ⟨u, hu, ru⟩ := rv.get hx
    obtain ⟨⟨old, he⟩, hl⟩ := st
    have f1 := hf e (by simp)
    have f2 := hf it (by simp)
    have hel : e < s.heap.objs.size := Heap.lt_size he
    refine wpAny_pyNext_enum_item he hl p.isList (x := u) (by simpa using hu) hne fun h1 eo li ht hsz kk => ⟨_, rfl, ?_⟩
    refine wpAny_letOwnedTupleGo_enum (s := { s with heap := h1, toks := s.toks + 1 }) eo fun h2 en sb => ?_
    have hpe : s.heap.objs.size ≠ e := Nat.ne_of_gt hel
    have hfr : H s.heap.objs.size = none := I.hok.fresh (Nat.le_refl _)
    have k2 : ∀ b o, b ≠ e → b ≠ it → s.heap.get? b = some o → h2.get? b = some o := fun b o hb hi q => (sb.2 b hb).trans (kk b o hb hi q)
    have ht2 : h2.get? s.heap.objs.size = some { cls := .type "tuple", data := .seq #[.int i s.toks, u] } := (sb.2 _ hpe).trans ht
    have I2 := I.turned2 (t' := s.toks + 1) (p := s.heap.objs.size) (ys := [.int i, x]) k2 f1 f2 (Nat.le_refl _) ⟨by show 2 ≤ sizeLine; decide, [.int i s.toks, u], .cons ⟨_, rfl⟩ (.cons ru .nil), ⟨_, ht2, rfl, _, rfl⟩⟩
    have en' : IsEnum h2 e it (((i + 1 : Nat) : Int)) u := by
      have : ((i + 1 : Nat) : Int) = (i : Int) + 1 := by omega
      rw [this]; exact en
    refine ⟨.ref s.heap.objs.size, _, I2, rfl, ⟨s.heap.objs.size, x, hfr, rfl, rfl, fun ys hy => by rw [I.list_inj hy hq]; exact hx⟩, ⟨⟨u, en'⟩, ?_⟩, fun b hb => ?_⟩
    · obtain ⟨o, q, r⟩ := li
      exact ⟨o, (sb.2 it (Ne.symm hne)).trans q, r⟩
    · have hb' : b < s.heap.objs.size := by
        rcases List.mem_cons.mp hb with rfl | hb
        · exact hel
        · obtain rfl : b = it := by simpa using hb
          obtain ⟨o, q, _⟩ := hl
          exact Heap.lt_size q
      rw [upd_ne (Nat.ne_of_lt hb')]
      exact (hf b hb).1
  done := by
    intro X hP hw hK hc i pins s σ H E I hf st hg
    subst hP hw hK
    obtain ⟨xs, hq, hx⟩ := hg
    obtain ⟨its, rv, p, hz⟩ := I.list hq
    obtain ⟨⟨old, he⟩, hl⟩ := st
    obtain ⟨f0, f1, f2, f3, f4, f5⟩ := hf it (by simp)
    have hlen := rv.length
    exact wpAny_pyNext_enum_end (I.ok.hd hc) he hl p.isList (by simp; omega) fun h' eb => ⟨rfl, I.turned (t' := s.toks) (fun b o hb q => eb b o hb q) f0 f1 f3 f4 f5⟩
  self := fun _ _ _ _ _ st h => by
    obtain ⟨⟨old, he⟩, _⟩ := st
    exact wpAny_pyIter_enum he h
def iEnum (K : PySem.W.Frag) (ta : TA) : TI := fun σ H R => ta σ H fun vs H1 => ∃ a xs, vs = [.ref a] ∧ SqL K H1 a xs ∧ R (Ite K a) H1
section
variable {X : Cx} {a : Expr} {ta : TA} {p pos tp : Pos} {es : List Expr} {k : Nat}
theorem pi_enum (hg : Gl X "enumerate") (hm : X.mg "enumerate" = none) (ha : PA X [a] ta) (hs : starEach [a] X.env = [(false, eval a X.env)] := by rfl) : PI X (.Tuple es k tp) (.Call (.Name "enumerate" p) [a] [] pos) (iEnum X.K ta) := by
  intro pins s σ H R I h
  refine Call_ (ld_blt I hg hm (show bootBuiltins "enumerate" = some (.type "enumerate") by decide +kernel) (PyProof.Rows.callWith_type1 (thn (ha pos pins s σ H _ I h) fun us s1 ⟨vs, H1, I1, r1, q1⟩ => ?_) hs rfl))
  obtain ⟨a', xs, e, hq, q⟩ := q1
  subst e
  obtain ⟨u, rfl, ru⟩ := vals1 r1
  cases ru
  obtain ⟨its, rv, pl, hz⟩ := I1.list hq
  refine call_enumerate_list pl.isList fun h' en li hsz kk => ?_
  refine wpAny_pyIter_enum en ?_
  have hne : s1.heap.objs.size + 1 ≠ s1.heap.objs.size := Nat.succ_ne_self _
  refine ⟨s1.heap.objs.size + 1, [s1.heap.objs.size + 1, s1.heap.objs.size], _, Ite X.K a', H1, rfl, I1.kept (t' := s1.toks) kk, turn_enum a' _ _ hne, ⟨⟨_, en⟩, li⟩, fun b hb => ?_, q⟩
  have hb' : s1.heap.objs.size ≤ b := by
    rcases List.mem_cons.mp hb with rfl | hb
    · exact Nat.le_succ _
    · have e : b = s1.heap.objs.size := by simpa using hb
      rw [e]; exact Nat.le_refl _
  exact I1.fpOk hb' (I1.hok.fresh hb')
end
end L2

namespace L2
open PySem PySem.Spec PyProof.Rows
theorem un5 {α β γ : Type} {p q : α → β → γ → Prop} {r : Prop} (h : ∃ a b c, p a b c ∧ q a b c) (k : ∀ a b c, p a b c → q a b c → r) : r := let ⟨a, b, c, x, y⟩ := h; k a b c x y
inductive DK where
  | i (n : Int) | s (z : Str) | t (ks : List DK)
noncomputable instance : DecidableEq DK := fun a b => _root_.Classical.propDecidable (a = b)
inductive D where
  | non | bl (b : Bool) | int (i : Int) | str (z : Str) | ty (T : String)
  | lst (ds : List D) | tup (ds : List D) | dct (kvs : List (D × D)) | ins (C : Addr) (fs : List (Str × D)) | exc (C : Addr) (fs : List (Str × D)) | dn (hs : List DK → Int) (kvs : List (List DK × D))
inductive Res (α : Type) where
  | ok (a : α) | err (x : D) | bad
namespace Res
def bind {α β : Type} : Res α → (α → Res β) → Res β
  | .ok a, f => f a
  | .err x, _ => .err x
  | .bad, _ => .bad
def all {α : Type} (r : Res α) (P : α → Prop) (E : D → Prop) : Prop := match r with
  | .ok a => P a
  | .err x => E x
  | .bad => False
@[simp] theorem bind_ok {α β : Type} (a : α) (f : α → Res β) : (Res.ok a).bind f = f a := rfl
@[simp] theorem bind_err {α β : Type} (x : D) (f : α → Res β) : (Res.err x).bind f = .err x := rfl
@[simp] theorem bind_bad {α β : Type} (f : α → Res β) : Res.bad.bind f = .bad := rfl
theorem all_bind {α β : Type} {r : Res α} {f : α → Res β} {P : β → Prop} {E : D → Prop} : (r.bind f).all P E ↔ r.all (fun a => (f a).all P E) E := by
  cases r <;> exact Iff.rfl
theorem all_mono {α : Type} {r : Res α} {P Q : α → Prop} {E F : D → Prop} (h : r.all P E) (p : ∀ a, P a → Q a) (e : ∀ x, E x → F x) : r.all Q F := by
  cases r with
  | ok a => exact p a h
  | err x => exact e x h
  | bad => exact h
end Res
def kD : Key → D
  | .inl i => .int i
  | .inr z => .str z
mutual
def DK.toD : DK → D
  | .i n => .int n
  | .s z => .str z
  | .t ks => .tup (DK.toDs ks)
def DK.toDs : List DK → List D
  | [] => []
  | k :: ks => k.toD :: DK.toDs ks
end
mutual
def DK.py : DK → PyData
  | .i n => .int n
  | .s z => .str z
  | .t ks => .tuple (DK.pys ks)
def DK.pys : List DK → List PyData
  | [] => []
  | k :: ks => k.py :: DK.pys ks
end
mutual
def DK.dep : DK → Nat
  | .i _ => 0
  | .s _ => 0
  | .t ks => DK.deps ks + 1
def DK.deps : List DK → Nat
  | [] => 0
  | k :: ks => max k.dep (DK.deps ks)
end
def okK (k : List DK) : Bool := decide ((DK.t k).dep ≤ 8) && SeqAt.shaped (DK.t k).py
def NDO (a : Addr) (hs : List DK → Int) (xs : List (List DK × Addr × Value)) : HO := .ext fun h => ∃ o es ep, h.get? a = some o ∧ o.ExactDict ∧ o.data = .dict es ep ∧ es.toList = xs.map (fun x => ⟨hs x.1, .ref x.2.1, x.2.2⟩) ∧ (xs.map (·.1)).Nodup ∧ xs.length ≤ sizeLine ∧ (a == sysModules) = false
mutual
inductive Rp (K : PySem.W.Frag) (H : Hp) : V → D → Prop
  | non : Rp K H .non .non
  | bl (b : Bool) : Rp K H (.bl b) (.bl b)
  | int (i : Int) : Rp K H (.int i) (.int i)
  | str {z : Str} (h : z.length ≤ sizeLine) : Rp K H (.str z) (.str z)
  | ty (T : String) : Rp K H (.ty T) (.ty T)
  | lst {a : Addr} {xs : List V} {ds : List D} : Rd H a (.lst xs) → Rps K H xs ds → Rp K H (.ref a) (.lst ds)
  | tup {a : Addr} {xs : List V} {ds : List D} : SqT K H a xs → Rps K H xs ds → Rp K H (.ref a) (.tup ds)
  | dK {a : Addr} {kvs : List (Key × V)} {ps : List (D × D)} : H a = some (.dK kvs) → Rpk K H kvs ps → Rp K H (.ref a) (.dct ps)
  | ins {a C dx : Addr} {fs : List (Str × V)} {gs : List (Str × D)} : H a = some (.ins C dx fs) → Rpf K H fs gs → Rp K H (.ref a) (.ins C gs)
  | exc {a C dx : Addr} {fs : List (Str × V)} {gs : List (Str × D)} : H a = some (XO C (some dx) a) → H dx = some (DXO dx fs) → Rpf K H fs gs → Rp K H (.ref a) (.exc C gs)
  | dn {a : Addr} {hs : List DK → Int} {xs : List (List DK × Addr × Value)} {kvs : List (List DK × D)} : H a = some (NDO a hs xs) → Rpn K H xs kvs → Rp K H (.ref a) (.dn hs kvs)
inductive Rps (K : PySem.W.Frag) (H : Hp) : List V → List D → Prop
  | nil : Rps K H [] []
  | cons {x : V} {d : D} {xs : List V} {ds : List D} : Rp K H x d → Rps K H xs ds → Rps K H (x :: xs) (d :: ds)
inductive Rpk (K : PySem.W.Frag) (H : Hp) : List (Key × V) → List (D × D) → Prop
  | nil : Rpk K H [] []
  | cons {k : Key} {x : V} {d : D} {xs : List (Key × V)} {ds : List (D × D)} : Rp K H x d → Rpk K H xs ds → Rpk K H ((k, x) :: xs) ((kD k, d) :: ds)
inductive Rpf (K : PySem.W.Frag) (H : Hp) : List (Str × V) → List (Str × D) → Prop
  | nil : Rpf K H [] []
  | cons {k : Str} {x : V} {d : D} {xs : List (Str × V)} {ds : List (Str × D)} : Rp K H x d → Rpf K H xs ds → Rpf K H ((k, x) :: xs) ((k, d) :: ds)
inductive Rpn (K : PySem.W.Frag) (H : Hp) : List (List DK × Addr × Value) → List (List DK × D) → Prop
  | nil : Rpn K H [] []
  | cons {k : List DK} {q : Addr} {u : Value} {x : V} {d : D} {xs : List (List DK × Addr × Value)} {ds : List (List DK × D)} : okK k = true → Rp K H (.ref q) (DK.t k).toD → RelV x u → Rp K H x d → Rpn K H xs ds → Rpn K H ((k, q, u) :: xs) ((k, d) :: ds)
end
section
variable {K : PySem.W.Frag} {H H' : Hp}
theorem Rd.same (e : Same H H') {a : Addr} {u : HO} (h : Rd H a u) : Rd H' a u := by
  rcases h with h | ⟨o, h⟩
  · exact .inl (e _ _ h)
  · exact .inr ⟨o, e _ _ h⟩
mutual
theorem Rp.same (e : Same H H') : ∀ {x : V} {d : D}, Rp K H x d → Rp K H' x d
  | _, _, .non => .non
  | _, _, .bl b => .bl b
  | _, _, .int i => .int i
  | _, _, .str h => .str h
  | _, _, .ty T => .ty T
  | _, _, .lst hq hs => .lst (hq.same e) (Rps.same e hs)
  | _, _, .tup hq hs => .tup (e.seqT hq) (Rps.same e hs)
  | _, _, .dK hq hs => .dK (e _ _ hq) (Rpk.same e hs)
  | _, _, .ins hq hs => .ins (e _ _ hq) (Rpf.same e hs)
  | _, _, .exc hq hr hs => .exc (e _ _ hq) (e _ _ hr) (Rpf.same e hs)
  | _, _, .dn hq hs => .dn (e _ _ hq) (Rpn.same e hs)
theorem Rps.same (e : Same H H') : ∀ {x : List V} {d : List D}, Rps K H x d → Rps K H' x d
  | _, _, .nil => .nil
  | _, _, .cons h hs => .cons (Rp.same e h) (Rps.same e hs)
theorem Rpk.same (e : Same H H') : ∀ {x : List (Key × V)} {d : List (D × D)}, Rpk K H x d → Rpk K H' x d
  | _, _, .nil => .nil
  | _, _, .cons h hs => .cons (Rp.same e h) (Rpk.same e hs)
theorem Rpf.same (e : Same H H') : ∀ {x : List (Str × V)} {d : List (Str × D)}, Rpf K H x d → Rpf K H' x d
  | _, _, .nil => .nil
  | _, _, .cons h hs => .cons (Rp.same e h) (Rpf.same e hs)
theorem Rpn.same (e : Same H H') : ∀ {x : List (List DK × Addr × Value)} {d : List (List DK × D)}, Rpn K H x d → Rpn K H' x d
  | _, _, .nil => .nil
  | _, _, .cons o h r h2 hs => .cons o (Rp.same e h) r (Rp.same e h2) (Rpn.same e hs)
end
theorem Rps.length : ∀ {xs : List V} {ds : List D}, Rps K H xs ds → xs.length = ds.length
  | _, _, .nil => rfl
  | _, _, .cons _ hs => congrArg (· + 1) hs.length
theorem Rps.get : ∀ {xs : List V} {ds : List D} {i : Nat} {d : D}, Rps K H xs ds → ds[i]? = some d → ∃ x, xs[i]? = some x ∧ Rp K H x d
  | _, _, 0, _, .cons h _, e => by cases e; exact ⟨_, rfl, h⟩
  | _, _, i + 1, _, .cons _ hs, e => hs.get (i := i) (by simpa using e)
theorem Rps.append : ∀ {xs ys : List V} {ds es : List D}, Rps K H xs ds → Rps K H ys es → Rps K H (xs ++ ys) (ds ++ es)
  | _, _, _, _, .nil, h => h
  | _, _, _, _, .cons h hs, h' => .cons h (hs.append h')
theorem Rps.take : ∀ {xs : List V} {ds : List D} (n : Nat), Rps K H xs ds → Rps K H (xs.take n) (ds.take n)
  | _, _, 0, _ => by simpa using Rps.nil
  | _, _, _ + 1, .nil => by simpa using Rps.nil
  | _, _, n + 1, .cons h hs => by simpa using Rps.cons h (hs.take n)
theorem Rps.drop : ∀ {xs : List V} {ds : List D} (n : Nat), Rps K H xs ds → Rps K H (xs.drop n) (ds.drop n)
  | _, _, 0, h => h
  | _, _, _ + 1, .nil => by simpa using Rps.nil
  | _, _, n + 1, .cons _ hs => by simpa using hs.drop n
theorem Rps.rep {xs : List V} {ds : List D} (h : Rps K H xs ds) : ∀ n : Nat, Rps K H (List.replicate n xs).flatten (List.replicate n ds).flatten
  | 0 => .nil
  | n + 1 => by simpa [List.replicate_succ] using h.append (h.rep n)
end
structure Stp (F H F' H' : Hp) : Prop where
  ff : Same F F'
  fh : Same F' H'
  hh : Same H H'
  no : ∀ a, F a = none → H a ≠ none → F' a = none
section
variable {F H F' H' F'' H'' : Hp} {a : Addr} {o : HO}
theorem Stp.refl (h : Same F H) : Stp F H F H := ⟨Same.refl F, h, Same.refl H, fun _ q _ => q⟩
theorem ne_none_same (e : Same H H') {a : Addr} (h : H a ≠ none) : H' a ≠ none := by
  intro q
  cases z : H a with
  | none => exact h z
  | some o => rw [e a o z] at q; cases q
theorem Stp.trans (x : Stp F H F' H') (y : Stp F' H' F'' H'') : Stp F H F'' H'' :=
  ⟨x.ff.trans y.ff, y.fh, x.hh.trans y.hh, fun a q r => y.no a (x.no a q r) (ne_none_same x.hh r)⟩
theorem same_upd (h : Same F H) : Same (upd F a o) (upd H a o) := fun b u e => by
  unfold upd at e ⊢
  by_cases q : b = a
  · rw [if_pos q] at e ⊢; exact e
  · rw [if_neg q] at e ⊢; exact h b u e
theorem same_upd_none (h : F a = none) : Same F (upd F a o) := fun b u e => by
  unfold upd
  by_cases q : b = a
  · subst q; rw [h] at e; cases e
  · rw [if_neg q]; exact e
theorem Stp.new (h : Same F H) (n : H a = none) : Stp F H (upd F a o) (upd H a o) :=
  ⟨same_upd_none (h.free n), same_upd h, same_upd_none n, fun b q r => by
    unfold upd
    by_cases z : b = a
    · subst z; exact absurd n r
    · rw [if_neg z]; exact q⟩
theorem Stp.only (h : Same F H) (e : Same H H') : Stp F H F H' := ⟨Same.refl F, h.trans e, e, fun _ q _ => q⟩
end
inductive OD where
  | l (ds : List D) | d (kvs : List (D × D)) | i (a C : Addr) (gs : List (Str × D)) | n (hs : List DK → Int) (kvs : List (List DK × D)) | p (a : Addr) (o : OD)
def OD.toD : OD → D
  | .l ds => .lst ds
  | .d kvs => .dct kvs
  | .i _ C gs => .ins C gs
  | .n hs kvs => .dn hs kvs
  | .p _ o => o.toD
inductive Ro (K : PySem.W.Frag) (F : Hp) (a : Addr) : HO → OD → Prop
  | l {xs : List V} {ds : List D} : Rps K F xs ds → Ro K F a (.lst xs) (.l ds)
  | d {kvs : List (Key × V)} {ps : List (D × D)} : Rpk K F kvs ps → Ro K F a (.dK kvs) (.d ps)
  | i {C dx : Addr} {fs : List (Str × V)} {gs : List (Str × D)} : Rpf K F fs gs → Ro K F a (.ins C dx fs) (.i a C gs)
  | n {hs : List DK → Int} {xs : List (List DK × Addr × Value)} {kvs : List (List DK × D)} : Rpn K F xs kvs → Ro K F a (NDO a hs xs) (.n hs kvs)
  | p {h : HO} {o : OD} : Ro K F a h o → Ro K F a h (.p a o)
theorem Ro.same {K : PySem.W.Frag} {F F' : Hp} {a : Addr} (e : Same F F') {h : HO} {o : OD} (r : Ro K F a h o) : Ro K F' a h o := by
  induction r with
  | l r => exact .l (Rps.same e r)
  | d r => exact .d (Rpk.same e r)
  | i r => exact .i (Rpf.same e r)
  | n r => exact .n (Rpn.same e r)
  | p _ ih => exact .p ih
theorem Ro.rp {K : PySem.W.Frag} {F : Hp} {a : Addr} {h : HO} {o : OD} (r : Ro K F a h o) (e : F a = some h) : Rp K F (.ref a) o.toD := by
  induction r with
  | l r => exact .lst (.inl e) r
  | d r => exact .dK e r
  | i r => exact .ins e r
  | n r => exact .dn e r
  | p _ ih => exact ih e
inductive Sl where
  | val (d : D) | own (o : OD)
abbrev Rho := List (Option Sl)
structure Rel (K : PySem.W.Frag) (B : Hp × Hp) (ρ : Rho) (σ : St) (F H : Hp) : Prop where
  st : Stp B.1 B.2 F H
  len : σ.length = ρ.length
  val : ∀ (i : Nat) d, ρ[i]? = some (some (.val d)) → ∃ v, σ[i]? = some (some v) ∧ Rp K F v d
  own : ∀ (i : Nat) o, ρ[i]? = some (some (.own o)) → ∃ a h, σ[i]? = some (some (.ref a)) ∧ F a = none ∧ B.2 a = none ∧ H a = some h ∧ Ro K F a h o
  dis : ∀ (i j : Nat) o u a, ρ[i]? = some (some (.own o)) → ρ[j]? = some (some (.own u)) → σ[i]? = some (some (.ref a)) → σ[j]? = some (some (.ref a)) → i = j
def frzS : Sl → Sl
  | .val d => .val d
  | .own o => .val o.toD
def frz (ρ : Rho) : Rho := ρ.map (Option.map frzS)
section
variable {K : PySem.W.Frag} {B : Hp × Hp} {ρ : Rho} {σ : St} {F H F' H' : Hp}
theorem Rel.fh (r : Rel K B ρ σ F H) : Same F H := r.st.fh
theorem Rel.step (r : Rel K B ρ σ F H) (s : Stp F H F' H') : Rel K B ρ σ F' H' where
  st := r.st.trans s
  len := r.len
  val i d e := let ⟨v, h1, h2⟩ := r.val i d e; ⟨v, h1, h2.same s.ff⟩
  own i o e := let ⟨a, h, h1, h2, h3, h4, h5⟩ := r.own i o e; ⟨a, h, h1, s.no a h2 (by rw [h4]; simp), h3, s.hh a h h4, Ro.same s.ff h5⟩
  dis := r.dis
theorem frz_get {i : Nat} {x : Sl} (h : (frz ρ)[i]? = some (some x)) : ∃ y, ρ[i]? = some (some y) ∧ x = frzS y := by
  unfold frz at h
  rw [List.getElem?_map] at h
  cases q : ρ[i]? with
  | none => rw [q] at h; cases h
  | some z =>
    rw [q] at h
    cases z with
    | none => simp at h
    | some y => simp at h; exact ⟨y, rfl, h.symm⟩
open Classical in
theorem Rel.frz (r : Rel K B ρ σ F H) : ∃ F', Same F F' ∧ Rel K B (frz ρ) σ F' H := by
  let T : Addr → Prop := fun a => ∃ (i : Nat) (o : OD), ρ[i]? = some (some (.own o)) ∧ σ[i]? = some (some (.ref a))
  let F' : Hp := fun a => if T a then H a else F a
  have hT : ∀ a, T a → F a = none ∧ B.2 a = none := fun a ⟨i, o, e, q⟩ => by
    obtain ⟨b, h, h1, h2, h3, _⟩ := r.own i o e
    rw [q] at h1; cases h1; exact ⟨h2, h3⟩
  have e1 : Same F F' := fun a o e => by
    show (if T a then H a else F a) = some o
    by_cases q : T a
    · rw [(hT a q).1] at e; cases e
    · rw [if_neg q]; exact e
  have e2 : Same F' H := fun a o e => by
    have e' : (if T a then H a else F a) = some o := e
    by_cases q : T a
    · rw [if_pos q] at e'; exact e'
    · rw [if_neg q] at e'; exact r.fh a o e'
  refine ⟨F', e1, ⟨⟨r.st.ff.trans e1, e2, r.st.hh, fun a q z => ?_⟩, ?_, ?_, ?_, ?_⟩⟩
  · show (if T a then H a else F a) = none
    by_cases t : T a
    · exact absurd (hT a t).2 z
    · rw [if_neg t]; exact r.st.no a q z
  · rw [r.len]; unfold L2.frz; simp
  · intro i d e
    obtain ⟨y, h1, h2⟩ := frz_get e
    cases y with
    | val d' => cases h2; obtain ⟨v, q1, q2⟩ := r.val i d h1; exact ⟨v, q1, q2.same e1⟩
    | own o =>
      cases h2
      obtain ⟨a, h, q1, q2, q3, q4, q5⟩ := r.own i o h1
      have t : T a := ⟨i, o, h1, q1⟩
      exact ⟨.ref a, q1, Ro.rp (Ro.same e1 q5) (show (if T a then H a else F a) = some h by rw [if_pos t]; exact q4)⟩
  · intro i o e
    obtain ⟨y, h1, h2⟩ := frz_get e
    cases y <;> cases h2
  · intro i j o u a e
    obtain ⟨y, h1, h2⟩ := frz_get e
    cases y <;> cases h2
theorem get_set {α : Type} {l : List α} {i j : Nat} {x y : α} (h : (l.set i x)[j]? = some y) : (j = i ∧ i < l.length ∧ y = x) ∨ (j ≠ i ∧ l[j]? = some y) := by
  rw [List.getElem?_set] at h
  by_cases q : i = j
  · rw [if_pos q] at h
    by_cases z : i < l.length
    · rw [if_pos z] at h; exact .inl ⟨q.symm, z, (Option.some.inj h).symm⟩
    · rw [if_neg z] at h; cases h
  · rw [if_neg q] at h; exact .inr ⟨fun e => q e.symm, h⟩
theorem set_at {α : Type} {l : List α} {i : Nat} {x : α} (h : i < l.length) : (l.set i x)[i]? = some x := by simp [h]
theorem set_off {α : Type} {l : List α} {i j : Nat} {x : α} (h : j ≠ i) : (l.set i x)[j]? = l[j]? := by rw [List.getElem?_set, if_neg (fun e => h e.symm)]
theorem Rel.set {i : Nat} {v : V} {d : D} (r : Rel K B ρ σ F H) (h : Rp K F v d) : Rel K B (ρ.set i (some (.val d))) (σ.set i (some v)) F H where
  st := r.st
  len := by simp [r.len]
  val j d' e := by
    rcases get_set e with ⟨rfl, q, z⟩ | ⟨q, z⟩
    · cases z; exact ⟨v, set_at (r.len ▸ q), h⟩
    · rw [set_off q]; exact r.val j d' z
  own j o e := by
    rcases get_set e with ⟨rfl, q, z⟩ | ⟨q, z⟩
    · cases z
    · rw [set_off q]; exact r.own j o z
  dis j k o u a e e' := by
    rcases get_set e with ⟨rfl, q, z⟩ | ⟨q, z⟩
    · cases z
    · rcases get_set e' with ⟨rfl, q', z'⟩ | ⟨q', z'⟩
      · cases z'
      · rw [set_off q, set_off q']; exact r.dis j k o u a z z'
theorem Rel.setOwn {i : Nat} {a : Addr} {h : HO} {o : OD} (r : Rel K B ρ σ F H) (h1 : F a = none) (h2 : B.2 a = none) (h3 : H a = some h) (h4 : Ro K F a h o)
    (hd : ∀ (j : Nat) u, ρ[j]? = some (some (.own u)) → σ[j]? ≠ some (some (.ref a))) : Rel K B (ρ.set i (some (.own o))) (σ.set i (some (.ref a))) F H where
  st := r.st
  len := by simp [r.len]
  val j d' e := by
    rcases get_set e with ⟨rfl, q, z⟩ | ⟨q, z⟩
    · cases z
    · rw [set_off q]; exact r.val j d' z
  own j u e := by
    rcases get_set e with ⟨rfl, q, z⟩ | ⟨q, z⟩
    · cases z; exact ⟨a, h, set_at (r.len ▸ q), h1, h2, h3, h4⟩
    · rw [set_off q]; exact r.own j u z
  dis j k u u' b e e' := by
    rcases get_set e with ⟨rfl, q, z⟩ | ⟨q, z⟩
    · rcases get_set e' with ⟨rfl, q', z'⟩ | ⟨q', z'⟩
      · intro _ _; rfl
      · rw [set_off q', set_at (r.len ▸ q)]
        intro x y; cases x; exact absurd y (hd k u' z')
    · rcases get_set e' with ⟨rfl, q', z'⟩ | ⟨q', z'⟩
      · rw [set_off q, set_at (r.len ▸ q')]
        intro x y; cases y; exact absurd x (hd j u z)
      · rw [set_off q, set_off q']; exact r.dis j k u u' b z z'
theorem Rel.write {i : Nat} {a : Addr} {h' : HO} {o o' : OD} (r : Rel K B ρ σ F H) (e : ρ[i]? = some (some (.own o))) (hs : σ[i]? = some (some (.ref a))) (h4 : Ro K F a h' o') :
    Rel K B (ρ.set i (some (.own o'))) σ F (upd H a h') := by
  obtain ⟨b, h, q1, q2, q3, q4, q5⟩ := r.own i o e
  rw [hs] at q1; cases q1
  have e1 : ∀ G : Hp, G a = none → Same G H → Same G (upd H a h') := fun G n s b u x => by
    unfold upd
    by_cases z : b = a
    · subst z; rw [n] at x; cases x
    · rw [if_neg z]; exact s b u x
  refine ⟨⟨r.st.ff, e1 F q2 r.fh, e1 B.2 q3 r.st.hh, r.st.no⟩, by simp [r.len], ?_, ?_, ?_⟩
  · intro j d x
    rcases get_set x with ⟨rfl, q, z⟩ | ⟨q, z⟩
    · cases z
    · exact r.val j d z
  · intro j u x
    rcases get_set x with ⟨rfl, q, z⟩ | ⟨q, z⟩
    · cases z; exact ⟨a, h', hs, q2, q3, upd_same, h4⟩
    · obtain ⟨c, g, p1, p2, p3, p4, p5⟩ := r.own j u z
      have ne : c ≠ a := fun w => q (by subst w; exact r.dis j i u o c z e p1 hs)
      exact ⟨c, g, p1, p2, p3, by rw [upd_ne ne]; exact p4, p5⟩
  · intro j k u u' c x y
    have f : ∀ (m : Nat) w, (ρ.set i (some (Sl.own o')))[m]? = some (some (.own w)) → ∃ w', ρ[m]? = some (some (.own w')) := fun m w p => by
      rcases get_set p with ⟨rfl, _, _⟩ | ⟨_, z⟩
      · exact ⟨o, e⟩
      · exact ⟨w, z⟩
    obtain ⟨w1, z1⟩ := f j u x
    obtain ⟨w2, z2⟩ := f k u' y
    exact r.dis j k w1 w2 c z1 z2
end
end L2

namespace L2
open PySem PySem.Spec PyProof.Rows
abbrev XQ := V → St → Hp → Prop
theorem frz_frz (ρ : Rho) : frz (frz ρ) = frz ρ := by
  unfold frz
  rw [List.map_map]
  congr 1
  funext x
  cases x with
  | none => rfl
  | some y => cases y <;> rfl
def ErrK (K : PySem.W.Frag) (xq : XQ) (B : Hp × Hp) (ρ : Rho) (σ : St) (x : D) : Prop := ∀ v F' H', Rel K B (frz ρ) σ F' H' → Rp K F' v x → xq v σ H'
def liftE (K : PySem.W.Frag) (xq : XQ) (f : Rho → Res D) : TE := fun σ H Q => ∃ B F ρ, Rel K B ρ σ F H ∧
  (f ρ).all (fun d => ∀ v F' H', Stp F H F' H' → Rp K F' v d → Q v H') (ErrK K xq B ρ σ)
def liftA (K : PySem.W.Frag) (xq : XQ) (f : Rho → Res (List D)) : TA := fun σ H Q => ∃ B F ρ, Rel K B ρ σ F H ∧
  (f ρ).all (fun ds => ∀ vs F' H', Stp F H F' H' → Rps K F' vs ds → Q vs H') (ErrK K xq B ρ σ)
def liftT (K : PySem.W.Frag) (xq : XQ) (f : Rho → Res Bool) : TT := fun σ H Q => ∃ B F ρ, Rel K B ρ σ F H ∧
  (f (frz ρ)).all (fun b => ∀ H', Stp F H F H' → Q b H') (ErrK K xq B ρ σ)
def liftN (K : PySem.W.Frag) (xq : XQ) (f : Rho → Res OD) : TE := fun σ H Q => ∃ B F ρ, Rel K B ρ σ F H ∧
  (f ρ).all (fun o => ∀ a h F' H', Stp F H F' H' → F' a = none → H a = none → H' a = some h → Ro K F' a h o → Q (.ref a) H') (ErrK K xq B ρ σ)
structure DE (X : Cx) (xq : XQ) (e : Expr) (f : Rho → Res D) : Prop where
  out : PE X e (liftE X.K xq f)
structure DN (X : Cx) (xq : XQ) (e : Expr) (f : Rho → Res OD) : Prop where
  out : PE X e (liftN X.K xq f)
structure DT (X : Cx) (xq : XQ) (e : Expr) (f : Rho → Res Bool) : Prop where
  out : PT X e (liftT X.K xq f)
structure DW (X : Cx) (xq : XQ) (e : Expr) (f : Rho → Res Bool) : Prop where
  out : PW X e (liftT X.K xq f)
structure DA (X : Cx) (xq : XQ) (es : List Expr) (f : Rho → Res (List D)) : Prop where
  out : PA X es (liftA X.K xq f)
  ns : es.all notStar = true
def rD (K : PySem.W.Frag) (g : D → D → Res D) : R2 := fun x y H Q => ∃ F dx dy, Same F H ∧ Rp K F x dx ∧ Rp K F y dy ∧ (g dx dy).all (fun d => ∀ v F' H', Stp F H F' H' → Rp K F' v d → Q v H') (fun _ => False)
def rDs (K : PySem.W.Frag) (g : List D → Res D) : List V → Hp → VK → Prop := fun xs H Q => ∃ F ds, Same F H ∧ Rps K F xs ds ∧ (g ds).all (fun d => ∀ v F' H', Stp F H F' H' → Rp K F' v d → Q v H') (fun _ => False)
section
variable {K : PySem.W.Frag} {xq : XQ} {B : Hp × Hp} {ρ : Rho} {σ : St} {F H F' H' : Hp} {x : D}
theorem seqE {α : Type} {fa : Rho → Res D} {g : D → Res α} {P : α → Prop} {T : VK} (R : Rel K B ρ σ F H) (h : ((fa ρ).bind g).all P (ErrK K xq B ρ σ))
    (k : ∀ d v F' H', Stp F H F' H' → Rel K B ρ σ F' H' → Rp K F' v d → (g d).all P (ErrK K xq B ρ σ) → T v H') : liftE K xq fa σ H T :=
  ⟨B, F, ρ, R, Res.all_mono (Res.all_bind.mp h) (fun d h' v F' H' s p => k d v F' H' s (R.step s) p h') (fun _ e => e)⟩
theorem seqA {α : Type} {fa : Rho → Res (List D)} {g : List D → Res α} {P : α → Prop} {T : List V → Hp → Prop} (R : Rel K B ρ σ F H) (h : ((fa ρ).bind g).all P (ErrK K xq B ρ σ))
    (k : ∀ d v F' H', Stp F H F' H' → Rel K B ρ σ F' H' → Rps K F' v d → (g d).all P (ErrK K xq B ρ σ) → T v H') : liftA K xq fa σ H T :=
  ⟨B, F, ρ, R, Res.all_mono (Res.all_bind.mp h) (fun d h' v F' H' s p => k d v F' H' s (R.step s) p h') (fun _ e => e)⟩
end
def noE {α : Type} : Res α → Res α
  | .err _ => .bad
  | r => r
section
variable {K : PySem.W.Frag} {xq : XQ} {B : Hp × Hp} {ρ : Rho} {σ : St} {F H F' H' : Hp} {x : D}
theorem doneN {r : Res D} {Q : VK} {E : D → Prop} {F0 H0 : Hp} (s : Stp F0 H0 F H) (h : (noE r).all (fun d => ∀ v F' H', Stp F0 H0 F' H' → Rp K F' v d → Q v H') E) :
    r.all (fun d => ∀ v F' H', Stp F H F' H' → Rp K F' v d → Q v H') (fun _ => False) := by
  cases r with
  | ok d => exact fun v F' H' s' p => h v F' H' (s.trans s') p
  | err x => exact h
  | bad => exact h
end
def getV (ρ : Rho) (i : Nat) : Res D := match ρ[i]? with
  | some (some (.val d)) => .ok d
  | _ => .bad
theorem getV_ok {ρ : Rho} {i : Nat} {P : D → Prop} {E : D → Prop} (h : (getV ρ i).all P E) : ∃ d, ρ[i]? = some (some (.val d)) ∧ P d := by
  unfold getV at h
  split at h
  · rename_i d e; exact ⟨d, e, h⟩
  · exact h.elim
section
variable {X : Cx} {xq : XQ} {a b c e o : Expr} {es rest : List Expr} {fa fb fc fe : Rho → Res D} {fA fB : Rho → Res Bool} {fs : Rho → Res (List D)} {pos pos' p apos cpos : Pos} {x name : Str}
theorem DE.of {t : TE} (h : PE X e t) (k : ∀ B F ρ σ H Q, Rel X.K B ρ σ F H → (fe ρ).all (fun d => ∀ v F' H', Stp F H F' H' → Rp X.K F' v d → Q v H') (ErrK X.K xq B ρ σ) → t σ H Q) : DE X xq e fe :=
  ⟨fun pins s σ H Q I z9 => un5 z9 fun B F ρ R q => h pins s σ H Q I (k B F ρ σ H Q R q)⟩
theorem DT.of {t : TT} (h : PT X e t) (k : ∀ B F ρ σ H Q, Rel X.K B ρ σ F H → (fA (frz ρ)).all (fun b => ∀ H', Stp F H F H' → Q b H') (ErrK X.K xq B ρ σ) → t σ H Q) : DT X xq e fA :=
  ⟨fun pins s σ H Q I z9 => un5 z9 fun B F ρ R q => h pins s σ H Q I (k B F ρ σ H Q R q)⟩
theorem d_C {v : V} {d : D} (h : PE X e (tC v)) (p : ∀ F, Rp X.K F v d) : DE X xq e (fun _ => .ok d) := DE.of h fun B F ρ σ H Q R q => q v F H (Stp.refl R.fh) (p F)
theorem d_int {i j pos} : DE X xq (.Constant (.int i) j pos) (fun _ => .ok (.int i)) := d_C pe_int fun _ => .int i
theorem d_bl {i j pos} : DE X xq (.Constant (.bool i) j pos) (fun _ => .ok (.bl i)) := d_C pe_bl fun _ => .bl i
theorem d_str {z : Str} {j pos} (h : z.length ≤ sizeLine := by decide) : DE X xq (.Constant (.str z) j pos) (fun _ => .ok (.str z)) := d_C pe_str fun _ => .str h
theorem dv (i : Nat) {x : Str} {pos : Pos} (hN : X.N[i]? = some x := by rfl) (hv : Vis X.env.scope x := by first | exact Or.inl rfl | exact Or.inr (Or.inl rfl) | exact Or.inr (Or.inr rfl)) (hd : (x == ("__debug__" : Str)) = false := by decide)
    (hcd : (x == ("__classdict__" : Str)) = false := by decide) : DE X xq (.Name x pos) (fun ρ => getV ρ i) :=
  DE.of (pe_var hN hv hd hcd) fun B F ρ σ H Q R q => by
    obtain ⟨d, e, h⟩ := getV_ok q
    obtain ⟨v, h1, h2⟩ := R.val i d e
    exact ⟨v, h1, h v F H (Stp.refl R.fh) h2⟩
def GloD (K : PySem.W.Frag) (mg : Str → Option Value) (x : Str) (d : D) : Prop := ∃ v, Glo mg x v ∧ ∀ F, Rp K F v d
theorem d_glo {mg : Str → Option Value} {K : PySem.W.Frag} {d : D} (h : GloD K mg x d) (hg : Gl X x := by rfl) (em : X.mg = mg := by rfl) (eK : X.K = K := by rfl) (hd : (x == ("__debug__" : Str)) = false := by decide) : DE X xq (.Name x pos) (fun _ => .ok d) := by
  obtain ⟨v, h1, h2⟩ := h
  subst eK
  exact d_C (pe_glo h1 hg em hd) h2
theorem d_ty {T : String} (hm : X.mg x = none) (hv : bootBuiltins x = some (.type T)) (hg : Gl X x := by rfl) (hn : x ≠ "__name__" := by decide) (hd : (x == ("__debug__" : Str)) = false := by decide) : DE X xq (.Name x pos) (fun _ => .ok (.ty T)) :=
  d_C (v := .ty T) (pe_bltn hg hm hv rfl hn hd) fun _ => .ty T
theorem d_op {op : Operator} {g : D → D → Res D} (ho : OpR X (binaryOp op) (rD X.K g)) (ha : DE X xq a fa) (hb : DE X xq b fb) : DE X xq (.BinOp a op b pos) (fun ρ => (fa ρ).bind fun x => (fb ρ).bind fun y => noE (g x y)) :=
  DE.of (pe_op ho ha.out hb.out) fun B F ρ σ H Q R q => seqE R q fun d v F1 H1 s1 R1 p1 q1 => seqE R1 q1 fun d2 v2 F2 H2 s2 R2 p2 q2 =>
    ⟨F2, d, d2, R2.fh, p1.same s2.ff, p2, doneN (s1.trans s2) q2⟩
theorem d_cmp {op : CmpOp} {g : D → D → Res D} (ho : OpR X (compareOp op) (rD X.K g)) (ha : DE X xq a fa) (hb : DE X xq b fb) (hm : behindInMarks op b = false := by first | exact nomark _ | with_unfolding_all rfl) :
    DE X xq (.Compare a [op] [b] pos) (fun ρ => (fa ρ).bind fun x => (fb ρ).bind fun y => noE (g x y)) :=
  DE.of (pe_cmpR ho ha.out hb.out hm) fun B F ρ σ H Q R q => seqE R q fun d v F1 H1 s1 R1 p1 q1 => seqE R1 q1 fun d2 v2 F2 H2 s2 R2 p2 q2 =>
    ⟨F2, d, d2, R2.fh, p1.same s2.ff, p2, doneN (s1.trans s2) q2⟩
theorem d_ix {g : D → D → Res D} (ho : IxR X (rD X.K g)) (ha : DE X xq a fa) (hb : DE X xq b fb) (hs : PlainIx b := by intro _ _; rfl) : DE X xq (.Subscript a b pos) (fun ρ => (fa ρ).bind fun x => (fb ρ).bind fun y => noE (g x y)) :=
  DE.of (pe_ix ho ha.out hb.out hs) fun B F ρ σ H Q R q => seqE R q fun d v F1 H1 s1 R1 p1 q1 => seqE R1 q1 fun d2 v2 F2 H2 s2 R2 p2 q2 =>
    ⟨F2, d, d2, R2.fh, p1.same s2.ff, p2, doneN (s1.trans s2) q2⟩
def asB : D → Res Bool
  | .bl b => .ok b
  | _ => .bad
theorem asB_ok {d : D} {P : Bool → Prop} {E : D → Prop} (h : (asB d).all P E) : ∃ b, d = .bl b ∧ P b := by
  cases d <;> first | exact h.elim | exact ⟨_, rfl, h⟩
theorem Rp.blI {K : PySem.W.Frag} {F : Hp} {v : V} {b : Bool} (h : Rp K F v (.bl b)) : v = .bl b := by cases h; rfl
def fChain (g g' : D → D → Res D) (x y : D) (z : Res D) : Res D := (noE (g x y)).bind fun w => (asB w).bind fun c => if c = true then z.bind fun z => noE (g' y z) else .ok (.bl false)
theorem d_chain {op op' : CmpOp} {g g' : D → D → Res D} (ho : OpR X (compareOp op) (rD X.K g)) (ho' : OpR X (compareOp op') (rD X.K g')) (ha : DE X xq a fa) (hb : DE X xq b fb) (hc : DE X xq c fc)
    (hm : lastMarks [op, op'] [b, c] = false := by with_unfolding_all rfl) : DE X xq (.Compare a [op, op'] [b, c] pos) (fun ρ => (fa ρ).bind fun x => (fb ρ).bind fun y => fChain g g' x y (fc ρ)) :=
  DE.of (pe_chain ho ho' ha.out hb.out hc.out hm) fun B F ρ σ H Q R q => seqE R q fun d v F1 H1 s1 R1 p1 q1 => seqE R1 q1 fun d2 v2 F2 H2 s2 R2 p2 q2 => by
    refine ⟨F2, d, d2, R2.fh, p1.same s2.ff, p2, ?_⟩
    unfold fChain at q2
    have q3 := Res.all_bind.mp q2
    generalize g d d2 = r at q3
    cases r with
    | err x => exact q3
    | bad => exact q3
    | ok w =>
      obtain ⟨k, rfl, q4⟩ := asB_ok (Res.all_bind.mp (show ((asB w).bind _).all _ _ from q3))
      intro v3 F3 H3 s3 p3
      refine ⟨k, p3.blI, ?_⟩
      have s03 := (s1.trans s2).trans s3
      cases k with
      | false => exact q4 (.bl false) F3 H3 s03 (.bl false)
      | true => exact seqE (R2.step s3) q4 fun d4 v4 F4 H4 s4 R4 p4 q5 => ⟨F4, d2, d4, R4.fh, (p2.same s3.ff).same s4.ff, p4, doneN (s03.trans s4) q5⟩
theorem d_one {op} (h : DE X xq a fa) : DE X xq (.BoolOp op [a] pos) fa := ⟨pe_one h.out⟩
theorem d_and (ha : DE X xq a fa) (hb : DE X xq (.BoolOp .And (b :: rest) pos) fb) : DE X xq (.BoolOp .And (a :: b :: rest) pos) (fun ρ => (fa ρ).bind fun x => (asB x).bind fun k => if k = true then fb ρ else .ok (.bl false)) :=
  DE.of (pe_and ha.out hb.out) fun B F ρ σ H Q R q => seqE R q fun d v F1 H1 s1 R1 p1 q1 => by
    obtain ⟨k, rfl, q2⟩ := asB_ok (Res.all_bind.mp q1)
    refine ⟨k, p1.blI, ?_⟩
    cases k with
    | false => exact q2 _ F1 H1 s1 (.bl false)
    | true => exact ⟨B, F1, ρ, R1, Res.all_mono q2 (fun d k v F' H' s p => k v F' H' (s1.trans s) p) fun _ e => e⟩
theorem ErrK.frz {K : PySem.W.Frag} {B : Hp × Hp} {ρ : Rho} {σ : St} {x : D} (h : ErrK K xq B ρ σ x) : ErrK K xq B (frz ρ) σ x := fun v F' H' R p => h v F' H' (frz_frz ρ ▸ R) p
theorem d_ife (hc : DT X xq c fA) (ha : DE X xq a fa) (hb : DE X xq b fb) : DE X xq (.IfExp c a b pos) (fun ρ => (fA (frz ρ)).bind fun k => if k = true then fa ρ else fb ρ) :=
  DE.of (pe_ifExp hc.out ha.out hb.out) fun B F ρ σ H Q R q => ⟨B, F, ρ, R, Res.all_mono (Res.all_bind.mp q) (fun k q1 H1 s1 => by
    cases k with
    | true => exact ⟨B, F, ρ, R.step s1, Res.all_mono q1 (fun d k v F' H' s p => k v F' H' (s1.trans s) p) fun _ e => e⟩
    | false => exact ⟨B, F, ρ, R.step s1, Res.all_mono q1 (fun d k v F' H' s p => k v F' H' (s1.trans s) p) fun _ e => e⟩) fun _ e => e⟩
theorem tfrz {P : Bool → Prop} {K : PySem.W.Frag} {B : Hp × Hp} {ρ : Rho} {σ : St} {F H : Hp} {Q : Bool → Hp → Prop} (R : Rel K B ρ σ F H) (h : ((fe (frz ρ)).bind asB).all (fun b => ∀ H', Stp F H F H' → Q b H') (ErrK K xq B ρ σ)) :
    liftE K xq fe σ H (fun x H' => ∃ k, x = .bl k ∧ Q k H') := by
  obtain ⟨F1, e1, R1⟩ := R.frz
  refine ⟨B, F1, L2.frz ρ, R1, Res.all_mono (Res.all_bind.mp h) (fun d q v F' H' s p => ?_) fun _ e => e.frz⟩
  obtain ⟨k, rfl, q⟩ := asB_ok q
  exact ⟨k, p.blI, q H' (Stp.only R.fh s.hh)⟩
theorem dt_val (h : DE X xq e fe) (he : ∀ whole, isTrue e X.env whole = (do let v ← whole; standAt e.pos; holding [v] (truthy v)) := by intro _; rfl) : DT X xq e (fun ρ => (fe ρ).bind asB) :=
  DT.of (pt_val h.out he) fun B F ρ σ H Q R q => tfrz (P := fun _ => True) R q
theorem dt_cmp {op : CmpOp} {g : D → D → Res D} (ho : OpR X (compareOp op) (rD X.K g)) (ha : DE X xq a fa) (hb : DE X xq b fb) (hm : behindInMarks op b = false := by first | exact nomark _ | with_unfolding_all rfl) :
    DT X xq (.Compare a [op] [b] pos) (fun ρ => (fa ρ).bind fun x => (fb ρ).bind fun y => (noE (g x y)).bind asB) :=
  DT.of (pt_cmpR ho ha.out hb.out hm) fun B F ρ σ H Q R q => by
    obtain ⟨F0, e0, R0⟩ := R.frz
    have q' := Res.all_mono q (fun _ k => k) (fun x (e : ErrK X.K xq B ρ σ x) => e.frz)
    refine seqE R0 q' fun d v F1 H1 s1 R1 p1 q1 => seqE R1 q1 fun d2 v2 F2 H2 s2 R2 p2 q2 => ⟨F2, d, d2, R2.fh, p1.same s2.ff, p2, ?_⟩
    have q3 := Res.all_bind.mp q2
    generalize g d d2 = r at q3
    cases r with
    | err x => exact q3
    | bad => exact q3
    | ok w =>
      obtain ⟨k, rfl, q4⟩ := asB_ok (show (asB w).all _ _ from q3)
      exact fun v3 F3 H3 s3 p3 => ⟨k, p3.blI, q4 H3 (Stp.only R.fh ((s1.hh.trans s2.hh).trans s3.hh))⟩
theorem seqT {α : Type} {K : PySem.W.Frag} {B : Hp × Hp} {ρ : Rho} {σ : St} {F H : Hp} {g : Bool → Res α} {P : α → Prop} {T : Bool → Hp → Prop} (R : Rel K B ρ σ F H) (h : ((fA (frz ρ)).bind g).all P (ErrK K xq B ρ σ))
    (k : ∀ b H', Stp F H F H' → Rel K B ρ σ F H' → (g b).all P (ErrK K xq B ρ σ) → T b H') : liftT K xq fA σ H T :=
  ⟨B, F, ρ, R, Res.all_mono (Res.all_bind.mp h) (fun d h' H' s => k d H' s (R.step s) h') (fun _ e => e)⟩
theorem dt_not (ha : DT X xq a fA) : DT X xq (.UnaryOp .Not a pos) (fun ρ => (fA ρ).bind fun k => .ok (!k)) :=
  DT.of (pt_not ha.out) fun B F ρ σ H Q R q => seqT R q fun k H1 s1 R1 q1 => q1 H1 s1
theorem dt_w (h : DW X xq e fA) : DT X xq e fA := ⟨h.out.pt⟩
theorem dw_and1 (ha : DT X xq a fA) : DW X xq (.BoolOp .And [a] pos) fA := ⟨pw_and1 ha.out⟩
theorem dw_or1 (ha : DT X xq a fA) : DW X xq (.BoolOp .Or [a] pos) fA := ⟨pw_or1 ha.out⟩
theorem dw_and (ha : DT X xq a fA) (hb : DW X xq (.BoolOp .And (b :: rest) pos) fB) : DW X xq (.BoolOp .And (a :: b :: rest) pos) (fun ρ => (fA ρ).bind fun k => if k = true then fB ρ else .ok false) :=
  ⟨fun wh pins s σ H Q I z9 => un5 z9 fun B F ρ R q => pw_and ha.out hb.out wh pins s σ H Q I (seqT R q fun k H1 s1 R1 q1 => by
    cases k with
    | false => exact q1 H1 s1
    | true => exact ⟨B, F, ρ, R1, Res.all_mono q1 (fun k q H2 s2 => q H2 (s1.trans s2)) fun _ e => e⟩)⟩
theorem dw_or (ha : DT X xq a fA) (hb : DW X xq (.BoolOp .Or (b :: rest) pos) fB) : DW X xq (.BoolOp .Or (a :: b :: rest) pos) (fun ρ => (fA ρ).bind fun k => if k = true then .ok true else fB ρ) :=
  ⟨fun wh pins s σ H Q I z9 => un5 z9 fun B F ρ R q => pw_or ha.out hb.out wh pins s σ H Q I (seqT R q fun k H1 s1 R1 q1 => by
    cases k with
    | true => exact q1 H1 s1
    | false => exact ⟨B, F, ρ, R1, Res.all_mono q1 (fun k q H2 s2 => q H2 (s1.trans s2)) fun _ e => e⟩)⟩
theorem da_nil : DA X xq [] (fun _ => .ok []) := ⟨fun pos pins s σ H Q I z9 => un5 z9 fun B F ρ R q => pa_nil pos pins s σ H Q I (q [] F H (Stp.refl R.fh) .nil), rfl⟩
theorem da_cons (ha : DE X xq e fe) (hr : DA X xq es fs) (hs : notStar e = true := by rfl) : DA X xq (e :: es) (fun ρ => (fe ρ).bind fun d => (fs ρ).bind fun ds => .ok (d :: ds)) :=
  ⟨fun pos pins s σ H Q I z9 => un5 z9 fun B F ρ R q => pac ha.out hr.out hs pos pins s σ H Q I (seqE R q fun d v F1 H1 s1 R1 p1 q1 => seqA R1 q1 fun ds vs F2 H2 s2 R2 p2 q2 =>
    q2 (v :: vs) F2 H2 (s1.trans s2) (.cons (p1.same s2.ff) p2)), by rw [List.all_cons, hs, hr.ns]; rfl⟩
def szD {α : Type} (ds : List D) (k : Res α) : Res α := if ds.length ≤ sizeLine then k else .bad
theorem szD_ok {α : Type} {ds : List D} {k : Res α} {P : α → Prop} {E : D → Prop} (h : (szD ds k).all P E) : ds.length ≤ sizeLine ∧ k.all P E := by
  unfold szD at h
  by_cases q : ds.length ≤ sizeLine
  · rw [if_pos q] at h; exact ⟨q, h⟩
  · rw [if_neg q] at h; exact h.elim
theorem d_lst (h : DA X xq es fs) : DE X xq (.List es pos) (fun ρ => (fs ρ).bind fun ds => szD ds (.ok (.lst ds))) :=
  DE.of (pe_lst h.out) fun B F ρ σ H Q R q => seqA R q fun ds vs F1 H1 s1 R1 p1 q1 => by
    obtain ⟨hz, q2⟩ := szD_ok q1
    exact ⟨p1.length ▸ hz, fun p n => q2 _ _ _ (s1.trans (Stp.new R1.fh n)) (.lst (.inl upd_same) (p1.same (Stp.new R1.fh n).ff))⟩
theorem dn_lst (h : DA X xq es fs) : DN X xq (.List es pos) (fun ρ => (fs ρ).bind fun ds => szD ds (.ok (.l ds))) :=
  ⟨fun pins s σ H Q I z9 => un5 z9 fun B F ρ R q => pe_lst h.out pins s σ H Q I (seqA R q fun ds vs F1 H1 s1 R1 p1 q1 => by
    obtain ⟨hz, q2⟩ := szD_ok q1
    refine ⟨p1.length ▸ hz, fun p n => q2 p _ F1 _ (s1.trans (Stp.only R1.fh (same_upd_none n))) (R1.fh.free n) (s1.hh.free n) upd_same (.l p1)⟩)⟩
theorem DN.de {f : Rho → Res OD} (h : DN X xq e f) : DE X xq e (fun ρ => (f ρ).bind fun o => .ok o.toD) :=
  ⟨fun pins s σ H Q I z9 => un5 z9 fun B F ρ R q => h.out pins s σ H Q I ⟨B, F, ρ, R, Res.all_mono (Res.all_bind.mp q) (fun o q1 a hh F' H' s1 n1 n2 e1 r1 => by
    have s2 : Stp F H (upd F' a hh) H' := ⟨s1.ff.trans (same_upd_none n1), fun b u x => by
      unfold upd at x
      by_cases z : b = a
      · rw [if_pos z] at x; cases x; subst z; exact e1
      · rw [if_neg z] at x; exact s1.fh b u x, s1.hh, fun b x y => by
      unfold upd
      by_cases z : b = a
      · subst z; exact absurd n2 y
      · rw [if_neg z]; exact s1.no b x y⟩
    exact q1 _ _ _ s2 ((Ro.same (same_upd_none n1) r1).rp upd_same)) fun _ e => e⟩⟩
end
end L2

namespace L2
open PySem PySem.Spec PyProof.Rows
inductive Out where
  | nx (ρ : Rho) | rt (d : D) | bk (ρ : Rho) | ct (ρ : Rho) | er (x : D) (ρ : Rho) | bad
namespace Out
def all (o : Out) (N : Rho → Prop) (R : D → Prop) (B C : Rho → Prop) (E : Rho → D → Prop) : Prop := match o with
  | .nx ρ => N ρ
  | .rt d => R d
  | .bk ρ => B ρ
  | .ct ρ => C ρ
  | .er x ρ => E ρ x
  | .bad => False
def andThen (o : Out) (f : Rho → Out) : Out := match o with
  | .nx ρ => f ρ
  | o => o
@[simp] theorem then_nx (ρ : Rho) (f : Rho → Out) : (Out.nx ρ).andThen f = f ρ := rfl
@[simp] theorem then_rt (d : D) (f : Rho → Out) : (Out.rt d).andThen f = .rt d := rfl
@[simp] theorem then_bk (ρ : Rho) (f : Rho → Out) : (Out.bk ρ).andThen f = .bk ρ := rfl
@[simp] theorem then_ct (ρ : Rho) (f : Rho → Out) : (Out.ct ρ).andThen f = .ct ρ := rfl
@[simp] theorem then_er (x : D) (ρ : Rho) (f : Rho → Out) : (Out.er x ρ).andThen f = .er x ρ := rfl
@[simp] theorem then_bad (f : Rho → Out) : Out.bad.andThen f = .bad := rfl
end Out
def Res.go {α : Type} (r : Res α) (ρ : Rho) (k : α → Out) : Out := match r with
  | .ok a => k a
  | .err x => .er x (frz ρ)
  | .bad => .bad
@[simp] theorem go_ok {α : Type} (a : α) (ρ : Rho) (k : α → Out) : (Res.ok a).go ρ k = k a := rfl
@[simp] theorem go_err {α : Type} (x : D) (ρ : Rho) (k : α → Out) : (Res.err x).go ρ k = .er x (frz ρ) := rfl
@[simp] theorem go_bad {α : Type} (ρ : Rho) (k : α → Out) : Res.bad.go ρ k = .bad := rfl
theorem go_all {α : Type} {r : Res α} {ρ : Rho} {k : α → Out} {N : Rho → Prop} {R : D → Prop} {B C : Rho → Prop} {E : Rho → D → Prop} (h : (r.go ρ k).all N R B C E) : r.all (fun a => (k a).all N R B C E) (E (frz ρ)) := by
  cases r <;> exact h
theorem then_all {o : Out} {f : Rho → Out} {N : Rho → Prop} {R : D → Prop} {B C : Rho → Prop} {E : Rho → D → Prop} (h : (o.andThen f).all N R B C E) : o.all (fun ρ => (f ρ).all N R B C E) R B C E := by
  cases o <;> exact h
structure OkS (K : PySem.W.Frag) (xq : XQ) (B : Hp × Hp) (T : Ends) (o : Out) : Prop where
  out : o.all (fun ρ => ∀ σ F H, Rel K B ρ σ F H → T.nx σ H) (fun d => ∀ v F H, Stp B.1 B.2 F H → Rp K F v d → T.rt v H)
    (fun ρ => ∀ σ F H, Rel K B ρ σ F H → T.bk σ H) (fun ρ => ∀ σ F H, Rel K B ρ σ F H → T.ct σ H) (fun ρ x => ∀ v σ F H, Rel K B ρ σ F H → Rp K F v x → xq v σ H)
def liftS (K : PySem.W.Frag) (xq : XQ) (f : Rho → Out) : TS := fun T σ H => ∃ B F ρ, Rel K B ρ σ F H ∧ OkS K xq B T (f ρ)
structure DS (X : Cx) (xq : XQ) (st : Stmt) (f : Rho → Out) : Prop where
  out : PS X st (liftS X.K xq f)
structure DB (X : Cx) (xq : XQ) (sts : List Stmt) (f : Rho → Out) : Prop where
  out : PSs X sts (liftS X.K xq f)
def liftG (K : PySem.W.Frag) (ix : List Nat) (g : D → Rho → Res Rho) : TG := fun v σ H Q => ∃ B F ρ d, Rel K B ρ σ F H ∧ Rp K F v d ∧
  (g d ρ).all (fun ρ' => ∀ σ', Rel K B ρ' σ' F H → σ'.length = σ.length → (∀ j, j ∉ ix → σ'[j]? = σ[j]?) → Q σ' H) (fun _ => False)
def liftGs (K : PySem.W.Frag) (ix : List Nat) (g : List D → Rho → Res Rho) : TGs := fun vs σ H Q => ∃ B F ρ ds, Rel K B ρ σ F H ∧ Rps K F vs ds ∧
  (g ds ρ).all (fun ρ' => ∀ σ', Rel K B ρ' σ' F H → σ'.length = σ.length → (∀ j, j ∉ ix → σ'[j]? = σ[j]?) → Q σ' H) (fun _ => False)
structure DG (X : Cx) (tg : Expr) (ix : List Nat) (g : D → Rho → Res Rho) : Prop where
  out : PG X tg (liftG X.K ix g)
structure DGs (X : Cx) (tgs : List Expr) (ix : List Nat) (g : List D → Rho → Res Rho) : Prop where
  out : PGs X tgs (liftGs X.K ix g)
structure Feed (K : PySem.W.Frag) (F : Hp) (J : It) (ds : List D) : Prop where
  go : ∀ i H, Same F H → i < ds.length → J.go i H
  yld : ∀ i F1 H x H' d, Same F F1 → Same F1 H → ds[i]? = some d → J.yld i H x H' → ∃ F', Stp F1 H F' H' ∧ Rp K F' x d
  stop : ∀ i H, Same F H → ds.length ≤ i → J.stop i H
def liftI (K : PySem.W.Frag) (xq : XQ) (f : Rho → Res (List D)) : TI := fun σ H R => ∃ B F ρ, Rel K B ρ σ F H ∧
  (f ρ).all (fun ds => ∀ J F' H', Stp F H F' H' → Feed K F' J ds → R J H') (ErrK K xq B ρ σ)
structure DI (X : Cx) (xq : XQ) (tg iter : Expr) (f : Rho → Res (List D)) : Prop where
  out : PI X tg iter (liftI X.K xq f)
theorem Feed.list {K : PySem.W.Frag} {F : Hp} {a : Addr} {xs : List V} {ds : List D} (h : SqL K F a xs) (r : Rps K F xs ds) : Feed K F (Itl K a) ds where
  go i H e hi := ⟨xs, xs[i]'(r.length ▸ hi), e.seq h, by simp [r.length ▸ hi]⟩
  yld i F1 H x H' d e1 e2 hd y := by
    obtain ⟨rfl, y⟩ := y
    obtain ⟨v, hv, p⟩ := r.get hd
    have : xs[i]? = some x := y xs ((e1.trans e2).seq h)
    rw [hv] at this; cases this
    exact ⟨F1, Stp.refl e2, p.same e1⟩
  stop i H e hi := ⟨xs, e.seq h, r.length ▸ hi⟩
theorem Feed.tup {K : PySem.W.Frag} {F : Hp} {a : Addr} {xs : List V} {ds : List D} (h : SqT K F a xs) (r : Rps K F xs ds) : Feed K F (Itt K a) ds where
  go i H e hi := ⟨xs, xs[i]'(r.length ▸ hi), e.seqT h, by simp [r.length ▸ hi]⟩
  yld i F1 H x H' d e1 e2 hd y := by
    obtain ⟨rfl, y⟩ := y
    obtain ⟨v, hv, p⟩ := r.get hd
    have : xs[i]? = some x := y xs ((e1.trans e2).seqT h)
    rw [hv] at this; cases this
    exact ⟨F1, Stp.refl e2, p.same e1⟩
  stop i H e hi := ⟨xs, e.seqT h, r.length ▸ hi⟩
theorem one_le_line : (1 : Nat) ≤ sizeLine := by decide
def chars (z : Str) : List D := z.cps.toList.map fun c => .str ⟨#[c]⟩
theorem Feed.str {K : PySem.W.Frag} {F : Hp} (z : Str) : Feed K F (Its z) (chars z) where
  go i H e hi := by
    show i < z.cps.size
    simpa [chars] using hi
  yld i F1 H x H' d e1 e2 hd y := by
    obtain ⟨rfl, c, hc, rfl⟩ := y
    have e3 : z.cps.toList[i]? = some c := by simpa using hc
    unfold chars at hd
    rw [List.getElem?_map, e3] at hd
    cases hd
    exact ⟨F1, Stp.refl e2, .str (by show (#[c] : Array Nat).size ≤ sizeLine; exact one_le_line)⟩
  stop i H e hi := by
    show z.cps.size ≤ i
    simpa [chars] using hi
def intL (lo : Int) (n : Nat) : List D := (List.range n).map fun (i : Nat) => .int (lo + (i : Int))
theorem Feed.rng {K : PySem.W.Frag} {F : Hp} (lo : Int) (n : Nat) : Feed K F (Itr lo n) (intL lo n) where
  go i H e hi := by
    show i < n
    simpa [intL] using hi
  yld i F1 H x H' d e1 e2 hd y := by
    obtain ⟨rfl, rfl⟩ := y
    have hi : i < n := by
      have := (List.getElem?_eq_some_iff.mp hd).1
      simpa [intL] using this
    unfold intL at hd
    rw [List.getElem?_map, List.getElem?_range hi] at hd
    cases hd
    exact ⟨F1, Stp.refl e2, .int _⟩
  stop i H e hi := by
    show n ≤ i
    simpa [intL] using hi
section
variable {X : Cx} {xq : XQ} {st : Stmt} {sts : List Stmt} {e c tg : Expr} {fe : Rho → Res D} {fT : Rho → Res Bool} {f g : Rho → Out} {pos pos' : Pos} {x : Str}
theorem DS.of {t : TS} (h : PS X st t) (k : ∀ B F ρ σ H T, Rel X.K B ρ σ F H → OkS X.K xq B T (f ρ) → t T σ H) : DS X xq st f :=
  ⟨fun pins s σ H T I z9 => un5 z9 fun B F ρ R q => h pins s σ H T I (k B F ρ σ H T R q)⟩
theorem db_nil : DB X xq [] (fun ρ => .nx ρ) := ⟨fun pins s σ H T I z9 => un5 z9 fun B F ρ R q => pss_nil pins s σ H T I (q.out σ F H R)⟩
theorem db_one (h : DS X xq st f) : DB X xq [st] f := ⟨pss_one h.out⟩
theorem db_cons (h1 : DS X xq st f) (h2 : DB X xq sts g) : DB X xq (st :: sts) (fun ρ => (f ρ).andThen g) :=
  ⟨fun pins s σ H T I z9 => un5 z9 fun B F ρ R q => pss_cons h1.out h2.out pins s σ H T I ⟨B, F, ρ, R, ⟨by
    have q1 := then_all q.out
    generalize f ρ = o at q1
    cases o with
    | nx ρ1 => exact fun σ1 F1 H1 R1 => ⟨B, F1, ρ1, R1, ⟨q1⟩⟩
    | rt d => exact q1
    | bk r => exact q1
    | ct r => exact q1
    | er x r => exact q1
    | bad => exact q1⟩⟩⟩
theorem errOf {K : PySem.W.Frag} {B : Hp × Hp} {ρ : Rho} {σ : St} {x : D} (h : ∀ v σ F H, Rel K B (frz ρ) σ F H → Rp K F v x → xq v σ H) : ErrK K xq B ρ σ x := fun v F H R p => h v σ F H R p
theorem ds_ret (he : DE X xq e fe) : DS X xq (.Return (some e) pos) (fun ρ => (fe (frz ρ)).go ρ fun d => .rt d) :=
  DS.of (ps_ret he.out) fun B F ρ σ H T R q => by
    obtain ⟨F1, e1, R1⟩ := R.frz
    exact ⟨B, F1, frz ρ, R1, Res.all_mono (go_all q.out) (fun d q v F' H' s p => q v F' H' (R1.st.trans s) p) fun x q => (errOf q).frz⟩
theorem ds_if {a b : List Stmt} (hc : DT X xq c fT) (ha : DB X xq a f) (hb : DB X xq b g) : DS X xq (.If c a b pos) (fun ρ => (fT (frz ρ)).go ρ fun k => if k = true then f ρ else g ρ) :=
  DS.of (ps_if hc.out ha.out hb.out) fun B F ρ σ H T R q => ⟨B, F, ρ, R, Res.all_mono (go_all q.out) (fun k q H' s => by
    cases k with
    | true => exact ⟨B, F, ρ, R.step s, ⟨q⟩⟩
    | false => exact ⟨B, F, ρ, R.step s, ⟨q⟩⟩) fun x q => errOf q⟩
theorem ds_n {i : Nat} (hN : X.N.Nodup) (he : DE X xq e fe) (hi : X.N.findIdx? (fun y => y == x) = some i := by rfl) (hx : Loc X.env.scope x := by first | exact Or.inl rfl | exact Or.inr rfl) (hs : swapsWith e (some (.Name x pos')) pos.line X.env = pure false := by rfl)
    (hf : X.fn x = true ∨ X.env.scope.names.lookup x = some .local := by first | exact .inl rfl | exact .inr rfl) : DS X xq (.Assign [.Name x pos'] e pos) (fun ρ => (fe ρ).go ρ fun d => .nx (ρ.set i (some (.val d)))) :=
  DS.of (ps_n hN he.out hi hx hs hf) fun B F ρ σ H T R q => ⟨B, F, ρ, R, Res.all_mono (go_all q.out) (fun d q v F' H' s p => q _ F' H' ((R.step s).set p)) fun x q => errOf q⟩
theorem ds_own {i : Nat} {fn : Rho → Res OD} (hN : X.N.Nodup) (he : DN X xq e fn) (hi : X.N.findIdx? (fun y => y == x) = some i := by rfl) (hx : Loc X.env.scope x := by first | exact Or.inl rfl | exact Or.inr rfl) (hs : swapsWith e (some (.Name x pos')) pos.line X.env = pure false := by rfl)
    (hf : X.fn x = true ∨ X.env.scope.names.lookup x = some .local := by first | exact .inl rfl | exact .inr rfl) : DS X xq (.Assign [.Name x pos'] e pos) (fun ρ => (fn ρ).go ρ fun o => .nx (ρ.set i (some (.own o)))) :=
  DS.of (ps_n hN he.out hi hx hs hf) fun B F ρ σ H T R q => ⟨B, F, ρ, R, Res.all_mono (go_all q.out) (fun o q a h F' H' s n1 n2 e1 r1 => q _ F' H' ((R.step s).setOwn n1 (R.st.hh.free n2) e1 r1 fun j u w z => by
      obtain ⟨b, hh, p1, p2, p3, p4, p5⟩ := R.own j u w
      rw [p1] at z; cases z; rw [p4] at n2; cases n2)) fun x q => errOf q⟩
def flatD : D → Bool
  | .non | .bl _ | .int _ | .str _ | .ty _ => true
  | _ => false
def flatC (d : D) : Res D := if flatD d = true then .ok d else .bad
theorem Rp.flat {K : PySem.W.Frag} {F F' : Hp} {v : V} {d : D} (h : Rp K F v d) (f : flatD d = true) : Rp K F' v d := by
  cases h <;> first | (cases f; done) | exact .non | exact .bl _ | exact .int _ | exact .ty _ | (exact .str (by assumption)) | exact absurd f (by simp [flatD])
theorem DE.flat (h : DE X xq e fe) : DE X xq e (fun ρ => (fe (frz ρ)).bind flatC) :=
  DE.of h.out fun B F ρ σ H Q R q => by
    obtain ⟨F1, e1, R1⟩ := R.frz
    refine ⟨B, F1, frz ρ, R1, Res.all_mono (Res.all_bind.mp q) (fun d q v F' H' s p => ?_) fun _ e => e.frz⟩
    unfold flatC at q
    by_cases z : flatD d = true
    · rw [if_pos z] at q
      exact q v F H' (Stp.only R.fh s.hh) (p.flat z)
    · rw [if_neg z] at q; exact q.elim
theorem DB.fix (h : DB X xq sts f) : DB X xq sts (fun ρ => f (frz ρ)) :=
  ⟨fun pins s σ H T I z9 => un5 z9 fun B F ρ R q => let ⟨F1, _, R1⟩ := R.frz; h.out pins s σ H T I ⟨B, F1, frz ρ, R1, q⟩⟩
theorem dg_n {i : Nat} (hN : X.N.Nodup) (hi : X.N.findIdx? (fun y => y == x) = some i := by rfl) (hx : Loc X.env.scope x := by first | exact Or.inl rfl | exact Or.inr rfl) (hf : X.fn x = true ∨ X.env.scope.names.lookup x = some .local := by first | exact .inl rfl | exact .inr rfl) :
    DG X (.Name x pos) [i] (fun d ρ => .ok (ρ.set i (some (.val d)))) :=
  ⟨fun pins s σ H v u Q I rv ⟨B, F, ρ, d, R, p, q⟩ => pg_n hN hi hx hf pins s σ H v u Q I rv (q (σ.set i (some v)) (R.set p) (by simp) fun j hj => by
    rw [set_off (fun z => hj (by simp [z]))])⟩
theorem dgs_nil : DGs X [] [] (fun ds ρ => match ds with | [] => .ok ρ | _ => .bad) :=
  ⟨fun pins s σ H vs us Q I rv ⟨B, F, ρ, ds, R, p, q⟩ => pgs_nil pins s σ H vs us Q I rv (by
    cases p with
    | nil => exact ⟨rfl, q σ R rfl fun _ _ => rfl⟩
    | cons _ _ => exact q.elim)⟩
theorem dgs_cons {ix jx : List Nat} {tgs : List Expr} {g : D → Rho → Res Rho} {gs : List D → Rho → Res Rho} (h1 : DG X e ix g) (h2 : DGs X tgs jx gs) (hs : (assignEach (e :: tgs) X.env).map (·.2) = assign e X.env :: (assignEach tgs X.env).map (·.2) := by rfl) :
    DGs X (e :: tgs) (ix ++ jx) (fun ds ρ => match ds with | d :: r => (g d ρ).bind (gs r) | _ => .bad) :=
  ⟨fun pins s σ H vs us Q I rv ⟨B, F, ρ, ds, R, p, q⟩ => pgs_cons h1.out h2.out hs pins s σ H vs us Q I rv (by
    cases p with
    | nil => exact q.elim
    | cons p1 p2 =>
      refine ⟨_, _, rfl, B, F, ρ, _, R, p1, Res.all_mono (Res.all_bind.mp q) (fun ρ1 q1 σ1 R1 l1 k1 => ⟨B, F, ρ1, _, R1, p2, Res.all_mono q1 (fun ρ2 q2 σ2 R2 l2 k2 => q2 σ2 R2 (l2.trans l1) fun j hj => ?_) fun _ e => e⟩) fun _ e => e⟩
      rw [k2 j fun z => hj (List.mem_append_right _ z), k1 j fun z => hj (List.mem_append_left _ z)])⟩
def asT (n : Nat) : D → Res (List D)
  | .tup ds => if ds.length = n then .ok ds else .bad
  | _ => .bad
theorem dg_tup {k n : Nat} {ix : List Nat} {tgs : List Expr} {gs : List D → Rho → Res Rho} (hc : X.calm = true) (h : DGs X tgs ix gs) (hn : (assignEach tgs X.env).length = n := by rfl) (hst : (assignEach tgs X.env).findIdx? (·.1) = none := by rfl) :
    DG X (.Tuple tgs k pos) ix (fun d ρ => (asT n d).bind fun ds => gs ds ρ) :=
  ⟨fun pins s σ H v u Q I rv ⟨B, F, ρ, d, R, p, q⟩ => pg_tup hc h.out hn hst pins s σ H v u Q I rv (by
    have q1 := Res.all_bind.mp q
    cases p with
    | @tup a xs ds hq hs =>
      unfold asT at q1
      dsimp only at q1
      by_cases z : ds.length = n
      · rw [if_pos z] at q1
        exact ⟨a, xs, rfl, R.fh.seqT hq, hs.length.trans z, B, F, ρ, ds, R, hs, q1⟩
      · rw [if_neg z] at q1; exact q1.elim
    | _ => exact q1.elim)⟩
theorem Stp.rebase {B : Hp × Hp} {F H F' H' : Hp} (st : Stp B.1 B.2 F H) (s : Stp F B.2 F' H') : Stp B.1 B.2 F' H' :=
  ⟨st.ff.trans s.ff, s.fh, s.hh, fun a n z => s.no a (st.no a n z) z⟩
theorem Rel.rebase {K : PySem.W.Frag} {B : Hp × Hp} {ρ : Rho} {σ : St} {F H : Hp} (R : Rel K B ρ σ F H) : Rel K (F, B.2) ρ σ F H :=
  ⟨⟨Same.refl F, R.st.fh, R.st.hh, fun _ n _ => n⟩, R.len, R.val, R.own, R.dis⟩
theorem Rel.unbase {K : PySem.W.Frag} {B : Hp × Hp} {ρ : Rho} {σ : St} {F H F' H' : Hp} (st : Stp B.1 B.2 F H) (R : Rel K (F, B.2) ρ σ F' H') : Rel K B ρ σ F' H' :=
  ⟨st.rebase R.st, R.len, R.val, R.own, R.dis⟩
theorem OkS.rebase {K : PySem.W.Frag} {B : Hp × Hp} {F H : Hp} {T : Ends} {o : Out} (st : Stp B.1 B.2 F H) (q : OkS K xq B T o) : OkS K xq (F, B.2) T o := ⟨by
  have q := q.out
  cases o with
  | nx ρ => exact fun σ F' H' R => q σ F' H' (R.unbase st)
  | rt d => exact fun v F' H' s p => q v F' H' (st.rebase s) p
  | bk ρ => exact fun σ F' H' R => q σ F' H' (R.unbase st)
  | ct ρ => exact fun σ F' H' R => q σ F' H' (R.unbase st)
  | er x ρ => exact fun v σ F' H' R p => q v σ F' H' (R.unbase st) p
  | bad => exact q⟩
def forD (g : D → Rho → Res Rho) (tb : Rho → Out) : List D → Rho → Out
  | [], ρ => .nx ρ
  | d :: ds, ρ => (noE (g d ρ)).go ρ fun ρ1 => match tb ρ1 with
    | .nx ρ2 => forD g tb ds ρ2
    | .ct ρ2 => forD g tb ds ρ2
    | .bk ρ2 => .nx ρ2
    | o => o
theorem ds_for {iter : Expr} {body : List Stmt} {fi : Rho → Res (List D)} {ix : List Nat} {g : D → Rho → Res Rho} {tb : Rho → Out} (hc : X.calm = true) (hi : DI X xq tg iter fi) (hg : DG X tg ix g) (hb : DB X xq body tb)
    (hp : PassesOwn (model X.prog X.w) X.A X.env X.xe := by exact PassesOwn.never) (hs : ∀ x, foldedSetIterable iter X.env x = pure x := by intro _; rfl) :
    DS X xq (.For tg iter body [] pos) (fun ρ => (fi ρ).go ρ fun ds => forD g tb ds ρ) :=
  DS.of (ps_for hp hc hi.out hg.out hb.out hs) fun B F ρ σ H T R q => ⟨B, F, ρ, R, Res.all_mono (go_all q.out) (fun ds q J F0 H0 s0 fd => by
    have R0 := R.step s0
    obtain ⟨C, hC⟩ : ∃ C : Hp × Hp, C = (F0, B.2) := ⟨_, rfl⟩
    refine ⟨fun i m σ' H' => m = ds.length - i ∧ i ≤ ds.length ∧ ∃ ρ' F', Rel X.K C ρ' σ' F' H' ∧ OkS X.K xq C T (forD g tb (ds.drop i) ρ'),
      ⟨ds.length, rfl, Nat.zero_le _, ρ, F0, hC ▸ R0.rebase, hC ▸ OkS.rebase R0.st ⟨q⟩⟩, ?_⟩
    rintro i m σ' H' ⟨rfl, hi, ρ', F', R', q'⟩
    have e0 : Same F0 F' := by have := R'.st.ff; rw [hC] at this; exact this
    by_cases hlt : i < ds.length
    · right
      refine ⟨fd.go i H' (e0.trans R'.fh) hlt, fun σ2 H2 => i + 1 ≤ ds.length ∧ ∃ ρ2 F2, Rel X.K C ρ2 σ2 F2 H2 ∧ OkS X.K xq C T (forD g tb (ds.drop (i + 1)) ρ2),
        fun σ2 H2 p => ⟨ds.length - (i + 1), by omega, rfl, p.1, p.2⟩, fun x H2 y => ?_⟩
      have hd : ds[i]? = some ds[i] := by simp [hlt]
      obtain ⟨F2, s2, p2⟩ := fd.yld i F' H' x H2 _ e0 R'.fh hd y
      have eqn : ds.drop i = ds[i] :: ds.drop (i + 1) := by rw [List.drop_eq_getElem_cons hlt]
      rw [eqn] at q'
      have q2 := go_all q'.out
      refine ⟨C, F2, ρ', _, R'.step s2, p2, ?_⟩
      generalize g ds[i] ρ' = r at q2
      cases r with
      | err x => exact q2
      | bad => exact q2
      | ok ρ1 =>
        intro σ3 R3 l3 k3
        refine ⟨C, F2, ρ1, R3, ⟨?_⟩⟩
        have q3 : (match tb ρ1 with | .nx ρ2 => forD g tb (ds.drop (i + 1)) ρ2 | .ct ρ2 => forD g tb (ds.drop (i + 1)) ρ2 | .bk ρ2 => .nx ρ2 | o => o).all _ _ _ _ _ := q2
        generalize tb ρ1 = o at q3
        cases o with
        | nx ρ2 => exact fun σ4 F4 H4 R4 => ⟨hlt, ρ2, F4, R4, ⟨q3⟩⟩
        | ct ρ2 => exact fun σ4 F4 H4 R4 => ⟨hlt, ρ2, F4, R4, ⟨q3⟩⟩
        | bk ρ2 => exact q3
        | rt d => exact q3
        | er x r => exact q3
        | bad => exact q3
    · left
      have e : i = ds.length := by omega
      subst e
      rw [List.drop_length] at q'
      exact ⟨fd.stop _ H' (e0.trans R'.fh) (Nat.le_refl _), q'.out σ' F' H' R'⟩) fun x q => errOf q⟩
end
end L2

namespace L2
open PySem PySem.Spec PyProof.Rows
section
variable {X : Cx}
theorem Inv.lstR {pins : List (Addr × Obj)} {σ : St} {H : Hp} {s : Shared} {l : Addr} {xs : List V} (I : Inv X pins σ H s) (h : Rd H l (.lst xs)) :
    xs.length ≤ sizeLine ∧ ∃ (its : List Value) (n : Nat), Vals xs its ∧ xs.length = its.length ∧ s.heap.get? l = some { cls := .type "list", data := .seq its.toArray n } := by
  obtain ⟨z, its, n, r, e⟩ := h.ok I.hok
  exact ⟨z, its, n, r, r.length, e⟩
def rCatR : R2 := fun x y H Q => ∃ l b xs zs, x = .ref l ∧ y = .ref b ∧ Rd H l (.lst xs) ∧ Rd H b (.lst zs) ∧ xs.length + zs.length ≤ sizeLine ∧ ∀ p, H p = none → Q (.ref p) (upd H p (.lst (xs ++ zs)))
theorem op_catR : OpR X (binaryOp .Add) rCatR := by
  intro pins s σ H x y v u Q I rx ry h
  obtain ⟨l, b, xs, zs, rfl, rfl, hH, hB, hz, q⟩ := h
  cases rx
  cases ry
  obtain ⟨z, its, n, r, hl, e⟩ := I.lstR hH
  obtain ⟨z2, its2, n2, r2, hl2, e2⟩ := I.lstR hB
  refine PySem.P.add_list e e2 ?_ (by rw [List.size_toArray, List.size_toArray, ← hl, ← hl2]; exact hz)
  rw [show its.toArray ++ its2.toArray = (its ++ its2).toArray by simp]
  exact ⟨.ref _, _, I.lnew (t' := s.toks) (r.append r2) (by rw [List.length_append]; exact hz), rfl, q _ I.fresh⟩
def gd {α : Type} (c : Prop) [Decidable c] (r : Res α) : Res α := if c then r else .bad
theorem gd_ok {α : Type} {c : Prop} [Decidable c] {r : Res α} {P : α → Prop} {E : D → Prop} (h : (gd c r).all P E) : c ∧ r.all P E := by
  unfold gd at h
  by_cases q : c
  · rw [if_pos q] at h; exact ⟨q, h⟩
  · rw [if_neg q] at h; exact h.elim
@[simp] theorem gd_pos {α : Type} {c : Prop} [Decidable c] {r : Res α} (h : c) : gd c r = r := if_pos h
def dAdd : D → D → Res D
  | .int i, .int j => .ok (.int (i + j))
  | .str x, .str y => gd (x.length + y.length ≤ sizeLine) (.ok (.str (x ++ y)))
  | .lst xs, .lst ys => gd (xs.length + ys.length ≤ sizeLine) (.ok (.lst (xs ++ ys)))
  | _, _ => .bad
theorem str_app_length (x y : Str) : (x ++ y).length = x.length + y.length := by
  show (x.cps ++ y.cps).size = _
  rw [Array.size_append]; rfl
theorem o_add : OpR X (binaryOp .Add) (rD X.K dAdd) := by
  intro pins s σ H x y v u Q I rx ry ⟨F, dx, dy, fh, px, py, q⟩
  cases px with
  | int i =>
    cases py with
    | int j => exact op_add pins s σ H _ _ v u Q I rx ry ⟨i, j, rfl, rfl, q _ F H (Stp.refl fh) (.int _)⟩
    | _ => exact q.elim
  | str hx =>
    cases py with
    | str hy =>
      obtain ⟨hz, q⟩ := gd_ok q
      exact op_add_str pins s σ H _ _ v u Q I rx ry ⟨_, _, rfl, rfl, hz, q _ F H (Stp.refl fh) (.str (by rw [str_app_length]; exact hz))⟩
    | _ => exact q.elim
  | lst hx rx' =>
    cases py with
    | lst hy ry' =>
      obtain ⟨hz, q⟩ := gd_ok q
      exact op_catR pins s σ H _ _ v u Q I rx ry ⟨_, _, _, _, rfl, rfl, hx.same fh, hy.same fh, by rw [rx'.length, ry'.length]; exact hz, fun p n =>
        q _ _ _ (Stp.new fh n) (.lst (.inl upd_same) ((rx'.append ry').same (Stp.new fh n).ff))⟩
    | _ => exact q.elim
  | _ => exact q.elim
def dI (C : Int → Int → Prop) [∀ i j, Decidable (C i j)] (g : Int → Int → D) : D → D → Res D
  | .int i, .int j => gd (C i j) (.ok (g i j))
  | _, _ => .bad
theorem o_int {f : Value → Value → Sem Value} {C : Int → Int → Prop} [∀ i j, Decidable (C i j)] {g : Int → Int → V} {g' : Int → Int → D} (h : OpR X f (rI C g)) (hg : ∀ F i j, Rp X.K F (g i j) (g' i j)) : OpR X f (rD X.K (dI C g')) := by
  intro pins s σ H x y v u Q I rx ry ⟨F, dx, dy, fh, px, py, q⟩
  cases px with
  | int i =>
    cases py with
    | int j =>
      obtain ⟨hz, q⟩ := gd_ok q
      exact h pins s σ H _ _ v u Q I rx ry ⟨i, j, rfl, rfl, hz, q _ F H (Stp.refl fh) (hg F i j)⟩
    | _ => exact q.elim
  | _ => exact q.elim
def dI0 (g : Int → Int → D) : D → D → Res D
  | .int i, .int j => .ok (g i j)
  | _, _ => .bad
theorem o_int0 {f : Value → Value → Sem Value} {g : Int → Int → V} {g' : Int → Int → D} (h : OpR X f (rI0 g)) (hg : ∀ F i j, Rp X.K F (g i j) (g' i j)) : OpR X f (rD X.K (dI0 g')) := by
  intro pins s σ H x y v u Q I rx ry ⟨F, dx, dy, fh, px, py, q⟩
  cases px with
  | int i =>
    cases py with
    | int j => exact h pins s σ H _ _ v u Q I rx ry ⟨i, j, rfl, rfl, q _ F H (Stp.refl fh) (hg F i j)⟩
    | _ => exact q.elim
  | _ => exact q.elim
instance (i j : Int) : Decidable (CMul i j) := by unfold CMul; infer_instance
instance (i j : Int) : Decidable (CDivB i j) := by unfold CDivB; infer_instance
instance (i j : Int) : Decidable (CPow i j) := by unfold CPow; infer_instance
abbrev dSub := dI0 fun i j => .int (i - j)
abbrev dMul := dI CMul fun i j => .int (i * j)
abbrev dDiv := dI CDivB fun i j => .int (i / j)
abbrev dMod := dI (fun _ j => 0 < j) fun i j => .int (i % j)
abbrev dPow := dI CPow fun i j => .int (i ^ j.toNat)
abbrev dLt := dI0 fun i j => .bl (decide (i < j))
abbrev dLe := dI0 fun i j => .bl (decide (i ≤ j))
abbrev dGe := dI0 fun i j => .bl (decide (j ≤ i))
theorem o_sub : OpR X (binaryOp .Sub) (rD X.K dSub) := o_int0 op_sub fun _ _ _ => .int _
theorem o_mul : OpR X (binaryOp .Mult) (rD X.K dMul) := o_int op_mul fun _ _ _ => .int _
theorem o_div : OpR X (binaryOp .FloorDiv) (rD X.K dDiv) := o_int op_fdivB fun _ _ _ => .int _
theorem o_mod : OpR X (binaryOp .Mod) (rD X.K dMod) := o_int op_mod fun _ _ _ => .int _
theorem o_pow : OpR X (binaryOp .Pow) (rD X.K dPow) := o_int op_pow fun _ _ _ => .int _
theorem o_lt : OpR X (compareOp .Lt) (rD X.K dLt) := o_int0 op_lt fun _ _ _ => .bl _
theorem o_le : OpR X (compareOp .LtE) (rD X.K dLe) := o_int0 op_le fun _ _ _ => .bl _
theorem o_ge : OpR X (compareOp .GtE) (rD X.K dGe) := o_int0 op_ge fun _ _ _ => .bl _
mutual
def D.py : D → Option PyData
  | .non => some .none
  | .bl b => some (.bool b)
  | .int i => some (.int i)
  | .str z => some (.str z)
  | .lst ds => (D.pys ds).map .list
  | .tup ds => (D.pys ds).map .tuple
  | _ => none
def D.pys : List D → Option (List PyData)
  | [] => some []
  | d :: ds => match D.py d, D.pys ds with
    | some a, some as => some (a :: as)
    | _, _ => none
end
mutual
theorem Rp.rd {K : PySem.W.Frag} {H : Hp} : ∀ {v : V} {d : D} {a : PyData}, Rp K H v d → d.py = some a → RdV K H v a
  | _, _, _, .non, e => by simp only [D.py] at e; cases e; exact .non
  | _, _, _, .bl b, e => by simp only [D.py] at e; cases e; exact .bl b
  | _, _, _, .int i, e => by simp only [D.py] at e; cases e; exact .int i
  | _, _, _, .str _, e => by simp only [D.py] at e; cases e; exact .str _
  | _, _, _, .ty _, e => by simp only [D.py] at e; cases e
  | _, _, _, .lst (ds := ds) hq hs, e => by
    simp only [D.py] at e
    cases q : D.pys ds with
    | none => rw [q] at e; cases e
    | some as => rw [q] at e; cases e; exact .lst (.inl hq) (Rps.rd hs q)
  | _, _, _, .tup (ds := ds) hq hs, e => by
    simp only [D.py] at e
    cases q : D.pys ds with
    | none => rw [q] at e; cases e
    | some as => rw [q] at e; cases e; exact .tup hq (Rps.rd hs q)
  | _, _, _, .dK _ _, e => by simp only [D.py] at e; cases e
  | _, _, _, .ins _ _, e => by simp only [D.py] at e; cases e
  | _, _, _, .exc _ _ _, e => by simp only [D.py] at e; cases e
  | _, _, _, .dn _ _, e => by simp only [D.py] at e; cases e
theorem Rps.rd {K : PySem.W.Frag} {H : Hp} : ∀ {vs : List V} {ds : List D} {as : List PyData}, Rps K H vs ds → D.pys ds = some as → RdVs K H vs as
  | _, _, _, .nil, e => by simp only [D.pys] at e; cases e; exact .nil
  | _, _, _, .cons (d := d) (ds := ds) h hs, e => by
    simp only [D.pys] at e
    cases q : d.py with
    | none => rw [q] at e; cases e
    | some a =>
      cases q2 : D.pys ds with
      | none => rw [q, q2] at e; cases e
      | some as => rw [q, q2] at e; cases e; exact .cons (Rp.rd h q) (Rps.rd hs q2)
end
def cmpD (d : D) : Res PyData := match d.py with
  | some a => gd (SeqAt.shaped a = true) (.ok a)
  | none => .bad
theorem cmpD_ok {d : D} {P : PyData → Prop} {E : D → Prop} (h : (cmpD d).all P E) : ∃ a, d.py = some a ∧ SeqAt.shaped a = true ∧ P a := by
  unfold cmpD at h
  split at h
  · rename_i a q; obtain ⟨hz, h⟩ := gd_ok h; exact ⟨a, q, hz, h⟩
  · exact h.elim
def dEq (x y : D) : Res D := (cmpD x).bind fun a => (cmpD y).bind fun b => .ok (.bl (PyData.eqv a b))
def dNe (x y : D) : Res D := (cmpD x).bind fun a => (cmpD y).bind fun b => .ok (.bl (!PyData.eqv a b))
theorem o_eq (hu : X.A.units + 64 < cLine) : OpR X (compareOp .Eq) (rD X.K dEq) := by
  intro pins s σ H x y v u Q I rx ry ⟨F, dx, dy, fh, px, py, q⟩
  obtain ⟨a, ea, sa, q⟩ := cmpD_ok (Res.all_bind.mp q)
  obtain ⟨b, eb, sb, q⟩ := cmpD_ok (Res.all_bind.mp q)
  exact op_eqD hu pins s σ H _ _ v u Q I rx ry ⟨a, b, (px.rd ea).same fh, (py.rd eb).same fh, sa, sb, q _ F H (Stp.refl fh) (.bl _)⟩
theorem o_ne (hu : X.A.units + 64 < cLine) : OpR X (compareOp .NotEq) (rD X.K dNe) := by
  intro pins s σ H x y v u Q I rx ry ⟨F, dx, dy, fh, px, py, q⟩
  obtain ⟨a, ea, sa, q⟩ := cmpD_ok (Res.all_bind.mp q)
  obtain ⟨b, eb, sb, q⟩ := cmpD_ok (Res.all_bind.mp q)
  exact op_neD hu pins s σ H _ _ v u Q I rx ry ⟨a, b, (px.rd ea).same fh, (py.rd eb).same fh, sa, sb, q _ F H (Stp.refl fh) (.bl _)⟩
def dIx : D → D → Res D
  | .lst ds, .int i => match atI ds i with
    | some d => .ok d
    | none => .bad
  | .tup ds, .int i => match atI ds i with
    | some d => .ok d
    | none => .bad
  | .str z, .int i => match atI z.cps.toList i with
    | some c => .ok (.str ⟨#[c]⟩)
    | none => .bad
  | _, _ => .bad
theorem atI_rp {K : PySem.W.Frag} {F : Hp} {xs : List V} {ds : List D} {i : Int} {d : D} (r : Rps K F xs ds) (h : atI ds i = some d) : ∃ v, atI xs i = some v ∧ Rp K F v d := by
  unfold atI at h ⊢
  rw [r.length]
  cases q : ixN ds.length i with
  | none => rw [q] at h; cases h
  | some j => rw [q] at h; exact r.get h
theorem x_ix : IxR X (rD X.K dIx) := by
  intro value slice pins s σ H x y v u Q I rx ry ⟨F, dx, dy, fh, px, py, q⟩ hsub
  cases py with
  | int i =>
    cases px with
    | lst hx rs =>
      rename_i ds
      cases e : atI ds i with
      | none => simp only [dIx, e] at q; exact q.elim
      | some d =>
        simp only [dIx, e] at q
        obtain ⟨w, h1, h2⟩ := atI_rp rs e
        exact ix_list value slice pins s σ H _ _ v u Q I rx ry ⟨_, _, i, w, rfl, rfl, .inl (hx.same fh), h1, q _ F H (Stp.refl fh) h2⟩ hsub
    | tup hx rs =>
      rename_i ds
      cases e : atI ds i with
      | none => simp only [dIx, e] at q; exact q.elim
      | some d =>
        simp only [dIx, e] at q
        obtain ⟨w, h1, h2⟩ := atI_rp rs e
        exact ix_tup value slice pins s σ H _ _ v u Q I rx ry ⟨_, _, i, w, rfl, rfl, fh.seqT hx, h1, q _ F H (Stp.refl fh) h2⟩ hsub
    | str hz =>
      rename_i z
      cases e : atI z.cps.toList i with
      | none => simp only [dIx, e] at q; exact q.elim
      | some c =>
        simp only [dIx, e] at q
        exact ix_str value slice pins s σ H _ _ v u Q I rx ry ⟨_, i, c, rfl, rfl, hz, e, q _ F H (Stp.refl fh) (.str one_le_line)⟩ hsub
    | _ => exact q.elim
  | _ => cases px <;> exact q.elim
end
end L2

namespace L2
open PySem PySem.Spec PyProof.Rows
def items : D → Res (List D)
  | .lst ds => .ok ds
  | .tup ds => .ok ds
  | .str z => .ok (chars z)
  | _ => .bad
section
variable {X : Cx} {xq : XQ} {tg l : Expr} {fl : Rho → Res D} {fa : Rho → Res (List D)} {pos p : Pos}
theorem di_any (hl : DE X xq l fl) : DI X xq tg l (fun ρ => (fl ρ).bind items) := ⟨fun pins s σ H R I z9 => un5 z9 fun B F ρ R' q => by
  have q0 := Res.all_bind.mp q
  cases e : fl ρ with
  | bad => rw [e] at q0; exact q0.elim
  | err x =>
    rw [e] at q0
    exact pi_list hl.out pins s σ H R I ⟨B, F, ρ, R', by rw [e]; exact q0⟩
  | ok d =>
    rw [e] at q0
    have go : ∀ {T : VK}, (∀ v F' H', Stp F H F' H' → Rp X.K F' v d → T v H') → liftE X.K xq fl σ H T := fun k => ⟨B, F, ρ, R', by rw [e]; exact k⟩
    cases d with
    | lst ds =>
      refine pi_list hl.out pins s σ H R I (go fun v F' H' st p => ?_)
      cases p with
      | lst hq hs => exact ⟨_, rfl, ⟨_, .inl (hq.same st.fh)⟩, q0 _ F' H' st (Feed.list (.inl hq) hs)⟩
    | tup ds =>
      refine pi_tup hl.out pins s σ H R I (go fun v F' H' st p => ?_)
      cases p with
      | tup hq hs => exact ⟨_, rfl, ⟨_, st.fh.seqT hq⟩, q0 _ F' H' st (Feed.tup hq hs)⟩
    | str z =>
      refine pi_str hl.out pins s σ H R I (go fun v F' H' st p => ?_)
      cases p with
      | str hz => exact ⟨z, rfl, q0 _ F' H' st (Feed.str z)⟩
    | _ => exact q0.elim⟩
def rng1 : List D → Res (List D)
  | [.int j] => gd (-(2 ^ 62) ≤ j ∧ j < 2 ^ 62) (.ok (intL 0 j.toNat))
  | _ => .bad
theorem rps1 {K : PySem.W.Frag} {F : Hp} {vs : List V} {d : D} (h : Rps K F vs [d]) : ∃ v, vs = [v] ∧ Rp K F v d := by
  cases h with
  | cons h hs => cases hs; exact ⟨_, rfl, h⟩
theorem rps2 {K : PySem.W.Frag} {F : Hp} {vs : List V} {d e : D} (h : Rps K F vs [d, e]) : ∃ v w, vs = [v, w] ∧ Rp K F v d ∧ Rp K F w e := by
  cases h with
  | cons h hs => obtain ⟨w, rfl, q⟩ := rps1 hs; exact ⟨_, w, rfl, h, q⟩
def enumL (ds : List D) : List D := ds.zipIdx.map fun p => .tup [.int (p.2 : Nat), p.1]
theorem Feed.enum {K : PySem.W.Frag} {F : Hp} {a : Addr} {xs : List V} {ds : List D} (h : SqL K F a xs) (r : Rps K F xs ds) : Feed K F (Ite K a) (enumL ds) where
  go i H e hi := by
    have hi' : i < xs.length := by rw [r.length]; simpa [enumL] using hi
    exact ⟨xs, xs[i], e.seq h, by simp [hi']⟩
  yld i F1 H x H' d e1 e2 hd y := by
    obtain ⟨p, v, hp, rfl, rfl, y⟩ := y
    have hv : xs[i]? = some v := y xs ((e1.trans e2).seq h)
    have hd2 : ∃ d0, ds[i]? = some d0 ∧ d = .tup [.int (i : Nat), d0] := by
      unfold enumL at hd
      rw [List.getElem?_map, List.getElem?_zipIdx] at hd
      cases q : ds[i]? with
      | none => rw [q] at hd; cases hd
      | some d0 => rw [q] at hd; simp at hd; exact ⟨d0, rfl, hd.symm⟩
    obtain ⟨d0, q0, rfl⟩ := hd2
    obtain ⟨w, hw, pw⟩ := r.get q0
    rw [hv] at hw; cases hw
    have s := Stp.new (o := .tup [.int (i : Nat), v]) e2 hp
    exact ⟨_, s, .tup (.inl (.inl upd_same)) (.cons (.int _) (.cons (pw.same (e1.trans s.ff)) .nil))⟩
  stop i H e hi := ⟨xs, e.seq h, by rw [r.length]; simpa [enumL] using hi⟩
def enum1 : List D → Res (List D)
  | [.lst ds] => .ok (enumL ds)
  | _ => .bad
theorem di_enum {es : List Expr} {k : Nat} {tp : Pos} {a : Expr} (hm : X.mg "enumerate" = none) (ha : DA X xq [a] fa) (hg : Gl X "enumerate" := by rfl) : DI X xq (.Tuple es k tp) (.Call (.Name "enumerate" p) [a] [] pos) (fun ρ => (fa ρ).bind enum1) :=
  ⟨fun pins s σ H R I z9 => un5 z9 fun B F ρ R' q => pi_enum hg hm ha.out (star_cons (all_head ha.ns).1) pins s σ H R I (seqA R' q fun ds vs F1 H1 s1 R1 p1 q1 => by
    unfold enum1 at q1
    split at q1
    · obtain ⟨v, rfl, pv⟩ := rps1 p1
      cases pv with
      | lst hq hs => exact ⟨_, _, rfl, .inl (hq.same R1.fh), q1 _ F1 H1 s1 (Feed.enum (.inl hq) hs)⟩
    · exact q1.elim)⟩
end
def rhoC (k : Nat) (outs : List Nat) (ρ : Rho) : Rho := List.replicate k none ++ outs.map fun j => (ρ[j]?).join
theorem getC {α : Type} {k : Nat} {outs : List Nat} {l : List (Option α)} {i : Nat} {x : α} (h : (List.replicate k none ++ outs.map fun j => (l[j]?).join)[i]? = some (some x)) : k ≤ i ∧ ∃ j, outs[i - k]? = some j ∧ l[j]? = some (some x) := by
  rw [List.getElem?_append] at h
  split at h
  · rename_i q
    rw [List.getElem?_replicate] at h
    split at h <;> simp at h
  · rename_i q
    simp only [List.length_replicate] at h q
    refine ⟨by omega, ?_⟩
    rw [List.getElem?_map] at h
    cases e : outs[i - k]? with
    | none => rw [e] at h; cases h
    | some j =>
      rw [e] at h
      refine ⟨j, rfl, ?_⟩
      simp only [Option.map_some, Option.some.injEq] at h
      cases e2 : l[j]? with
      | none => rw [e2] at h; cases h
      | some y => rw [e2] at h; simpa using h
theorem atC {α : Type} {k : Nat} {outs : List Nat} {l : List (Option α)} {i j : Nat} (hi : k ≤ i) (h : outs[i - k]? = some j) : (List.replicate k none ++ outs.map fun j => (l[j]?).join)[i]? = some ((l[j]?).join) := by
  rw [List.getElem?_append_right (by simpa using hi), List.length_replicate, List.getElem?_map, h]; rfl
theorem Rel.comp {K : PySem.W.Frag} {B : Hp × Hp} {ρ : Rho} {σ : St} {F H : Hp} {k : Nat} {outs : List Nat} (R : Rel K B ρ σ F H) (nd : outs.Nodup) : Rel K B (rhoC k outs ρ) (stC k outs σ) F H where
  st := R.st
  len := by unfold stC rhoC; simp
  val i d e := by
    obtain ⟨hi, j, h1, h2⟩ := getC e
    obtain ⟨v, q1, q2⟩ := R.val j d h2
    exact ⟨v, by unfold stC; rw [atC hi h1, q1]; rfl, q2⟩
  own i o e := by
    obtain ⟨hi, j, h1, h2⟩ := getC e
    obtain ⟨a, h, q1, q2⟩ := R.own j o h2
    exact ⟨a, h, by unfold stC; rw [atC hi h1, q1]; rfl, q2⟩
  dis i i' o u a e e' x y := by
    obtain ⟨hi, j, h1, h2⟩ := getC e
    obtain ⟨hi', j', h1', h2'⟩ := getC e'
    obtain ⟨_, jx, g1, g2⟩ := getC (l := σ) x
    obtain ⟨_, jy, g1', g2'⟩ := getC (l := σ) y
    rw [h1] at g1; cases g1
    rw [h1'] at g1'; cases g1'
    have ej := R.dis j j' o u a h2 h2' g2 g2'
    subst ej
    have := (List.getElem?_inj (List.getElem?_eq_some_iff.mp h1).1 nd).mp (h1.trans h1'.symm)
    omega
def compD (g : D → Rho → Res Rho) (fT : Rho → Res Bool) (fe : Rho → Res D) (ρ : Rho) : List D → Res (List D)
  | [] => .ok []
  | d :: ds => (noE (g d ρ)).bind fun ρ1 => (noE (fT (frz ρ1))).bind fun b => if b = true then (noE (fe ρ1)).bind fun y => (compD g fT fe ρ ds).bind fun ys => .ok (y :: ys) else compD g fT fe ρ ds
def xqF : XQ := fun _ _ _ => False
structure DF (X : Cx) (xq : XQ) (es : List Expr) (f : Rho → Res Bool) : Prop where
  out : PIf X es (liftT X.K xq f)
theorem noE_all {α : Type} {r : Res α} {P : α → Prop} {E E' : D → Prop} (h : (noE r).all P E) : r.all P E' := by
  cases r with
  | ok a => exact h
  | err x => exact h.elim
  | bad => exact h.elim
section
variable {X : Cx} {xq : XQ} {tg iter elt c : Expr} {fA : Rho → Res Bool} {fe : Rho → Res D} {fi : Rho → Res (List D)} {g : D → Rho → Res Rho} {ifs : List Expr} {scope : Scope} {pos : Pos} {ix : List Nat}
theorem df_nil : DF X xq [] (fun _ => .ok true) := ⟨fun pins s σ H Q I z9 => un5 z9 fun B F ρ R q => pif_nil pins s σ H Q I (q H (Stp.refl R.fh))⟩
theorem df_one (h : DT X xq c fA) : DF X xq [c] fA := ⟨pif_one h.out⟩
theorem comp_read {K : PySem.W.Frag} {k : Nat} {outs : List Nat} (nd : outs.Nodup) (hix : ∀ j ∈ ix, j < k) {σ : St} {H : Hp} {Q : VK} (h : liftN K xq (fun ρ => (fi ρ).bind fun ds => gd (ds.length ≤ sizeLine) ((compD g fA fe (rhoC k outs ρ) ds).bind fun ys => .ok (.l ys))) σ H Q) :
    tComp k outs (liftI K xq fi) (liftG K ix g) (liftT K xqF fA) (liftE K xqF fe) σ H Q := by
  obtain ⟨B, F, ρ, R, q⟩ := h
  exact
    ⟨B, F, ρ, R, Res.all_mono (Res.all_bind.mp q) (fun ds q1 J F0 H0 s0 fd => by
      obtain ⟨hz, q1⟩ := gd_ok q1
      let T : List D → Prop := fun ys => ∀ a h F' H', Stp F H F' H' → F' a = none → H a = none → H' a = some h → Ro K F' a h (.l ys) → Q (.ref a) H'
      have q2 : (compD g fA fe (rhoC k outs ρ) ds).all T (ErrK K xq B ρ σ) := Res.all_mono (Res.all_bind.mp q1) (fun _ z => z) fun _ z => z
      clear q1
      refine ⟨fun i m ys H' => m = ds.length - i ∧ i ≤ ds.length ∧ ∃ F' es, Stp F H F' H' ∧ Same F0 F' ∧ Rps K F' ys es ∧ es.length ≤ i ∧ (compD g fA fe (rhoC k outs ρ) (ds.drop i)).all (fun r => T (es ++ r)) (ErrK K xq B ρ σ),
        ⟨ds.length, rfl, Nat.zero_le _, F0, [], s0, Same.refl _, .nil, Nat.le_refl _, q2⟩, ?_⟩
      rintro i m ys H' ⟨rfl, hi', F', es, st, e0, rs, hl, q3⟩
      refine ⟨by rw [rs.length]; omega, ?_⟩
      by_cases hlt : i < ds.length
      · right
        refine ⟨fd.go i H' (e0.trans st.fh) hlt, fun ys' H2 => i + 1 ≤ ds.length ∧ ∃ F2 es', Stp F H F2 H2 ∧ Same F0 F2 ∧ Rps K F2 ys' es' ∧ es'.length ≤ i + 1 ∧ (compD g fA fe (rhoC k outs ρ) (ds.drop (i + 1))).all (fun r => T (es' ++ r)) (ErrK K xq B ρ σ),
          fun ys' H2 p => ⟨ds.length - (i + 1), by omega, rfl, p.1, p.2⟩, fun x H2 y => ?_⟩
        have hd : ds[i]? = some ds[i] := by simp [hlt]
        obtain ⟨F2, s2, p2⟩ := fd.yld i F' H' x H2 _ e0 st.fh hd y
        rw [List.drop_eq_getElem_cons hlt] at q3
        have R2 : Rel K B (rhoC k outs ρ) (stC k outs σ) F2 H2 := ((R.step st).step s2).comp nd
        have q4 := Res.all_bind.mp (show ((noE (g ds[i] (rhoC k outs ρ))).bind _).all _ _ from q3)
        refine ⟨B, F2, _, _, R2, p2, noE_all (Res.all_mono q4 (fun ρ1 q5 σ3 R3 l3 k3 => ⟨?_, ?_⟩) fun _ z => z)⟩
        · apply List.ext_getElem?
          intro j
          rw [List.getElem?_drop, k3 (k + j) fun z => by have := hix _ z; omega]
          unfold stC
          rw [List.getElem?_append_right (by simp), List.length_replicate, Nat.add_sub_cancel_left]
        · refine ⟨B, F2, ρ1, R3, noE_all (Res.all_mono (Res.all_bind.mp q5) (fun b q6 H3 s3 => ?_) fun _ z => z)⟩
          have R4 := R3.step s3
          cases b with
          | false => exact ⟨hlt, F2, es, (st.trans s2).trans s3, e0.trans s2.ff, rs.same s2.ff, by omega, q6⟩
          | true =>
            refine ⟨B, F2, ρ1, R4, noE_all (Res.all_mono (Res.all_bind.mp (show ((noE (fe ρ1)).bind _).all _ _ from q6)) (fun d q7 v F4 H4 s4 p4 => ?_) fun _ z => z)⟩
            refine ⟨hlt, F4, es ++ [d], ((st.trans s2).trans s3).trans s4, (e0.trans s2.ff).trans s4.ff, ((rs.same s2.ff).same s4.ff).append (.cons p4 .nil), by simp; omega, ?_⟩
            exact Res.all_mono (Res.all_bind.mp q7) (fun r z => by
              have z' : T (es ++ d :: r) := z
              simpa using z') fun _ z => z
      · left
        have e : i = ds.length := by omega
        subst e
        rw [List.drop_length] at q3
        have q4 : T es := by simpa using (show T (es ++ []) from q3)
        exact ⟨fd.stop _ H' (e0.trans st.fh) (Nat.le_refl _), fun p n => q4 p _ F' _ (st.trans (Stp.only st.fh (same_upd_none n))) (st.fh.free n) (st.hh.free n) upd_same (.l rs)⟩) fun _ e => e⟩
theorem dn_comp (own : List Str) (outs : List Nat) (hc : X.calm = true) (ok : CompOk X.env.scope X.N own outs scope) (hi : DI X xq tg iter fi) (hg : ∀ {cl C s H fp}, DG (cxC X own outs scope cl C s H fp) tg ix g) (hf : ∀ {cl C s H fp}, DF (cxC X own outs scope cl C s H fp) xqF ifs fA) (he : ∀ {cl C s H fp}, DE (cxC X own outs scope cl C s H fp) xqF elt fe)
    (nd : outs.Nodup := by decide) (hix : ∀ j ∈ ix, j < own.length := by decide) (hs : ∀ x, foldedSetIterable iter X.env x = pure x := by intro _; rfl) :
    DN X xq (.ListComp elt [⟨tg, iter, ifs, 0⟩] scope pos) (fun ρ => (fi ρ).bind fun ds => gd (ds.length ≤ sizeLine) ((compD g fA fe (rhoC own.length outs ρ) ds).bind fun ys => .ok (.l ys))) :=
  ⟨fun pins s σ H Q I h => pe_comp own outs hc ok hi.out (g := liftG X.K ix g) (ti := liftT X.K xqF fA) (te := liftE X.K xqF fe) (fun {cl C s H fp} => hg.out) (fun {cl C s H fp} => hf.out) (fun {cl C s H fp} => he.out) hs pins s σ H Q I (comp_read nd hix h)⟩
end
end L2

namespace L2
open PySem PySem.Spec PyProof.Rows
section
variable {X : Cx} {xq : XQ} {a b e o : Expr} {es : List Expr} {fe : Rho → Res D} {fs : Rho → Res (List D)} {x : Str} {p pos pos' apos cpos : Pos}
theorem d_B {id : String} {g : List D → Res D} (hc : CallR X (.builtin id) (rDs X.K g)) (hm : X.mg x = none) (hv : bootBuiltins x = some (.builtin id)) (ha : DA X xq (e :: es) fs) (hg : Gl X x := by rfl) (hn : x ≠ "__name__" := by decide) (hdb : (x == ("__debug__" : Str)) = false := by decide) :
    DE X xq (.Call (.Name x p) (e :: es) [] pos) (fun ρ => (fs ρ).bind fun ds => noE (g ds)) :=
  DE.of (pcB hc hg hm hv ha.out hn hdb ha.ns) fun B F ρ σ H Q R q => seqA R q fun ds vs F1 H1 s1 R1 p1 q1 => ⟨F1, ds, R1.fh, p1, doneN s1 q1⟩
def gLen : List D → Res D
  | [.str z] => .ok (.int z.length)
  | [.lst ds] => .ok (.int ds.length)
  | [.tup ds] => .ok (.int ds.length)
  | _ => .bad
theorem c_len : CallR X (.builtin "len") (rDs X.K gLen) := by
  intro pins s σ H xs us Q I r ⟨F, ds, fh, ps, q⟩
  unfold gLen at q
  split at q
  · obtain ⟨v, rfl, pv⟩ := rps1 ps
    cases pv with
    | str hz => exact call_len pins s σ H _ us Q I r ⟨_, _, rfl, ⟨hz, rfl⟩, q _ F H (Stp.refl fh) (.int _)⟩
  · obtain ⟨v, rfl, pv⟩ := rps1 ps
    cases pv with
    | lst hq hs => exact call_len pins s σ H _ us Q I r ⟨_, _, rfl, .inl ⟨_, .inl (hq.same fh), rfl⟩, q _ F H (Stp.refl fh) (by rw [hs.length]; exact .int _)⟩
  · obtain ⟨v, rfl, pv⟩ := rps1 ps
    cases pv with
    | tup hq hs => exact call_len pins s σ H _ us Q I r ⟨_, _, rfl, .inr ⟨_, fh.seqT hq, rfl⟩, q _ F H (Stp.refl fh) (by rw [hs.length]; exact .int _)⟩
  · exact q.elim
def tyN : D → Option String
  | .non => some "NoneType"
  | .bl _ => some "bool"
  | .int _ => some "int"
  | .str _ => some "str"
  | .lst _ => some "list"
  | .tup _ => some "tuple"
  | .dct _ => some "dict"
  | _ => none
def isT (t T : String) : Option Bool := if T ∈ ["bool", "int", "str", "list", "tuple", "dict"] then some (t == T || (t == "bool" && T == "int")) else none
theorem isT_kit (K : PySem.W.Frag) {d : D} {t T : String} {b : Bool} (ht : tyN d = some t) (h : isT t T = some b) : PySem.W.kitOne K (.type t) (.type T) = some b := by
  unfold isT at h
  split at h
  · rename_i hT
    simp only [List.mem_cons, List.not_mem_nil, or_false] at hT
    cases h
    cases d <;> simp only [tyN, Option.some.injEq, reduceCtorEq] at ht <;> subst ht <;> rcases hT with rfl | rfl | rfl | rfl | rfl | rfl <;> rfl
  · cases h
theorem isinst_D {pins : List (Addr × Obj)} {σ : St} {H : Hp} {s : Shared} {A : Around} {E : Value → Shared → Prop} {Q : Value → Shared → Prop} {c : Value} {bb : Bool} {F : Hp} {v : V} {u : Value} {d : D} {t : String} (I : Inv X pins σ H s) (rx : RelV v u) (fh : Same F H) (pv : Rp X.K F v d) (ht : tyN d = some t)
    (e : PySem.W.kitOne X.K (.type t) c = some bb) (h : ∀ tk, Q (.bool bb) { s with toks := tk }) : wpAny (model X.prog X.w) A (call (.builtin "isinstance") [u, c]) Q E s := by
  cases pv with
  | non => cases ht; exact isinst_ok I rx .non e h
  | bl y => cases ht; exact isinst_ok I rx (.bl y) e h
  | int i => cases ht; exact isinst_ok I rx (.int i) e h
  | str hz => cases ht; exact isinst_ok I rx (.str _) e h
  | ty T => cases ht
  | lst hq hs =>
    cases ht
    rcases hq with hq | ⟨ob, hq⟩
    · exact isinst_ok I rx (.lst (fh _ _ hq)) e h
    · exact isinst_ok I rx (.frz (fh _ _ hq)) e h
  | tup hq hs =>
    cases ht
    obtain ⟨its, r, p, hz⟩ := I.tuple (fh.seqT hq)
    obtain ⟨ob, h1, h2, _⟩ := p
    cases (show u = Value.ref _ from rx)
    exact PySem.W.kia_one PySem.W.kitx_tuple I.kIn ⟨ob, h1, h2⟩ e (fun z => nomatch z) h
  | dK hq hs => cases ht; exact isinst_ok I rx (.dK (fh _ _ hq)) e h
  | ins hq hs => cases ht
  | exc hq hr hs => cases ht
  | dn hq hs => cases ht
def gIs : List D → Res D
  | [d, .ty T] => match tyN d with
    | some t => match isT t T with
      | some b => .ok (.bl b)
      | none => .bad
    | none => .bad
  | _ => .bad
theorem c_isinst : CallR X (.builtin "isinstance") (rDs X.K gIs) := by
  intro pins s σ H xs us Q I r ⟨F, ds, fh, ps, q⟩
  unfold gIs at q
  split at q
  · rename_i d T
    obtain ⟨v, w, rfl, pv, pw⟩ := rps2 ps
    cases pw
    cases ht : tyN d with
    | none => rw [ht] at q; exact q.elim
    | some t =>
      rw [ht] at q
      cases hb : isT t T with
      | none => simp only [hb] at q; exact q.elim
      | some bb =>
        simp only [hb] at q
        cases r with
        | cons r1 r2 =>
          cases r2 with
          | cons r2 r3 =>
            cases r3
            cases r2
            exact isinst_D I r1 fh pv ht (isT_kit X.K ht hb) fun tk => ⟨.bl bb, H, I.tok _, rfl, q _ F H (Stp.refl fh) (.bl bb)⟩
  · exact q.elim
def blsOf : List D → Option (List Bool)
  | [] => some []
  | .bl b :: r => (blsOf r).map (b :: ·)
  | _ => none
theorem blsOf_rp {K : PySem.W.Frag} {F : Hp} : ∀ {xs : List V} {ds : List D} {bs : List Bool}, Rps K F xs ds → blsOf ds = some bs → xs = bs.map V.bl
  | _, _, _, .nil, e => by cases e; rfl
  | _, _, _, .cons (d := d) (ds := ds) h hs, e => by
    cases d <;> simp only [blsOf, reduceCtorEq] at e
    cases h
    cases q : blsOf ds with
    | none => rw [q] at e; cases e
    | some bs => rw [q] at e; cases e; rw [blsOf_rp hs q]; rfl
def gAll : List D → Res D
  | [.lst ds] => match blsOf ds with
    | some bs => .ok (.bl (bs.all id))
    | none => .bad
  | _ => .bad
theorem c_all (hc : X.calm = true) : CallR X (.builtin "all") (rDs X.K gAll) := by
  intro pins s σ H xs us Q I r ⟨F, ds, fh, ps, q⟩
  unfold gAll at q
  split at q
  · rename_i ds
    obtain ⟨v, rfl, pv⟩ := rps1 ps
    cases pv with
    | lst hq hs =>
      cases hb : blsOf ds with
      | none => rw [hb] at q; exact q.elim
      | some bs =>
        rw [hb] at q
        exact call_all hc pins s σ H _ us Q I r ⟨_, bs, rfl, .inl (blsOf_rp hs hb ▸ hq.same fh), q _ F H (Stp.refl fh) (.bl _)⟩
  · exact q.elim
def getL (ρ : Rho) (i : Nat) : Res (List D) := match ρ[i]? with
  | some (some (.own (.l ds))) => .ok ds
  | _ => .bad
theorem getL_ok {ρ : Rho} {i : Nat} {P : List D → Prop} {E : D → Prop} (h : (getL ρ i).all P E) : ∃ ds, ρ[i]? = some (some (.own (.l ds))) ∧ P ds := by
  unfold getL at h
  split at h
  · rename_i d e; exact ⟨d, e, h⟩
  · exact h.elim
theorem ds_app (i : Nat) (he : DE X xq e fe) (hN : X.N[i]? = some x := by rfl) (hv : Vis X.env.scope x := by first | exact Or.inl rfl | exact Or.inr (Or.inl rfl) | exact Or.inr (Or.inr rfl)) (hd : (x == ("__debug__" : Str)) = false := by decide) (hcd : (x == ("__classdict__" : Str)) = false := by decide)
    (hs : notStar e = true := by rfl) (hbase : attributeBase (.Name x p) "append" X.env (eval (.Name x p) X.env) = eval (.Name x p) X.env := by rfl) (hline : (apos.endLine == cpos.line) = true := by rfl)
    (hsw : swapsWith (.Call (.Attribute (.Name x p) "append" apos) [e] [] cpos) none pos.line X.env = pure false := by rfl) :
    DS X xq (.Expr (.Call (.Attribute (.Name x p) "append" apos) [e] [] cpos) pos) (fun ρ => (getL ρ i).go ρ fun ds => (fe ρ).go ρ fun d => if ds.length < sizeLine then .nx (ρ.set i (some (.own (.l (ds ++ [d]))))) else .bad) :=
  DS.of (ps_expr (pbm PySem.F.plainAttrs_list PySem.F.slot_list_append PySem.F.type_list_append mt_append (pe_var hN hv hd hcd) (pac he.out pa_nil hs) (by rw [List.all_cons, hs]; rfl) rfl hbase hline) hsw) fun B F ρ σ H T R q => by
    obtain ⟨ds, e1, q1⟩ := getL_ok (go_all q.out)
    obtain ⟨l, h, h1, h2, h3, h4, h5⟩ := R.own i _ e1
    cases h5 with
    | l hs =>
      refine ⟨.ref l, h1, .inl ⟨rfl, _, .inl (.inl h4)⟩, B, F, ρ, R, Res.all_mono (go_all q1) (fun d q2 v F' H' st pv => ?_) fun _ z => errOf z⟩
      by_cases hz : ds.length < sizeLine
      · rw [if_pos hz] at q2
        have R' := R.step st
        refine ⟨l, _, v, rfl, rfl, st.hh _ _ h4, by rw [hs.length]; exact hz, q2 σ F' _ (R'.write (e := e1) h1 (.l ((hs.same st.ff).append (.cons pv .nil))))⟩
      · rw [if_neg hz] at q2; exact q2.elim
def spF (K : PySem.W.Frag) (f : List D → Res D) : Sp := fun vs H Q _ => ∃ F ds, Same F H ∧ Rps K F vs ds ∧ (noE (f ds)).all (fun d => ∀ v F' H', Stp F H F' H' → Rp K F' v d → Q v H') (fun _ => False)
theorem d_fn {P : Program} {w : World} {K : PySem.W.Frag} {mg : Str → Option Value} {base : Heap} {k k' : Nat} {ps : List Str} {f : List D → Res D} (h : Callee P w K mg base k x ps (spF K f)) (hr : Room k' X.A) (ha : DA X xq (e :: es) fs) (hk : k ≤ k' := by decide) (hg : Gl X x := by rfl)
    (eP : X.prog = P := by rfl) (ew : X.w = w := by rfl) (eK : X.K = K := by rfl) (em : X.mg = mg := by rfl) (eb : X.base = base := by rfl) (hdb : (x == ("__debug__" : Str)) = false := by decide) : DE X xq (.Call (.Name x p) (e :: es) [] pos) (fun ρ => (fs ρ).bind fun ds => noE (f ds)) :=
  DE.of (pe_fn h hr hk ha.out hg eP ew eK em eb hdb ha.ns) fun B F ρ σ H Q R q => seqA R q fun ds vs F1 H1 s1 R1 p1 q1 => by
    subst eK
    refine ⟨F1, ds, R1.fh, by rw [List.append_nil]; exact p1, ?_⟩
    cases e : f ds with
    | ok d => rw [e] at q1; exact fun v F' H' st pv => q1 v F' H' (s1.trans st) pv
    | err x => rw [e] at q1; exact q1.elim
    | bad => rw [e] at q1; exact q1.elim
def outR : Out → Res D
  | .nx _ => .ok .non
  | .rt d => .ok d
  | .er x _ => .err x
  | _ => .bad
def startD (n : Nat) (ds : List D) : Rho := ds.map (fun d => some (.val d)) ++ List.replicate (n - ds.length) none
theorem Rps.begin {K : PySem.W.Frag} {F H : Hp} {N : List Str} {vs : List V} {ds : List D} (fh : Same F H) (r : Rps K F vs ds) : Rel K (F, H) (startD N.length ds) (start N vs) F H where
  st := Stp.refl fh
  len := by unfold startD L2.start; simp [r.length]
  val i d e := by
    unfold startD at e
    unfold L2.start
    rw [List.getElem?_append] at e
    split at e
    · rename_i hi
      rw [List.getElem?_map] at e
      cases q : ds[i]? with
      | none => rw [q] at e; cases e
      | some d' =>
        rw [q] at e
        cases e
        obtain ⟨v, hv, p⟩ := r.get q
        exact ⟨v, by rw [List.getElem?_append_left (by have := (List.getElem?_eq_some_iff.mp hv).1; simpa using this), List.getElem?_map, hv]; rfl, p⟩
    · rw [List.getElem?_replicate] at e
      split at e <;> simp at e
  own i o e := by
    unfold startD at e
    rw [List.getElem?_append] at e
    split at e
    · rw [List.getElem?_map] at e
      cases q : ds[i]? with
      | none => rw [q] at e; cases e
      | some d' => rw [q] at e; cases e
    · rw [List.getElem?_replicate] at e
      split at e <;> simp at e
  dis i j o u a e := by
    exfalso
    unfold startD at e
    rw [List.getElem?_append] at e
    split at e
    · rw [List.getElem?_map] at e
      cases q : ds[i]? with
      | none => rw [q] at e; cases e
      | some d' => rw [q] at e; cases e
    · rw [List.getElem?_replicate] at e
      split at e <;> simp at e
end
section
variable {P : Program} {w : World} {K : PySem.W.Frag} {mg : Str → Option Value} {base : Heap}
theorem Fun.okD {x qual : Str} {st : Stmt} {f : Addr} {fd : FuncData} {N ps : List Str} {k : Nat} {g : List D → Res D} (F : Fun K x qual st f fd) (S : FnScope N ps (defScope st)) (len : ∀ ds d, g ds = .ok d → ds.length = ps.length)
    (hbody : ∀ (cdv : Value) (A : Around) (outer : List Env) (s : Shared) (H : Hp) (E : XK), Room k (A.deeper (envOfC qual (defScope st) s.heap.objs.size f cdv)) →
      ∃ t, DB (cxOf CX0 P w K mg base N qual (defScope st) f cdv A outer s H E).nox xqF (defBody st) t ∧ ∀ ds d, g ds = .ok d → outR (t (startD N.length ds)) = .ok d) : FnOk P w K mg base CX0 (k + 1) f fd ps (spF K g) :=
  F.ok S (fun vs H Q E ⟨G, ds, fh, r, q⟩ => by
    rw [r.length]
    cases e : g ds with
    | ok d => exact len ds d e
    | err x => rw [e] at q; exact q.elim
    | bad => rw [e] at q; exact q.elim) fun cdv A outer s H vs Q E hr ⟨G, ds, fh, r, q⟩ => by
    obtain ⟨t, h1, h2⟩ := hbody cdv A outer s H E hr
    refine ⟨_, h1.out, (G, H), G, _, r.begin fh, ⟨?_⟩⟩
    cases e : g ds with
    | err x => rw [e] at q; exact q.elim
    | bad => rw [e] at q; exact q.elim
    | ok d =>
      rw [e] at q
      have z := h2 ds d e
      generalize t (startD N.length ds) = o at z
      cases o with
      | nx ρ => cases z; exact fun σ F' H' R => q .non F' H' R.st .non
      | rt d' => cases z; exact fun v F' H' st pv => q v F' H' st pv
      | bk ρ => cases z
      | ct ρ => cases z
      | er x ρ => cases z
      | bad => cases z
end
end L2

namespace L2
open PySem PySem.Spec PyProof.Rows
section
variable {M : Model} {A : Around} {E : Value → Shared → Prop} {s : Shared}
theorem entry_put {base : Heap} {env : Env} {outer : List Env} {L e : Addr} {oe : Obj} {vs : Array Value} {head : Value} {nx : Bool} {Q : Unit → Shared → Prop} (c1 : A.frames = some (env :: outer)) (c2 : s.heap.FunFrames base (env :: outer)) (c3 : env.frame = some L)
    (c4 : s.heap.get? e = some oe) (c5 : oe.data = .fields vs) (c6 : 1 < vs.size) (c7 : e ∉ frs (env :: outer))
    (k : ∀ h' oT ts, (∀ b o, b ∉ frs (env :: outer) → b ≠ e → s.heap.get? b = some o → h'.get? b = some o) → (∀ b o, b ≠ e → s.heap.get? b = some o → ∃ sl, h'.get? b = some { o with slots := sl }) →
      h'.get? e = some (oe.mapFields (·.setIfInBounds 1 (.ref s.heap.objs.size))) → h'.get? s.heap.objs.size = some oT → oT.data = .fields ts → ts[3]? = some (rawInt L) → Q () { s with heap := h' }) :
    wpAny M A (do setField (.ref e) 1 (← EntryCells.newEntry head (← frameOf env) .none (rawInt L) .none (← entryPlaceOf L nx))) Q E s := by
  refine wpAny_bind (wpAny_frameOf_fun c1 c2 c3 fun g hg => ?_)
  refine wpAny_bind (wpAny_entryPlaceOf fun pl hp => ?_)
  unfold EntryCells.newEntry newFields
  refine wpAny_bind (wpAny_newObj_type ?_ (hp.sizeOk5 _ _ _ _ _))
  obtain ⟨g1, g2, g3⟩ := hg
  have ge : g.get? e = some oe := (g2 e c7).trans c4
  have lt : e < g.objs.size := Heap.lt_size ge
  generalize hnt : ({ cls := .type "traceback", dict := none, data := .fields ([head, .ref L, .none, rawInt L, .none] ++ (if pl.isEmpty then List.replicate 6 Value.none else pl)).toArray } : Obj) = nt
  have ge2 : (g.push nt).get? e = some oe := Heap.get?_push_of_some nt ge
  refine wpAny_setField ge2 c5 c6 ?_
  have nf : nt.isFreed = false := by subst hnt; rfl
  have at_T : (g.push nt).get? g.objs.size = some nt := Heap.get?_push_size g nf
  have ne : e ≠ g.objs.size := Nat.ne_of_lt lt
  rw [g1]
  refine k _ nt ([head, .ref L, .none, rawInt L, .none] ++ (if pl.isEmpty then List.replicate 6 Value.none else pl)).toArray (fun b o b1 b2 b3 => ?_) (fun b o b2 b4 => ?_) ?_ ?_ (by subst hnt; rfl) (by first | (simp; done) | (rcases hp with rfl | ⟨_, _, _, _, _, _, _, rfl⟩ <;> simp))
  · rw [Heap.get?_update_other _ _ (Ne.symm b2)]; exact Heap.get?_push_of_some nt ((g2 b b1).trans b3)
  · obtain ⟨sl, q⟩ := g3 b o b4
    exact ⟨sl, by rw [Heap.get?_update_other _ _ (Ne.symm b2)]; exact Heap.get?_push_of_some nt q⟩
  · exact Heap.get?_update_self _ ge2 (Obj.isFreed_of_fields (Obj.data_mapFields c5 _))
  · rw [← g1, Heap.get?_update_other _ _ ne]; exact at_T
end
def Tb (n : Nat) (h : Heap) (H : Hp) (e : Addr) (fl : Value) : Prop := n ≤ e ∧ ∃ oe vs, h.get? e = some oe ∧ oe.data = .fields vs ∧ 1 < vs.size ∧
  ((vs[1]? = some .none ∧ fl = .none) ∨ ∃ T oT ts, vs[1]? = some (.ref T) ∧ T ≠ e ∧ n ≤ T ∧ H T = none ∧ h.get? T = some oT ∧ oT.data = .fields ts ∧ ts[3]? = some fl)
def Tr (n : Nat) (h : Heap) (H : Hp) (e : Addr) (fl : Value) : Prop := n ≤ e ∧ ∃ oe vs, h.get? e = some oe ∧ oe.data = .fields vs ∧ 1 < vs.size ∧
  ∃ T oT ts, vs[1]? = some (.ref T) ∧ T ≠ e ∧ n ≤ T ∧ H T = none ∧ h.get? T = some oT ∧ oT.data = .fields ts ∧ ts[3]? = some fl
theorem Tr.tb {n : Nat} {h : Heap} {H : Hp} {e : Addr} {fl : Value} (x : Tr n h H e fl) : Tb n h H e fl := let ⟨a, oe, vs, b, c, d, f⟩ := x; ⟨a, oe, vs, b, c, d, .inr f⟩
theorem Tb.mono {m n : Nat} {h : Heap} {H : Hp} {e : Addr} {fl : Value} (x : Tb n h H e fl) (q : m ≤ n) : Tb m h H e fl := by
  obtain ⟨a, oe, vs, b, c, d, f⟩ := x
  refine ⟨Nat.le_trans q a, oe, vs, b, c, d, ?_⟩
  rcases f with f | ⟨T, oT, ts, f1, f2, f3, f4⟩
  · exact .inl f
  · exact .inr ⟨T, oT, ts, f1, f2, Nat.le_trans q f3, f4⟩
structure Old (X : Cx) (pins : List (Addr × Obj)) (n : Nat) : Prop where
  s0 : X.s₀.heap.objs.size ≤ n
  loc : X.env.locals < n
  cel : ∀ x c, X.env.cells.lookup x = some c → c < n
  pin : ∀ p ∈ X.pn ++ pins, p.1 < n
theorem Inv.old {X : Cx} {pins : List (Addr × Obj)} {σ : St} {H : Hp} {s : Shared} (I : Inv X pins σ H s) : Old X pins s.heap.objs.size :=
  ⟨I.sz, I.lt, fun x c e => let ⟨_, q⟩ := I.cell x c e; q.lt, fun p hp => Heap.lt_size (I.pin p hp).1⟩
section
variable {X : Cx} {pins : List (Addr × Obj)} {σ : St} {H : Hp} {s : Shared} {n : Nat} {e C : Addr} {d : Option Addr} {h' : Heap}
theorem Inv.flown {ch : List Addr} {t' : Nat} (I : Inv X pins σ H s) (hst : X.stack = X.env :: X.outer ∧ X.env.frame = some X.env.locals) (o : Old X pins n) (hch : ∀ b ∈ ch, n ≤ b) (hx : H e = some (XO C d e)) (hxe : ExAt h' e C d)
    (k1 : ∀ b u, b ∉ frs X.stack → b ≠ e → b ∉ ch → s.heap.get? b = some u → h'.get? b = some u) (k2 : ∀ b u, b ≠ e → b ∉ ch → s.heap.get? b = some u → ∃ sl, h'.get? b = some { u with slots := sl })
    (k3 : ∀ b ∈ ch, H b = none) (k4 : ∃ u, h'.get? e = some u) : Inv X pins σ H { s with heap := h', toks := t' } := by
  have hfr : frs X.stack = X.env.locals :: X.fs := by
    rw [hst.1]; unfold frs; rw [List.filterMap_cons, hst.2]; rfl
  have ne : ∀ b, H b = none → b ≠ e := fun b hb z => by subst z; rw [hx] at hb; cases hb
  refine I.step (ch := ch) (h' := h') (H' := H) (g' := s.gens) (d' := s.drawn) (t' := t') (fun b hb => ⟨.inr (Nat.le_trans o.s0 (hch b hb)), fun z => ?_, fun x c q z => ?_, fun p hp z => ?_⟩)
    (fun b u b1 b2 b3 b4 b5 => k1 b u (by rw [hfr]; simp [b1, b2]) (ne b b5) b3 b4) (fun b u b1 b2 b3 b4 b5 => k2 b u (ne b b5) b3 b4) (fun _ _ _ _ z => z) (fun b u b3 b4 => ?_) (fun _ _ z => z) (fun _ _ _ z => z) (fun b ps z => ⟨#[], by simpa using z⟩) (fun m hm => ?_) ?_ I.bare
  · have w1 := o.loc; have w2 := hch b hb; subst z; exact absurd (Nat.lt_of_lt_of_le w1 w2) (Nat.lt_irrefl _)
  · have w1 := o.cel x c q; have w2 := hch b hb; subst z; exact absurd (Nat.lt_of_lt_of_le w1 w2) (Nat.lt_irrefl _)
  · have w1 := o.pin p hp; have w2 := hch b hb; rw [z] at w1; exact absurd (Nat.lt_of_lt_of_le w1 w2) (Nat.lt_irrefl _)
  · by_cases z : b = e
    · subst z; exact k4
    · obtain ⟨sl, q⟩ := k2 b u z b3 b4; exact ⟨_, q⟩
  · obtain ⟨u, es, ep, hu, hd, rr⟩ := hm
    have l1 : X.env.locals ≠ e := ne _ I.free
    have l2 : X.env.locals ∉ ch := fun z => absurd (Nat.lt_of_lt_of_le o.loc (hch _ z)) (Nat.lt_irrefl _)
    obtain ⟨sl, q⟩ := k2 _ u l1 l2 hu
    exact ⟨_, es, ep, q, hd, rr⟩
  · intro a u q
    by_cases z : a = e
    · subst z
      rw [hx] at q; cases q
      exact xo_ok hxe
    · refine ObjOk.stay (I.hok a u q) (fun b v hb hv => k1 b v (fun y => ?_) (fun y => ?_) (fun y => ?_) hv) (fun _ y => y) (fun _ _ y => y)
      · rcases hb with rfl | hb
        · rw [I.stkFree _ y] at q; cases q
        · rw [I.stkFree _ y] at hb; cases hb
      · rcases hb with rfl | hb
        · exact z y
        · subst y; rw [hx] at hb; unfold XO at hb; cases hb
      · rcases hb with rfl | hb
        · rw [k3 _ y] at q; cases q
        · rw [k3 _ y] at hb; cases hb
end
end L2

namespace L2
open PySem PySem.Spec PyProof.Rows
theorem exAt_set {h h' : Heap} {e C : Addr} {d : Option Addr} {oe : Obj} {v : Value} (x : ExAt h e C d) (q : h.get? e = some oe) (q' : h'.get? e = some (oe.mapFields (·.setIfInBounds 1 v))) : ExAt h' e C d := by
  obtain ⟨t, f1, f2, f3, f4, f5, sl, z⟩ := x
  rw [q] at z
  cases z
  exact ⟨t, v, f2, f3, f4, f5, sl, q'⟩
theorem exAt_kept {h h' : Heap} {e C : Addr} {d : Option Addr} {oe : Obj} (x : ExAt h e C d) (q : h.get? e = some oe) (q' : h'.get? e = some oe) : ExAt h' e C d := by
  obtain ⟨t, f1, f2, f3, f4, f5, sl, z⟩ := x
  rw [q] at z
  cases z
  exact ⟨t, f1, f2, f3, f4, f5, sl, q'⟩
theorem fields_set {o : Obj} {vs : Array Value} {i : Nat} {v : Value} (h : o.data = .fields vs) (hi : i < vs.size) : ∃ ws : Array Value, (o.mapFields (·.setIfInBounds i v)).data = .fields ws ∧ ws.size = vs.size ∧ ws[i]? = some v ∧ ∀ j, j ≠ i → ws[j]? = vs[j]? := by
  refine ⟨vs.setIfInBounds i v, Obj.data_mapFields h _, by simp, by simp [hi], fun j hj => ?_⟩
  rw [Array.getElem?_setIfInBounds_ne (Ne.symm hj)]
section
variable {X : Cx} {pins : List (Addr × Obj)} {σ : St} {H : Hp} {s : Shared} {n : Nat} {e C : Addr} {d : Option Addr} {E : Value → Shared → Prop} {M : Model}
theorem rawne (L : Addr) : ((Value.none == rawInt L) = true) = False := by simp [rawInt]
theorem flight_put {fl w : Value} {T : Addr} {Q : Unit → Shared → Prop} {oe oT : Obj} {vs ts : Array Value} (I : Inv X pins σ H s) (hst : X.stack = X.env :: X.outer ∧ X.env.frame = some X.env.locals) (o : Old X pins n) (hx : H e = some (XO C d e))
    (a0 : n ≤ e) (a1 : s.heap.get? e = some oe) (a2 : oe.data = .fields vs) (a3 : 1 < vs.size) (a4 : vs[1]? = some (.ref T)) (a5 : T ≠ e) (a6 : n ≤ T) (a7 : H T = none) (a8 : s.heap.get? T = some oT) (a9 : oT.data = .fields ts) (a10 : ts[3]? = some fl)
    (k : ∀ s', Inv X pins σ H s' → Tr n s'.heap H e w → s'.heap.get? e = some oe → Q () s') : wpAny M X.A (setField (.ref T) 3 w) Q E s := by
  have hz : 3 < ts.size := (Array.getElem?_eq_some_iff.mp a10).1
  refine wpAny_setField a8 a9 hz ?_
  obtain ⟨ws, w1, w2, w3, w4⟩ := fields_set (v := w) a9 hz
  have kT := Heap.get?_update_self (Obj.mapFields (·.setIfInBounds 3 w)) a8 (Obj.isFreed_of_fields w1)
  have ko : ∀ b u, b ≠ T → s.heap.get? b = some u → (s.heap.update T (Obj.mapFields (·.setIfInBounds 3 w))).get? b = some u := fun b u hb q => by
    rw [Heap.get?_update_other _ _ (Ne.symm hb)]; exact q
  have ke := ko e oe (Ne.symm a5) a1
  refine k _ (I.flown (ch := [T]) (t' := s.toks) hst o (fun b hb => by rw [List.mem_singleton.mp hb]; exact a6) hx (exAt_kept (xo_at I.hok hx) a1 ke) (fun b u _ _ hb q => ko b u (fun z => hb (by simp [z])) q)
    (fun b u _ hb q => ⟨u.slots, ko b u (fun z => hb (by simp [z])) q⟩) (fun b hb => by rw [List.mem_singleton.mp hb]; exact a7) ⟨_, ke⟩) ⟨a0, oe, vs, ke, a2, a3, T, _, ws, a4, a5, a6, a7, kT, w1, w3⟩ ke
theorem note_new {head : Value} {nx : Bool} {Q : Unit → Shared → Prop} {oe : Obj} {vs : Array Value} (I : Inv X pins σ H s) (hst : X.stack = X.env :: X.outer ∧ X.env.frame = some X.env.locals) (o : Old X pins n) (hx : H e = some (XO C d e))
    (a0 : n ≤ e) (a1 : s.heap.get? e = some oe) (a2 : oe.data = .fields vs) (a3 : 1 < vs.size) (k : ∀ s', Inv X pins σ H s' → Tr n s'.heap H e (rawInt X.env.locals) → Q () s') :
    wpAny M X.A (do setField (.ref e) 1 (← EntryCells.newEntry head (← frameOf X.env) .none (rawInt X.env.locals) .none (← entryPlaceOf X.env.locals nx))) Q E s := by
  have fr : X.A.frames = some (X.env :: X.outer) := by rw [I.ok.frames, hst.1]
  have ff : s.heap.FunFrames X.base (X.env :: X.outer) := hst.1 ▸ I.stack
  have nm : e ∉ frs (X.env :: X.outer) := fun z => by
    have := I.stkFree e (by rw [hst.1]; exact z)
    rw [hx] at this; cases this
  refine entry_put fr ff hst.2 a1 a2 a3 nm fun h' oT ts k1 k2 k3 k4 k5 k6 => ?_
  have lt : e < s.heap.objs.size := Heap.lt_size a1
  have fz := I.hok.fresh (Nat.le_refl s.heap.objs.size)
  obtain ⟨ws, w1, w2, w3, w4⟩ := fields_set (v := .ref s.heap.objs.size) a2 a3
  refine k _ (I.flown (ch := []) (t' := s.toks) hst o (fun b hb => by cases hb) hx (exAt_set (xo_at I.hok hx) a1 k3) (fun b u hb he _ q => k1 b u (by rw [← hst.1]; exact hb) he q) (fun b u he _ q => k2 b u he q) (fun b hb => by cases hb) ⟨_, k3⟩)
    ⟨a0, _, ws, k3, w1, by omega, s.heap.objs.size, oT, ts, w3, Nat.ne_of_gt lt, Nat.le_trans a0 (Nat.le_of_lt lt), fz, k4, k5, k6⟩
theorem note_ok {fl : Value} {Q : Unit → Shared → Prop} (I : Inv X pins σ H s) (hst : X.stack = X.env :: X.outer ∧ X.env.frame = some X.env.locals) (o : Old X pins n) (hx : H e = some (XO C d e)) (tb : Tb n s.heap H e fl) (hfl : fl = .none ∨ fl = rawInt X.env.locals)
    (k : ∀ s', Inv X pins σ H s' → Tr n s'.heap H e (rawInt X.env.locals) → Q () s') : wpAny M X.A (noteFrame (.ref e) X.env) Q E s := by
  obtain ⟨a0, oe, vs, a1, a2, a3, tb⟩ := tb
  unfold noteFrame
  simp only [hst.2]
  rcases tb with ⟨t1, t2⟩ | ⟨T, oT, ts, a4, a5, a6, a7, a8, a9, a10⟩
  · refine wpAny_bind (wpAny_field a1 a2 t1 ?_)
    rw [if_neg (by decide)]
    exact note_new I hst o hx a0 a1 a2 a3 k
  · refine wpAny_bind (wpAny_field a1 a2 a4 ?_)
    rw [if_pos (show (Value.ref T != Value.none) = true by simp)]
    refine wpAny_bind (wpAny_field a8 a9 a10 ?_)
    rcases hfl with rfl | rfl
    · rw [if_neg (by rw [rawne]; exact id)]
      refine wpAny_bind (flight_put I hst o hx a0 a1 a2 a3 a4 a5 a6 a7 a8 a9 a10 fun s' I' _ ke => ?_)
      exact note_new I' hst o hx a0 ke a2 a3 k
    · rw [if_pos (by simp)]
      exact wpAny_pure (k s I ⟨a0, oe, vs, a1, a2, a3, T, oT, ts, a4, a5, a6, a7, a8, a9, a10⟩)
theorem flight_ok {fl : Value} {f : Option Addr} {Q : Unit → Shared → Prop} (I : Inv X pins σ H s) (hst : X.stack = X.env :: X.outer ∧ X.env.frame = some X.env.locals) (o : Old X pins n) (hx : H e = some (XO C d e)) (tr : Tr n s.heap H e fl)
    (k : ∀ s', Inv X pins σ H s' → Tr n s'.heap H e (f.elim .none fun f => rawInt f) → Q () s') : wpAny M X.A (setFlight (.ref e) f) Q E s := by
  obtain ⟨a0, oe, vs, a1, a2, a3, T, oT, ts, a4, a5, a6, a7, a8, a9, a10⟩ := tr
  unfold setFlight
  refine wpAny_bind (wpAny_field a1 a2 a4 ?_)
  rw [if_pos (show (Value.ref T != Value.none) = true by simp)]
  exact flight_put I hst o hx a0 a1 a2 a3 a4 a5 a6 a7 a8 a9 a10 fun s' I' t _ => k s' I' t
theorem leave_ok {fl : Value} {Q : Unit → Shared → Prop} (I : Inv X pins σ H s) (hst : X.stack = X.env :: X.outer ∧ X.env.frame = some X.env.locals) (o : Old X pins n) (hx : H e = some (XO C d e)) (tb : Tb n s.heap H e fl) (hfl : fl = .none ∨ fl = rawInt X.env.locals)
    (k : ∀ s', Inv X pins σ H s' → Tr n s'.heap H e .none → Q () s') : wpAny M X.A (leaving X.env (.ref e)) Q E s := by
  unfold leaving
  exact wpAny_bind (note_ok I hst o hx tb hfl fun s' I' tr => flight_ok (f := none) I' hst o hx tr k)
end
end L2

namespace L2
open PySem PySem.Spec PyProof.Rows
def CXe (P : Program) (w : World) : CXT := fun outer H s E u s' => ∃ (e C : Addr) (d : Option Addr) (H' : Hp), u = .ref e ∧ s'.os = s.os ∧ AllBare s'.gens ∧ Un (frs outer) [] H H' s.heap s'.heap ∧ HOk P w H' s'.heap ∧ H' e = some (XO C d e) ∧
  Tb s.heap.objs.size s'.heap H' e .none ∧ E (.ref e) none H'
def Fly (X : Cx) (xq : XQ) (u : Value) (s' : Shared) : Prop := ∃ (n : Nat) (e C : Addr) (d : Option Addr) (σ : St) (H : Hp) (fl : Value), Old X [] n ∧ u = .ref e ∧ Inv X [] σ H s' ∧ H e = some (XO C d e) ∧ Tb n s'.heap H e fl ∧ (fl = .none ∨ fl = rawInt X.env.locals) ∧ xq (.ref e) σ H
structure XqOk (X : Cx) (xq : XQ) : Prop where
  st : X.stack = X.env :: X.outer ∧ X.env.frame = some X.env.locals
  xe : ∀ u s', Fly X xq u s' → X.xe u s'
  ps : PassesOwn (model X.prog X.w) X.A X.env X.xe
section
variable {X : Cx} {xq : XQ} {M : Model}
theorem fly_passes (hst : X.stack = X.env :: X.outer ∧ X.env.frame = some X.env.locals) : PassesOwn M X.A X.env (Fly X xq) := by
  rintro u s' ⟨n, e, C, d, σ, H, fl, o, rfl, I, hx, tb, hfl, q⟩
  refine note_ok I hst o hx tb hfl fun s2 I2 tr => ?_
  have tr' := tr
  obtain ⟨a0, oe, vs, a1, a2, a3, T, oT, ts, a4, a5, a6, a7, a8, a9, a10⟩ := tr'
  unfold cameBackBy
  refine wpAny_bind (wpAny_field a1 a2 a4 ?_)
  rw [if_neg (show ¬ ((Value.ref T == Value.none) = true) by simp), hst.2]
  exact flight_ok (f := some X.env.locals) I2 hst o hx tr fun s3 I3 tr3 => ⟨n, e, C, d, σ, H, _, o, rfl, I3, hx, tr3.tb, .inr rfl, q⟩
theorem Old.unwish {E : Value → Shared → Prop} {pins : List (Addr × Obj)} {n : Nat} (o : Old (X.wish E) pins n) : Old X pins n := ⟨o.s0, o.loc, o.cel, o.pin⟩
theorem Fly.unwish {E : Value → Shared → Prop} {u : Value} {s' : Shared} (h : Fly (X.wish E) xq u s') : Fly X xq u s' := by
  obtain ⟨n, e, C, d, σ, H, fl, o, rfl, I, hx, tb, hfl, q⟩ := h
  exact ⟨n, e, C, d, σ, H, fl, o.unwish, rfl, I.unwish, hx, tb, hfl, q⟩
theorem xqOk_wish (hst : X.stack = X.env :: X.outer ∧ X.env.frame = some X.env.locals) : XqOk (X.wish (Fly X xq)) xq := ⟨hst, fun _ _ h => h.unwish, fly_passes (X := X) hst⟩
theorem Inv.bare0 {pins : List (Addr × Obj)} {σ : St} {H : Hp} {s : Shared} (I : Inv X pins σ H s) : Inv X [] σ H s := I.pins_of fun p hp => absurd hp (by simp)
theorem Old.bare0 {pins : List (Addr × Obj)} {n : Nat} (o : Old X pins n) : Old X [] n := ⟨o.s0, o.loc, o.cel, fun p hp => o.pin p (by simp at hp; exact List.mem_append_left _ hp)⟩
theorem fly_call {pins : List (Addr × Obj)} {σ : St} {H : Hp} {s s' : Shared} {u : Value} (I : Inv X pins σ H s) (h : CXe X.prog X.w X.stack H s (fun u _ H' => ∃ a, u = .ref a ∧ xq (.ref a) σ H') u s') : Fly X xq u s' := by
  obtain ⟨e, C, d, H', rfl, os, bare, un, hok, hx, tb, a, ha, q⟩ := h
  cases ha
  have I' : Inv X pins σ H' s' := I.call' (ch := []) os un hok bare fun b z => absurd z (by simp)
  exact ⟨_, e, C, d, σ, H', .none, I.old.bare0, rfl, I'.bare0, hx, tb, .inl rfl, q⟩
end
def spX (K : PySem.W.Frag) (f : List D → Res D) : Sp := fun vs H Q E => ∃ F ds, Same F H ∧ Rps K F vs ds ∧ (f ds).all (fun d => ∀ v F' H', Stp F H F' H' → Rp K F' v d → Q v H') (fun x => ∀ a F' H', Stp F H F' H' → Rp K F' (.ref a) x → E (.ref a) none H')
def CalleeX (P : Program) (w : World) (K : PySem.W.Frag) (mg : Str → Option Value) (base : Heap) (k : Nat) (x : Str) (ps : List Str) (f : List D → Res D) : Prop :=
  ∃ a fd, FnOk P w K mg base (CXe P w) k a fd ps (spX K f) ∧ Binds K fd ps [] ∧ PySem.W.keepIn K (.ref a) = true ∧ mg x = some (.ref a)
section
variable {X : Cx} {xq : XQ} {e : Expr} {es : List Expr} {fs : Rho → Res (List D)} {x : Str} {p pos : Pos}
theorem run_fnX {k : Nat} {f : Addr} {fd : FuncData} {ps : List Str} {sp : Sp} {ds : List Value} {dvs : List V} {pins : List (Addr × Obj)} {σ : St} {H : Hp} {s : Shared} {Q : VK} {us : List Value} {vs : List V} (hq : XqOk X xq) (F : FnOk X.prog X.w X.K X.mg X.base (CXe X.prog X.w) k f fd ps sp) (hr : Room k X.A)
    (hb : Binds X.K fd ps ds) (hd : Vals dvs ds) (I : Inv X pins σ H s) (r : Vals vs us) (h : sp (vs ++ dvs) H Q (fun u _ H' => ∃ a, u = .ref a ∧ xq (.ref a) σ H')) : wpAny (model X.prog X.w) X.A (call (.ref f) us) (EP X pins σ Q) X.xe s := by
  have r2 : Vals (vs ++ dvs) (us ++ ds) := r.append hd
  have hl : (us ++ ds).length = ps.length := by rw [← r2.length]; exact F.len _ _ _ _ h
  refine wpAny_call (codeAny_mono (F.run X.A X.stack s H ⟨us, []⟩ (us ++ ds) (vs ++ dvs) Q _ hr I.env0 (hb s us I.kIn hl) r2 h) fun r s' hc => ?_)
  cases r with
  | error e => exact hq.xe _ _ (fly_call I hc)
  | ok fl =>
    cases fl with
    | ret u => exact I.after hc
    | next => exact False.elim hc
    | brk => exact False.elim hc
    | cont => exact False.elim hc
theorem errR {K : PySem.W.Frag} {B : Hp × Hp} {ρ : Rho} {σ : St} {F H F' H' : Hp} {d : D} {v : V} (R : Rel K B ρ σ F H) (s : Stp F H F' H') (p : Rp K F' v d) (q : ErrK K xq B ρ σ d) : xq v σ H' := by
  obtain ⟨F1, e1, R1⟩ := (R.step s).frz
  exact q v F1 H' R1 (p.same e1)
theorem spX_of {K : PySem.W.Frag} {B : Hp × Hp} {ρ : Rho} {σ : St} {F H F0 H0 : Hp} {f : List D → Res D} {ds : List D} {vs : List V} {Q : VK} (R : Rel K B ρ σ F H) (pv : Rps K F vs ds) (s0 : Stp F0 H0 F H) (q : (f ds).all (fun d => ∀ v F' H', Stp F0 H0 F' H' → Rp K F' v d → Q v H') (ErrK K xq B ρ σ)) :
    spX K f vs H Q (fun u _ H' => ∃ a, u = .ref a ∧ xq (.ref a) σ H') :=
  ⟨F, ds, R.fh, pv, Res.all_mono q (fun d k v F' H' st p => k v F' H' (s0.trans st) p) fun x k a F' H' st p => ⟨a, rfl, errR R st p k⟩⟩
theorem d_fnX {P : Program} {w : World} {K : PySem.W.Frag} {mg : Str → Option Value} {base : Heap} {k k' : Nat} {ps : List Str} {f : List D → Res D} (hq : XqOk X xq) (h : CalleeX P w K mg base k x ps f) (hr : Room k' X.A) (ha : DA X xq (e :: es) fs) (hk : k ≤ k' := by decide) (hg : Gl X x := by rfl)
    (eP : X.prog = P := by rfl) (ew : X.w = w := by rfl) (eK : X.K = K := by rfl) (em : X.mg = mg := by rfl) (eb : X.base = base := by rfl) (hdb : (x == ("__debug__" : Str)) = false := by decide) : DE X xq (.Call (.Name x p) (e :: es) [] pos) (fun ρ => (fs ρ).bind f) :=
  ⟨fun pins s σ H Q I z9 => un5 z9 fun B F ρ R q => by
    subst eP ew eK em eb
    obtain ⟨a, fd, G, hb, hkp, hm⟩ := h
    refine wpAny_Call_Name_kw (ld_glob I hg hm ?_ hdb)
    refine PySem.W.callWith_K (h₀ := X.base) I.ok.mod.kin hkp (thn (ha.out pos pins s σ H _ I (seqA R q fun ds vs F1 H1 s1 R1 p1 q1 => show spX X.K f (vs ++ []) H1 Q (fun u _ H' => ∃ a, u = .ref a ∧ xq (.ref a) σ H') from by rw [List.append_nil]; exact spX_of R1 p1 s1 q1)) fun us s1 ⟨vs, H1, I1, r, q⟩ => ⟨I1.kIn, ?_⟩) (star_cons (all_head ha.ns).1) (back_any (all_head ha.ns).2)
    exact run_fnX hq G (hr.mono hk) hb .nil I1 r q⟩
end
section
variable {P : Program} {w : World} {K : PySem.W.Frag} {mg : Str → Option Value} {base : Heap}
abbrev xq0 (E : XK) : XQ := fun v _ H' => ∀ a, v = .ref a → E (.ref a) none H'
abbrev cxR (P : Program) (w : World) (K : PySem.W.Frag) (mg : Str → Option Value) (base : Heap) (N : List Str) (qual : Str) (scope : Scope) (f : Addr) (cdv : Value) (A : Around) (outer : List Env) (s : Shared) (H : Hp) (E : XK) : Cx :=
  (cxOf (CXe P w) P w K mg base N qual scope f cdv A outer s H E).wish (Fly (cxOf (CXe P w) P w K mg base N qual scope f cdv A outer s H E) (xq0 E))
theorem PSs.wishTo {X : Cx} {E : Value → Shared → Prop} {sts : List Stmt} {t : TS} (h : PSs (X.wish E) sts t) (k : ∀ u s', E u s' → X.xe u s') : PSs X sts t := fun pins s σ H T I hw =>
  wpAny_mono (h pins s σ H T (I.wish _) hw) (fun _ _ q => q.unwish) k
theorem Fun.okX {x qual : Str} {st : Stmt} {f : Addr} {fd : FuncData} {N ps : List Str} {k : Nat} {g : List D → Res D} (F : Fun K x qual st f fd) (S : FnScope N ps (defScope st)) (len : ∀ ds, g ds ≠ .bad → ds.length = ps.length)
    (hbody : ∀ (cdv : Value) (A : Around) (outer : List Env) (s : Shared) (H : Hp) (E : XK), Room k (A.deeper (envOfC qual (defScope st) s.heap.objs.size f cdv)) → XqOk (cxR P w K mg base N qual (defScope st) f cdv A outer s H E) (xq0 E) →
      ∃ t, DB (cxR P w K mg base N qual (defScope st) f cdv A outer s H E) (xq0 E) (defBody st) t ∧ ∀ ds, g ds ≠ .bad → outR (t (startD N.length ds)) = g ds) : FnOk P w K mg base (CXe P w) (k + 1) f fd ps (spX K g) := by
  obtain ⟨oc, od, kV, doc, pm, an, cdv, ct, osl, rfl, lk, hcd⟩ := F.ex
  have nb : ∀ vs H Q E, spX K g vs H Q E → ∃ G ds, Same G H ∧ Rps K G vs ds ∧ g ds ≠ .bad ∧ (g ds).all (fun d => ∀ v F' H', Stp G H F' H' → Rp K F' v d → Q v H') (fun x => ∀ a F' H', Stp G H F' H' → Rp K F' (.ref a) x → E (.ref a) none H') := fun vs H Q E ⟨G, ds, fh, r, q⟩ =>
    ⟨G, ds, fh, r, fun z => by rw [z] at q; exact q, q⟩
  refine fn_of lk hcd S (fun vs H Q E h => ?_) fun A outer s H vs Q E hr hsp => ?_
  · obtain ⟨G, ds, fh, r, z, q⟩ := nb vs H Q E h
    rw [r.length]; exact len ds z
  · obtain ⟨G, ds, fh, r, z, q⟩ := nb vs H Q E hsp
    have hst : (cxOf (CXe P w) P w K mg base N qual (defScope st) f cdv A outer s H E).stack = (cxOf (CXe P w) P w K mg base N qual (defScope st) f cdv A outer s H E).env :: (cxOf (CXe P w) P w K mg base N qual (defScope st) f cdv A outer s H E).outer ∧ (cxOf (CXe P w) P w K mg base N qual (defScope st) f cdv A outer s H E).env.frame = some (cxOf (CXe P w) P w K mg base N qual (defScope st) f cdv A outer s H E).env.locals := ⟨rfl, rfl⟩
    obtain ⟨t, h1, h2⟩ := hbody cdv A outer s H E hr (xqOk_wish hst)
    refine ⟨_, PSs.wishTo h1.out ?_, (G, H), G, _, r.begin fh, ⟨?_⟩⟩
    · rintro u s' ⟨n, e, C, d, σ, H', fl, o, rfl, I, hx, tb, hfl, q⟩
      refine leave_ok I hst o hx tb hfl fun s2 I2 tr => ?_
      exact ⟨e, C, d, H', rfl, I2.os, I2.bare, I2.base, I2.hok, hx, tr.tb.mono o.s0, q e rfl⟩
    · have y := h2 ds z
      rw [← y] at q
      generalize t (startD N.length ds) = o at q
      cases o with
      | nx ρ => exact fun σ F' H' R => q .non F' H' R.st .non
      | rt d' => exact fun v F' H' st pv => q v F' H' st pv
      | bk ρ => exact q.elim
      | ct ρ => exact q.elim
      | er x ρ => exact fun v σ F' H' R pv a ea => by subst ea; exact q a F' H' R.st pv
      | bad => exact q.elim
end
end L2

namespace L2
open PySem PySem.Spec PyProof.Rows
section
variable {P : Program} {w : World} {H : Hp} {h : Heap} {e C dx : Addr} {d : Option Addr} {n : Nat}
end
section
variable {X : Cx} {pins : List (Addr × Obj)} {σ : St} {H : Hp} {s : Shared} {a C dx fI : Addr} {fs : List (Str × V)} {f : Str} {v : V} {A : Around} {E : Value → Shared → Prop} {n : Nat} {d : Option Addr}
end
section
variable {M : Model} {A : Around} {E : Value → Shared → Prop} {env : Env} {K : PySem.W.Frag} {C f : Addr}
end
end L2

namespace L2
open PySem PySem.Spec PyProof.Rows
section
variable {X : Cx} {e o value : Expr} {es : List Expr} {ta tv : TE} {f x : Str} {p pos pos' cpos : Pos} {C fI : Addr} {fd : FuncData} {ps fls : List Str} {k : Nat}
end
end L2

namespace L2
open PySem PySem.Spec PyProof.Rows
section
variable {M : Model} {A : Around} {E : Value → Shared → Prop} {s : Shared} {K : PySem.W.Frag} {C C' e : Addr}
end
section
variable {X : Cx} {pins : List (Addr × Obj)} {σ : St} {H : Hp} {s : Shared} {M : Model} {A : Around} {E : Value → Shared → Prop}
end
end L2

namespace L2
open PySem PySem.Spec PyProof.Rows
section
variable {X : Cx} {xq : XQ} {pins : List (Addr × Obj)} {σ : St} {H : Hp} {s : Shared} {e : Addr}
theorem Rel.unset {K : PySem.W.Frag} {B : Hp × Hp} {ρ : Rho} {F : Hp} {i : Nat} (r : Rel K B ρ σ F H) : Rel K B (ρ.set i none) (σ.set i none) F H where
  st := r.st
  len := by simp [r.len]
  val j d e := by
    rcases get_set e with ⟨rfl, q, z⟩ | ⟨q, z⟩
    · cases z
    · rw [set_off q]; exact r.val j d z
  own j o e := by
    rcases get_set e with ⟨rfl, q, z⟩ | ⟨q, z⟩
    · cases z
    · rw [set_off q]; exact r.own j o z
  dis j k o u a x y := by
    rcases get_set x with ⟨rfl, q, z⟩ | ⟨q, z⟩
    · cases z
    · rcases get_set y with ⟨rfl, q', z'⟩ | ⟨q', z'⟩
      · cases z'
      · rw [set_off q, set_off q']; exact r.dis j k o u a z z'
def unset (i : Nat) : Out → Out
  | .nx ρ => .nx (ρ.set i none)
  | .rt d => .rt d
  | .bk ρ => .bk (ρ.set i none)
  | .ct ρ => .ct (ρ.set i none)
  | _ => .bad
end
end L2

namespace L2
open PySem PySem.Spec PyProof.Rows
section
variable {X : Cx} {xq : XQ} {pins : List (Addr × Obj)} {σ : St} {H : Hp} {s : Shared} {e : Addr}
def catchD (hd : D → Rho → Out) : Out → Out
  | .er x ρ => hd x ρ
  | o => o
end
end L2

namespace L2
open PySem PySem.Spec PyProof.Rows
mutual
def DK.hash (w : World) : DK → Int
  | .i n => keyH w (.inl n)
  | .s z => keyH w (.inr z)
  | .t ks => reduceHash (Builtin.Tuple.tupleHashOf (DK.hashes w ks))
def DK.hashes (w : World) : List DK → List Int
  | [] => []
  | k :: ks => k.hash w :: DK.hashes w ks
end
mutual
def DK.drw : DK → Nat
  | .i _ => 1
  | .s _ => 1
  | .t ks => DK.drws ks + 1
def DK.drws : List DK → Nat
  | [] => 0
  | k :: ks => k.drw + DK.drws ks
end
mutual
inductive KAt (h : Heap) : DK → Value → Prop
  | i (n : Int) (t : Tok) : KAt h (.i n) (.int n t)
  | s (z : Str) (t : Tok) : KAt h (.s z) (.str z t)
  | t {a : Addr} {o : Obj} {its : Array Value} {n : Nat} {ks : List DK} : h.get? a = some o → o.cls = .type "tuple" → o.data = .seq its n → KAts h ks its.toList → KAt h (.t ks) (.ref a)
inductive KAts (h : Heap) : List DK → List Value → Prop
  | nil : KAts h [] []
  | cons {k : DK} {v : Value} {ks : List DK} {vs : List Value} : KAt h k v → KAts h ks vs → KAts h (k :: ks) (v :: vs)
end
mutual
theorem KAt.inj {h : Heap} : ∀ {x y : DK} {v : Value}, KAt h x v → KAt h y v → x = y
  | _, _, _, .i _ _, .i _ _ => rfl
  | _, _, _, .s _ _, .s _ _ => rfl
  | _, _, _, .t p1 _ p2 p3, .t q1 _ q2 q3 => by
    rw [p1] at q1; cases q1
    rw [p2] at q2; cases q2
    rw [KAts.inj p3 q3]
theorem KAts.inj {h : Heap} : ∀ {x y : List DK} {v : List Value}, KAts h x v → KAts h y v → x = y
  | _, _, _, .nil, .nil => rfl
  | _, _, _, .cons p ps, .cons q qs => by rw [KAt.inj p q, KAts.inj ps qs]
end
mutual
theorem KAt.moved {h h' : Heap} (k : ∀ b o its n, h.get? b = some o → o.data = .seq its n → h'.get? b = some o) : ∀ {x : DK} {v : Value}, KAt h x v → KAt h' x v
  | _, _, .i n t => .i n t
  | _, _, .s n t => .s n t
  | _, _, .t p1 pc p2 p3 => .t (k _ _ _ _ p1 p2) pc p2 (KAts.moved k p3)
theorem KAts.moved {h h' : Heap} (k : ∀ b o its n, h.get? b = some o → o.data = .seq its n → h'.get? b = some o) : ∀ {x : List DK} {v : List Value}, KAts h x v → KAts h' x v
  | _, _, .nil => .nil
  | _, _, .cons p ps => .cons (KAt.moved k p) (KAts.moved k ps)
end
mutual
theorem KAt.reads {h : Heap} : ∀ {x : DK} {v : Value}, KAt h x v → ∃ as, Reads h v x.py as
  | _, _, .i n t => ⟨_, .int n t⟩
  | _, _, .s z t => ⟨_, .str z t⟩
  | _, _, .t p1 pc p2 p3 => let ⟨_, q⟩ := KAts.reads p3; ⟨_, by rw [DK.py]; exact .tuple p1 pc p2 q⟩
theorem KAts.reads {h : Heap} : ∀ {x : List DK} {v : List Value}, KAts h x v → ∃ as, ReadsAll h v (DK.pys x) as
  | _, _, .nil => ⟨_, .nil⟩
  | _, _, .cons p ps => let ⟨_, q⟩ := KAt.reads p; let ⟨_, qs⟩ := KAts.reads ps; ⟨_, .cons q qs⟩
end
mutual
theorem DK.eqv_iff : ∀ x y : DK, PyData.eqv x.py y.py = true ↔ x = y
  | .i n, .i m => by simp [DK.py, PyData.eqv]
  | .s n, .s m => by simp [DK.py, PyData.eqv]
  | .t n, .t m => by simp only [DK.py, PyData.eqv, DK.t.injEq]; exact DK.eqvs_iff n m
  | .i _, .s _ => by simp [DK.py, PyData.eqv]
  | .i _, .t _ => by simp [DK.py, PyData.eqv]
  | .s _, .i _ => by simp [DK.py, PyData.eqv]
  | .s _, .t _ => by simp [DK.py, PyData.eqv]
  | .t _, .i _ => by simp [DK.py, PyData.eqv]
  | .t _, .s _ => by simp [DK.py, PyData.eqv]
theorem DK.eqvs_iff : ∀ x y : List DK, PyData.eqvAll (DK.pys x) (DK.pys y) = true ↔ x = y
  | [], [] => by simp [DK.pys, PyData.eqvAll]
  | a :: x, b :: y => by simp only [DK.pys, PyData.eqvAll, Bool.and_eq_true, List.cons.injEq]; rw [DK.eqv_iff a b, DK.eqvs_iff x y]
  | [], _ :: _ => by simp [DK.pys, PyData.eqvAll]
  | _ :: _, [] => by simp [DK.pys, PyData.eqvAll]
end
theorem DK.eqv_dec (x y : DK) : PyData.eqv x.py y.py = decide (x = y) := by
  rw [Bool.eq_iff_iff, DK.eqv_iff]; simp
section
variable {prog : Program} {w : World}
set_option maxHeartbeats 1000000 in
theorem kat_hash (d : Nat) : ∀ {k : DK} {v : Value} {A : Around} {E : Value → Shared → Prop} {s : Shared} {Q : Int → Shared → Prop}, k.dep ≤ d → A.units + d < cLine → KAt s.heap k v → Q (k.hash w) { s with toks := s.toks + k.drw } → wpAny (model prog w) A (PySem.pyHash v) Q E s := by
  induction d with
  | zero =>
    intro k v A E s Q hd hu p q
    cases p with
    | i n t => exact (mixKind prog w).pyHash (k := .inl n) (mixKind_int prog w n t) q
    | s z t => exact (mixKind prog w).pyHash (k := .inr z) (mixKind_str prog w z t) q
    | t p1 pc p2 p3 => simp [DK.dep] at hd
  | succ d ih =>
    intro k v A E s Q hd hu p q
    cases p with
    | i n t => exact (mixKind prog w).pyHash (k := .inl n) (mixKind_int prog w n t) q
    | s z t => exact (mixKind prog w).pyHash (k := .inr z) (mixKind_str prog w z t) q
    | @t a o its n ks p1 pc p2 p3 =>
      have ty : s.TypeIs (.ref a) "tuple" := ⟨o, p1, pc⟩
      have hds : DK.deps ks ≤ d := by simpa [DK.dep] using hd
      unfold PySem.pyHash
      first | unfold pyHashByItsType | skip
      first | refine wpAny_bind (wpAny_cRoomFor_or (.inr (by omega)) ?_) | skip
      refine wpAny_bind (wpAny_specialOf ty F.slot_tuple_hash.lookup ?_)
      show wpAny _ _ (if (some (Value.builtin "tuple.__hash__") == some Value.none) = true then _ else _) _ _ _
      rw [if_neg (by rw [beq_builtin_none]; simp)]
      refine wpAny_bind (wpAny_specialOf ty F.slot_tuple_hash.lookup ?_)
      show wpAny _ _ (callSpecialIfBoundUnlessNone? (.ref a) "__hash__" _ >>= _) _ _ _
      refine wpAny_bind (wpAny_callSpecialIfBoundUnlessNone?_slot ty F.slot_tuple_hash (wpAny_call_entry F.slot_tuple_hash ty F.entry_tuple_hash ?_ (F.args_tuple_hash_1 _)))
      show wpAny _ _ (Builtin.Tuple.tupleItemsOf (.ref a) >>= _) _ _ _
      refine wpAny_bind (wpAny_tupleItemsOf p1 p2 ?_)
      refine wpAny_bind ?_
      rw [← Array.forIn_toList]
      refine wpAny_forIn_list _ (fun rest (b : Array Int) s' => ∃ l r, DK.hashes w ks = l ++ DK.hashes w r ∧ KAts s.heap r rest ∧ DK.deps r ≤ d ∧ b.toList = l ∧ ∃ c, c + DK.drws r = DK.drws ks ∧ s' = { s with toks := s.toks + c }) _ ?_ ?_ _ _ ⟨[], ks, rfl, p3, hds, rfl, 0, Nat.zero_add _, rfl⟩
      · rintro x rest b s' ⟨l, r, e1, e2, e3, e4, c, e5, rfl⟩
        cases e2 with
        | @cons k _ r' _ f1 f2 =>
          simp only [DK.deps] at e3
          refine wpAny_bind (ih (k := k) (by omega) (by show A.units + 1 + d < cLine; omega) f1 ?_)
          first
            | exact wpAny_pure ⟨l ++ [k.hash w], r', by rw [e1]; simp [DK.hashes], f2, by omega, by simp [e4], c + k.drw, by rw [← e5]; simp [DK.drws, Nat.add_assoc], by simp [Nat.add_assoc]⟩
            | exact wpAny_bind (wpAny_pure (wpAny_pure ⟨l ++ [k.hash w], r', by rw [e1]; simp [DK.hashes], f2, by omega, by simp [e4], c + k.drw, by rw [← e5]; simp [DK.drws, Nat.add_assoc], by simp [Nat.add_assoc]⟩))
      · rintro b s' ⟨l, r, e1, e2, e3, e4, c, e5, rfl⟩
        cases e2
        have e6 : DK.hashes w ks = b.toList := by rw [e1, e4]; simp [DK.hashes]
        have e7 : c = DK.drws ks := by rw [← e5]; simp [DK.drws]
        subst e7
        simp only [DK.hash, DK.drw] at q
        rw [e6] at q
        show wpAny _ _ (retInt (Builtin.Tuple.tupleHashOf b.toList)) _ _ _
        refine wpAny_ret_mkInt ?_
        show wpAny _ _ (if (decide (-(2 : Int) ^ 63 ≤ Builtin.Tuple.tupleHashOf b.toList) && decide (Builtin.Tuple.tupleHashOf b.toList < 2 ^ 63)) = true then _ else _) _ _ _
        unfold reduceHash at q
        by_cases hr : (decide (-(2 : Int) ^ 63 ≤ Builtin.Tuple.tupleHashOf b.toList) && decide (Builtin.Tuple.tupleHashOf b.toList < 2 ^ 63)) = true
        · rw [if_pos hr] at q ⊢
          exact wpAny_pure (by simpa [Nat.add_assoc] using q)
        · rw [if_neg hr] at q ⊢
          exact wpAny_bind (wpAny_rule (wpAny_pure (by simpa [Nat.add_assoc] using q)))
theorem kat_quiet (d : Nat) : ∀ {k : DK} {v : Value} {A : Around} {E : Value → Shared → Prop} {s : Shared} {Q : Bool → Shared → Prop}, k.dep ≤ d → KAt s.heap k v → Q true s → wpAny (model prog w) A (eqIsQuiet d v) Q E s := by
  induction d with
  | zero =>
    intro k v A E s Q hd p q
    cases p with
    | i n t => rw [eqIsQuiet_byValue _ rfl]; exact wpAny_pure q
    | s z t => rw [eqIsQuiet_byValue _ rfl]; exact wpAny_pure q
    | t p1 pc p2 p3 => simp [DK.dep] at hd
  | succ d ih =>
    intro k v A E s Q hd p q
    cases p with
    | i n t => rw [eqIsQuiet_byValue _ rfl]; exact wpAny_pure q
    | s z t => rw [eqIsQuiet_byValue _ rfl]; exact wpAny_pure q
    | @t a o its n ks p1 pc p2 p3 =>
      have ty : s.TypeIs (.ref a) "tuple" := ⟨o, p1, pc⟩
      have hds : DK.deps ks ≤ d := by simpa [DK.dep] using hd
      unfold eqIsQuiet
      refine wpAny_bind (wpAny_specialOf ty F.slot_tuple_eq.lookup ?_)
      show wpAny _ _ (isInstance (.ref a) (.type "tuple") >>= _) _ _ _
      refine wpAny_bind (wpAny_isInstance ty isSubtype_tuple_tuple ?_)
      simp only [Bool.not_true, Bool.false_eq_true, if_false]
      refine wpAny_bind (wpAny_seqItems p1 p2 ?_)
      refine wpAny_bind ?_
      show wpAny _ _ (forIn its _ _) _ _ _
      rw [← Array.forIn_toList]
      refine wpAny_forIn_list _ (fun rest r s' => r.1 = none ∧ s' = s ∧ ∃ l, KAts s.heap l rest ∧ DK.deps l ≤ d) _ ?_ ?_ _ _ ⟨rfl, rfl, ks, p3, hds⟩
      · rintro v rest r s' ⟨hr, rfl, l, e1, e2⟩
        cases e1 with
        | cons f1 f2 =>
          simp only [DK.deps] at e2
          refine wpAny_bind (ih (by omega) f1 ?_)
          simp only [Bool.not_true, Bool.false_eq_true, if_false]
          exact wpAny_pure ⟨rfl, rfl, _, f2, by omega⟩
      · rintro ⟨r1, r2⟩ s' ⟨hr, rfl, _⟩
        simp only at hr
        subst hr
        exact wpAny_pure q
noncomputable def nestKind (prog : Program) (w : World) : HeapKind prog w (List DK) where
  is h ks a := KAt h (.t ks) (.ref a) ∧ (DK.t ks).dep ≤ 8 ∧ SeqAt.shaped (DK.t ks).py = true
  hash ks := (DK.t ks).hash w
  draws ks := (DK.t ks).drw
  room A := A.units + 80 < cLine
  inj p q := by have := p.1.inj q.1; cases this; rfl
  keeps p hd he sb := ⟨p.1.moved (fun b o its n q1 q2 => (sb.2 b (fun z => by
    subst z
    rw [q1] at hd
    cases hd
    rw [q2] at he
    cases he)).trans q1), p.2⟩
  pyHash hu p q := kat_hash 8 p.2.1 (by omega) p.1 q
  eqBool := fun {A E s x y a b Q} hu p r q => by
    obtain ⟨as, ra⟩ := p.1.reads
    obtain ⟨bs, rb⟩ := r.1.reads
    refine SeqAt.eqBoolOverData _ _ _ _ _ _ _ _ _ _ _ _ ra rb (SeqAt.canLay_of_shaped p.2.2) (SeqAt.canLay_of_shaped r.2.2) ?_ ?_
    · have := SeqAt.depth_of_shaped p.2.2
      have h2 : min (DK.t x).py.depth (DK.t y).py.depth ≤ (DK.t x).py.depth := Nat.min_le_left _ _
      omega
    · rw [DK.eqv_dec]; simpa using q
  quiet p q := kat_quiet 8 p.2.1 p.1 q
end
end L2

namespace L2
open PySem PySem.Spec PyProof.Rows
def cmpDs : List D → Res (List PyData)
  | [] => .ok []
  | d :: ds => (cmpD d).bind fun a => (cmpDs ds).bind fun as => .ok (a :: as)
def inS (i j : Str) : Bool := !(Builtin.Str.occurrences j i 0 j.length 1).isEmpty
def inD (x : D) (ds : List D) (neg : Bool) : Res D := (cmpD x).bind fun a => (cmpDs ds).bind fun as => .ok (.bl (if neg = true then !(as.any fun b => PyData.eqv b a) else as.any fun b => PyData.eqv b a))
def dInG (neg : Bool) : D → D → Res D
  | x, .lst ds => inD x ds neg
  | x, .tup ds => inD x ds neg
  | .str i, .str j => .ok (.bl (if neg = true then !inS i j else inS i j))
  | _, _ => .bad
theorem dIn_lst (neg : Bool) (x : D) (ds : List D) : dInG neg x (.lst ds) = inD x ds neg := by cases x <;> rfl
theorem dIn_tup (neg : Bool) (x : D) (ds : List D) : dInG neg x (.tup ds) = inD x ds neg := by cases x <;> rfl
abbrev dIn := dInG false
abbrev dNotIn := dInG true
section
variable {X : Cx} {pins : List (Addr × Obj)} {σ : St} {H : Hp} {s : Shared}
noncomputable def eqR (h : Heap) (a : PyData) (u : Value) : Bool := @decide (∃ d as, Reads h u d as ∧ PyData.eqv d a = true) (_root_.Classical.propDecidable _)
theorem eqR_of {h : Heap} {a d : PyData} {u : Value} {as : List Addr} (r : Reads h u d as) : eqR h a u = PyData.eqv d a := by
  unfold eqR
  rw [Bool.eq_iff_iff, @decide_eq_true_iff _ (_root_.Classical.propDecidable _)]
  constructor
  · rintro ⟨d', as', r', q⟩
    rw [(r.unique d' as' r').1]; exact q
  · exact fun q => ⟨d, as, r, q⟩
theorem cmpDs_cons {d : D} {ds : List D} {bs : List PyData} (h : cmpDs (d :: ds) = .ok bs) : ∃ b r, d.py = some b ∧ SeqAt.shaped b = true ∧ cmpDs ds = .ok r ∧ bs = b :: r := by
  unfold cmpDs at h
  cases e : cmpD d with
  | err x => rw [e] at h; cases h
  | bad => rw [e] at h; cases h
  | ok b =>
    rw [e] at h
    obtain ⟨b', q1, q2, q3⟩ := cmpD_ok (P := fun z => z = b) (E := fun _ => False) (by rw [e]; exact rfl)
    subst q3
    cases e2 : cmpDs ds with
    | err x => rw [e2] at h; cases h
    | bad => rw [e2] at h; cases h
    | ok r => rw [e2] at h; cases h; exact ⟨_, r, q1, q2, rfl, rfl⟩
theorem any_rd {F : Hp} {a : PyData} {v : Value} {vs : List Addr} {A : Around} (I : Inv X pins σ H s) (fh : Same F H) (rv : Reads s.heap v a vs) (sa : SeqAt.shaped a = true) (hu : A.units + 64 < cLine) : ∀ {xs : List V} {ds : List D} {its : List Value} {bs : List PyData}, Rps X.K F xs ds → Vals xs its → cmpDs ds = .ok bs →
    (∀ u ∈ its, SeqAt.EqAt A s u v (eqR s.heap a u)) ∧ its.any (eqR s.heap a) = bs.any fun b => PyData.eqv b a
  | _, _, _, _, .nil, .nil, e => by cases e; exact ⟨(fun u hu => by cases hu), rfl⟩
  | _, _, _, _, .cons h hs, .cons r rs, e => by
    obtain ⟨b, r', q1, q2, q3, rfl⟩ := cmpDs_cons e
    obtain ⟨i1, i2⟩ := any_rd I fh rv sa hu hs rs q3
    obtain ⟨as, ru⟩ := ((h.rd q1).same fh).reads I r
    refine ⟨fun u hu' => ?_, by rw [List.any_cons, List.any_cons, i2, eqR_of ru]⟩
    rcases List.mem_cons.mp hu' with rfl | hu'
    · rw [eqR_of ru]
      refine SeqAt.eqAt_reads _ _ _ _ _ _ _ _ ru rv (SeqAt.canLay_of_shaped q2) (SeqAt.canLay_of_shaped sa) ?_
      have := SeqAt.depth_of_shaped q2
      have h2 : min b.depth a.depth ≤ b.depth := Nat.min_le_left _ _
      omega
    · exact i1 u hu'
theorem inD_ok {x : D} {ds : List D} {neg : Bool} {P : D → Prop} {E : D → Prop} (h : (inD x ds neg).all P E) : ∃ a bs, x.py = some a ∧ SeqAt.shaped a = true ∧ cmpDs ds = .ok bs ∧ P (.bl (if neg = true then !(bs.any fun b => PyData.eqv b a) else bs.any fun b => PyData.eqv b a)) ∨ ∃ y, cmpDs ds = .err y := by
  unfold inD at h
  obtain ⟨a, q1, q2, q⟩ := cmpD_ok (Res.all_bind.mp h)
  cases e : cmpDs ds with
  | ok bs => rw [e] at q; exact ⟨a, bs, .inl ⟨q1, q2, rfl, q⟩⟩
  | err y => exact ⟨a, [], .inr ⟨y, rfl⟩⟩
  | bad => rw [e] at q; exact q.elim
theorem cmpDs_noerr : ∀ (ds : List D) (y : D), cmpDs ds ≠ .err y
  | [], _, h => by cases h
  | d :: ds, y, h => by
    unfold cmpDs at h
    cases e : cmpD d with
    | err x =>
      unfold cmpD at e
      split at e
      · unfold gd at e; split at e <;> cases e
      · cases e
    | bad => rw [e] at h; cases h
    | ok b =>
      rw [e] at h
      cases e2 : cmpDs ds with
      | err x => exact cmpDs_noerr ds x e2
      | bad => rw [e2] at h; cases h
      | ok r => rw [e2] at h; cases h
theorem o_in (hu : X.A.units + 100 < cLine) : OpR X (compareOp .In) (rD X.K dIn) := by
  intro pins s σ H x y v u Q I rx ry ⟨F, dx, dy, fh, px, py, q⟩
  have hu' : X.A.in1.units + 64 < cLine := by show X.A.units + 1 + 64 < cLine; omega
  cases py with
  | lst hq hs =>
    unfold dIn at q
    rw [dIn_lst] at q
    obtain ⟨a, bs, ⟨q1, q2, q3, q4⟩ | ⟨y, q3⟩⟩ := inD_ok q
    · obtain ⟨its, r, pl, hz⟩ := I.list (.inl (hq.same fh))
      obtain ⟨as, rv⟩ := ((px.rd q1).same fh).reads I rx
      obtain ⟨h1, h2⟩ := any_rd I fh rv q2 hu' hs r q3
      cases ry
      refine SeqAt.in_listAt (eqR s.heap a) pl.isList (fun w hw => h1 w (by simpa using hw)) ⟨.bl _, H, I, rfl, ?_⟩
      rw [show its.toArray.any (eqR s.heap a) = its.any (eqR s.heap a) by simp, h2]
      exact q4 _ F H (Stp.refl fh) (.bl _)
    · exact absurd q3 (cmpDs_noerr _ _)
  | tup hq hs =>
    unfold dIn at q
    rw [dIn_tup] at q
    obtain ⟨a, bs, ⟨q1, q2, q3, q4⟩ | ⟨y, q3⟩⟩ := inD_ok q
    · obtain ⟨its, r, pl, hz⟩ := I.tuple (fh.seqT hq)
      obtain ⟨as, rv⟩ := ((px.rd q1).same fh).reads I rx
      obtain ⟨h1, h2⟩ := any_rd I fh rv q2 hu' hs r q3
      cases ry
      refine SeqAt.in_tupleAt (eqR s.heap a) pl (fun w hw => h1 w (by simpa using hw)) ⟨.bl _, H, I, rfl, ?_⟩
      rw [show its.toArray.any (eqR s.heap a) = its.any (eqR s.heap a) by simp, h2]
      exact q4 _ F H (Stp.refl fh) (.bl _)
    · exact absurd q3 (cmpDs_noerr _ _)
  | str hz =>
    cases px with
    | str hz' => exact op_in_str pins s σ H _ _ v u Q I rx ry ⟨_, _, rfl, rfl, q _ F H (Stp.refl fh) (.bl _)⟩
    | _ => exact q.elim
  | _ => cases dx <;> exact q.elim
theorem o_notin (hu : X.A.units + 100 < cLine) : OpR X (compareOp .NotIn) (rD X.K dNotIn) := by
  intro pins s σ H x y v u Q I rx ry ⟨F, dx, dy, fh, px, py, q⟩
  have hu' : X.A.in1.units + 64 < cLine := by show X.A.units + 1 + 64 < cLine; omega
  cases py with
  | lst hq hs =>
    unfold dNotIn at q
    rw [dIn_lst] at q
    obtain ⟨a, bs, ⟨q1, q2, q3, q4⟩ | ⟨y, q3⟩⟩ := inD_ok q
    · obtain ⟨its, r, pl, hz⟩ := I.list (.inl (hq.same fh))
      obtain ⟨as, rv⟩ := ((px.rd q1).same fh).reads I rx
      obtain ⟨h1, h2⟩ := any_rd I fh rv q2 hu' hs r q3
      cases ry
      refine SeqAt.notIn_listAt (eqR s.heap a) pl.isList (fun w hw => h1 w (by simpa using hw)) ⟨.bl _, H, I, rfl, ?_⟩
      rw [show its.toArray.any (eqR s.heap a) = its.any (eqR s.heap a) by simp, h2]
      exact q4 _ F H (Stp.refl fh) (.bl _)
    · exact absurd q3 (cmpDs_noerr _ _)
  | tup hq hs =>
    unfold dNotIn at q
    rw [dIn_tup] at q
    obtain ⟨a, bs, ⟨q1, q2, q3, q4⟩ | ⟨y, q3⟩⟩ := inD_ok q
    · obtain ⟨its, r, pl, hz⟩ := I.tuple (fh.seqT hq)
      obtain ⟨as, rv⟩ := ((px.rd q1).same fh).reads I rx
      obtain ⟨h1, h2⟩ := any_rd I fh rv q2 hu' hs r q3
      cases ry
      refine SeqAt.notIn_tupleAt (eqR s.heap a) pl (fun w hw => h1 w (by simpa using hw)) ⟨.bl _, H, I, rfl, ?_⟩
      rw [show its.toArray.any (eqR s.heap a) = its.any (eqR s.heap a) by simp, h2]
      exact q4 _ F H (Stp.refl fh) (.bl _)
    · exact absurd q3 (cmpDs_noerr _ _)
  | str hz =>
    cases px with
    | str hz' => exact op_notIn_str pins s σ H _ _ v u Q I rx ry ⟨_, _, rfl, rfl, q _ F H (Stp.refl fh) (.bl _)⟩
    | _ => exact q.elim
  | _ => cases dx <;> exact q.elim
end
end L2

namespace L2
open PySem PySem.Spec PyProof.Rows
def liftO (K : PySem.W.Frag) (xq : XQ) (f : Rho → Res (Option Int)) : TO := fun σ H Q => ∃ B F ρ, Rel K B ρ σ F H ∧
  (f ρ).all (fun o => ∀ F' H', Stp F H F' H' → Q o H') (ErrK K xq B ρ σ)
structure DO (X : Cx) (xq : XQ) (e : Option Expr) (f : Rho → Res (Option Int)) : Prop where
  out : PO X e (liftO X.K xq f)
def asI : D → Res (Option Int)
  | .int i => .ok (some i)
  | _ => .bad
def dSl (d : D) (lo hi : Option Int) : Res D := match d with
  | .lst ds => .ok (.lst (cutC ds lo hi))
  | .tup ds => if HT.sIx ds.length 0 lo = 0 ∧ HT.sIx ds.length ds.length hi = ds.length then .bad else .ok (.tup (cutC ds lo hi))
  | .str z => .ok (.str (Txt.slice z lo hi))
  | _ => .bad
section
variable {X : Cx} {xq : XQ} {e : Expr} {lo hi : Option Expr} {fe : Rho → Res D} {fl fh : Rho → Res (Option Int)} {p2 pos : Pos}
theorem do_none : DO X xq none (fun _ => .ok none) := ⟨fun pins s σ H Q I z9 => un5 z9 fun B F ρ R q => po_none pins s σ H Q I (q F H (Stp.refl R.fh))⟩
theorem do_some (h : DE X xq e fe) : DO X xq (some e) (fun ρ => (fe ρ).bind asI) := ⟨fun pins s σ H Q I z9 => un5 z9 fun B F ρ R q => po_some h.out pins s σ H Q I (seqE R q fun d v F1 H1 s1 R1 p1 q1 => by
  cases p1 with
  | int i => exact ⟨i, rfl, q1 F1 H1 s1⟩
  | _ => exact q1.elim)⟩
def rSlD (K : PySem.W.Frag) : V → Option Int → Option Int → Hp → VK → Prop := fun x lo hi H Q => ∃ F d, Same F H ∧ Rp K F x d ∧ (dSl d lo hi).all (fun d' => ∀ v F' H', Stp F H F' H' → Rp K F' v d' → Q v H') (fun _ => False)
theorem Rps.cut {K : PySem.W.Frag} {F : Hp} {xs : List V} {ds : List D} (r : Rps K F xs ds) (lo hi : Option Int) : Rps K F (cutV xs lo hi) (cutC ds lo hi) := by
  unfold cutV cutC
  rw [r.length]
  exact (r.drop _).take _
theorem sl_D : SlR X (rSlD X.K) := by
  intro pins s σ H x v vl vu lo hi sl Q I rx hs pl pu ⟨F, d, fh, px, q⟩
  cases px with
  | lst hq rs => exact sl_list pins s σ H _ v vl vu lo hi sl Q I rx hs pl pu ⟨_, _, rfl, .inl (hq.same fh), fun p n => q _ _ _ (Stp.new fh n) (.lst (.inl upd_same) ((rs.cut lo hi).same (Stp.new fh n).ff))⟩
  | tup hq rs =>
    unfold dSl at q
    dsimp only at q
    split at q
    · exact q.elim
    · rename_i nw
      exact sl_tup pins s σ H _ v vl vu lo hi sl Q I rx hs pl pu ⟨_, _, rfl, fh.seqT hq, by rw [rs.length]; exact nw, fun p n => q _ _ _ (Stp.new fh n) (.tup (.inl (.inl upd_same)) ((rs.cut lo hi).same (Stp.new fh n).ff))⟩
  | str hz => exact sl_str pins s σ H _ v vl vu lo hi sl Q I rx hs pl pu ⟨_, rfl, hz, q _ F H (Stp.refl fh) (.str (Nat.le_trans (Txt.slice_le _ _ _) hz))⟩
  | _ => exact q.elim
theorem d_sl (he : DE X xq e fe) (hl : DO X xq lo fl) (hu : DO X xq hi fh) : DE X xq (.Subscript e (.Slice lo hi none p2) pos) (fun ρ => (fe ρ).bind fun d => (fl ρ).bind fun l => (fh ρ).bind fun u => dSl d l u) :=
  DE.of (pe_slice sl_D he.out hl.out hu.out) fun B F ρ σ H Q R q => seqE R q fun d v F1 H1 s1 R1 p1 q1 =>
    ⟨B, F1, ρ, R1, Res.all_mono (Res.all_bind.mp q1) (fun l q2 F2 H2 s2 => ⟨B, F2, ρ, R1.step s2, Res.all_mono (Res.all_bind.mp q2) (fun u q3 F3 H3 s3 => by
      refine ⟨F3, d, ((R1.step s2).step s3).fh, (p1.same s2.ff).same s3.ff, ?_⟩
      cases hd : dSl d l u with
      | ok d' => rw [hd] at q3; exact fun v' F' H' st pv => q3 v' F' H' (((s1.trans s2).trans s3).trans st) pv
      | err x => unfold dSl at hd; split at hd <;> first | cases hd | (split at hd <;> cases hd)
      | bad => rw [hd] at q3; exact q3) fun _ z => z⟩) fun _ z => z⟩
theorem ds_compV {tg iter elt : Expr} {ifs : List Expr} {scope : Scope} {fi : Rho → Res (List D)} {g : D → Rho → Res Rho} {fA : Rho → Res Bool} {ix : List Nat} {x : Str} {i : Nat} {py spos : Pos} (own : List Str) (outs : List Nat) (hc : X.calm = true) (ok : CompOk X.env.scope X.N own outs scope) (hN : X.N.Nodup) (hi : DI X xq tg iter fi) (hg : ∀ {cl C s H fp}, DG (cxC X own outs scope cl C s H fp) tg ix g) (hf : ∀ {cl C s H fp}, DF (cxC X own outs scope cl C s H fp) xqF ifs fA) (he : ∀ {cl C s H fp}, DE (cxC X own outs scope cl C s H fp) xqF elt fe)
    (nd : outs.Nodup := by decide) (hix : ∀ j ∈ ix, j < own.length := by decide) (hy : X.N.findIdx? (fun y => y == x) = some i := by rfl) (hx : X.env.scope.names.lookup x = some .local := by rfl)
    (hsw : swapsWith (.ListComp elt [⟨tg, iter, ifs, 0⟩] scope pos) (some (.Name x py)) spos.line X.env = pure true := by rfl) (hs : ∀ x, foldedSetIterable iter X.env x = pure x := by intro _; rfl) :
    DS X xq (.Assign [.Name x py] (.ListComp elt [⟨tg, iter, ifs, 0⟩] scope pos) spos) (fun ρ => ((fi ρ).bind fun ds => gd (ds.length ≤ sizeLine) ((compD g fA fe (rhoC own.length outs ρ) ds).bind fun ys => .ok (OD.l ys))).go ρ fun o => .nx (ρ.set i (some (.val o.toD)))) :=
  DS.of (ps_setcomp own outs hc ok hN (slot_of hy) hx hi.out (g := liftG X.K ix g) (ti := liftT X.K xqF fA) (te := liftE X.K xqF fe) (fun {cl C s H fp} => hg.out) (fun {cl C s H fp} => hf.out) (fun {cl C s H fp} => he.out) hsw hs) fun B F ρ σ H T R q =>
    comp_read nd hix ⟨B, F, ρ, R, Res.all_mono (go_all q.out) (fun o q a hh F' H' s1 n1 n2 e1 r1 => by
      have s2 : Stp F H (upd F' a hh) H' := ⟨s1.ff.trans (same_upd_none n1), fun b u x => by
        unfold upd at x
        by_cases z : b = a
        · rw [if_pos z] at x; cases x; subst z; exact e1
        · rw [if_neg z] at x; exact s1.fh b u x, s1.hh, fun b x y => by
        unfold upd
        by_cases z : b = a
        · subst z; exact absurd n2 y
        · rw [if_neg z]; exact s1.no b x y⟩
      exact q _ _ _ ((R.step s2).set ((Ro.same (same_upd_none n1) r1).rp upd_same))) fun x q => errOf q⟩
end
end L2

namespace L2
open PySem PySem.Spec PyProof.Rows
@[simp] theorem noE_ok {α : Type} (a : α) : noE (Res.ok a) = .ok a := rfl
@[simp] theorem noE_bad {α : Type} : noE (Res.bad : Res α) = .bad := rfl
@[simp] theorem asB_bl (b : Bool) : asB (.bl b) = .ok b := rfl
@[simp] theorem dI0_ii (g : Int → Int → D) (i j : Int) : dI0 g (.int i) (.int j) = .ok (g i j) := rfl
@[simp] theorem dI_ii (C : Int → Int → Prop) [∀ i j, Decidable (C i j)] (g : Int → Int → D) (i j : Int) : dI C g (.int i) (.int j) = gd (C i j) (.ok (g i j)) := rfl
@[simp] theorem outR_nx (ρ : Rho) : outR (.nx ρ) = .ok .non := rfl
@[simp] theorem outR_rt (d : D) : outR (.rt d) = .ok d := rfl
@[simp] theorem outR_er (x : D) (ρ : Rho) : outR (.er x ρ) = .err x := rfl
@[simp] theorem frz_nil : frz [] = [] := rfl
@[simp] theorem frz_val (d : D) (ρ : Rho) : frz (some (.val d) :: ρ) = some (.val d) :: frz ρ := rfl
@[simp] theorem frz_own (o : OD) (ρ : Rho) : frz (some (.own o) :: ρ) = some (.val o.toD) :: frz ρ := rfl
@[simp] theorem frz_none (ρ : Rho) : frz (none :: ρ) = none :: frz ρ := rfl
@[simp] theorem frz_rep (n : Nat) : frz (List.replicate n none) = List.replicate n none := by unfold frz; simp
@[simp] theorem getV_zero (d : D) (ρ : Rho) : getV (some (.val d) :: ρ) 0 = .ok d := rfl
@[simp] theorem getV_succ (x : Option Sl) (ρ : Rho) (i : Nat) : getV (x :: ρ) (i + 1) = getV ρ i := rfl
@[simp] theorem getL_zero (ds : List D) (ρ : Rho) : getL (some (.own (.l ds)) :: ρ) 0 = .ok ds := rfl
@[simp] theorem getL_succ (x : Option Sl) (ρ : Rho) (i : Nat) : getL (x :: ρ) (i + 1) = getL ρ i := rfl
@[simp] theorem toD_l (ds : List D) : (OD.l ds).toD = .lst ds := rfl
@[simp] theorem szD_pos {α : Type} {ds : List D} {k : Res α} (h : ds.length ≤ sizeLine) : szD ds k = k := if_pos h
@[simp] theorem unset_nx (i : Nat) (ρ : Rho) : unset i (.nx ρ) = .nx (ρ.set i none) := rfl
@[simp] theorem catch_nx (hd : D → Rho → Out) (ρ : Rho) : catchD hd (.nx ρ) = .nx ρ := rfl
@[simp] theorem catch_rt (hd : D → Rho → Out) (d : D) : catchD hd (.rt d) = .rt d := rfl
@[simp] theorem catch_er (hd : D → Rho → Out) (x : D) (ρ : Rho) : catchD hd (.er x ρ) = hd x ρ := rfl
@[simp] theorem chain_eq (g g' : D → D → Res D) (x y : D) (z : Res D) : fChain g g' x y z = (noE (g x y)).bind fun w => (asB w).bind fun c => if c = true then z.bind fun z => noE (g' y z) else .ok (.bl false) := rfl
theorem compD_map {g : D → Rho → Res Rho} {fT : Rho → Res Bool} {fe : Rho → Res D} {ρ : Rho} (h : D → D) : ∀ {ds : List D}, (∀ d ∈ ds, ∃ ρ1, g d ρ = .ok ρ1 ∧ fT (frz ρ1) = .ok true ∧ fe ρ1 = .ok (h d)) → compD g fT fe ρ ds = .ok (ds.map h)
  | [], _ => rfl
  | d :: ds, k => by
    obtain ⟨ρ1, k1, k2, k3⟩ := k d List.mem_cons_self
    simp [compD, k1, k2, k3, compD_map h fun x hx => k x (List.mem_cons_of_mem _ hx)]
theorem compD_filter {g : D → Rho → Res Rho} {fT : Rho → Res Bool} {fe : Rho → Res D} {ρ : Rho} (p : D → Bool) (h : D → D) : ∀ {ds : List D}, (∀ d ∈ ds, ∃ ρ1, g d ρ = .ok ρ1 ∧ fT (frz ρ1) = .ok (p d) ∧ (p d = true → fe ρ1 = .ok (h d))) → compD g fT fe ρ ds = .ok ((ds.filter p).map h)
  | [], _ => rfl
  | d :: ds, k => by
    obtain ⟨ρ1, k1, k2, k3⟩ := k d List.mem_cons_self
    have ih := compD_filter p h (ds := ds) fun x hx => k x (List.mem_cons_of_mem _ hx)
    cases e : p d with
    | true => simp [compD, k1, k2, e, k3 e, ih]
    | false => simp [compD, k1, k2, e, ih]
end L2

namespace L2
open PySem PySem.Spec PyProof.Rows
def hashW (w : World) (k : List DK) : Int := (DK.t k).hash w
mutual
def dkOf : D → Option DK
  | .int n => some (.i n)
  | .str z => some (.s z)
  | .tup ds => (dksOf ds).map .t
  | _ => none
def dksOf : List D → Option (List DK)
  | [] => some []
  | d :: ds => match dkOf d, dksOf ds with
    | some k, some ks => some (k :: ks)
    | _, _ => none
end
mutual
theorem dkOf_toD : ∀ (d : D) (k : DK), dkOf d = some k → k.toD = d
  | .int n, k, e => by simp only [dkOf] at e; cases e; rfl
  | .str n, k, e => by simp only [dkOf] at e; cases e; rfl
  | .tup ds, k, e => by
    simp only [dkOf] at e
    cases q : dksOf ds with
    | none => rw [q] at e; cases e
    | some ks => rw [q] at e; cases e; simp only [DK.toD]; rw [dksOf_toD ds ks q]
  | .non, _, e | .bl _, _, e | .ty _, _, e | .lst _, _, e | .dct _, _, e | .ins _ _, _, e | .exc _ _, _, e | .dn _ _, _, e => by simp only [dkOf] at e; cases e
theorem dksOf_toD : ∀ (ds : List D) (ks : List DK), dksOf ds = some ks → DK.toDs ks = ds
  | [], _, e => by simp only [dksOf] at e; cases e; rfl
  | d :: ds, _, e => by
    simp only [dksOf] at e
    cases q : dkOf d with
    | none => rw [q] at e; cases e
    | some k =>
      cases q2 : dksOf ds with
      | none => rw [q, q2] at e; cases e
      | some ks => rw [q, q2] at e; cases e; simp only [DK.toDs]; rw [dkOf_toD d k q, dksOf_toD ds ks q2]
end
def keyOf : D → Res (List DK)
  | .tup ds => match dksOf ds with
    | some ks => gd (okK ks = true) (.ok ks)
    | none => .bad
  | _ => .bad
theorem keyOf_ok {d : D} {P : List DK → Prop} {E : D → Prop} (h : (keyOf d).all P E) : ∃ ks, (DK.t ks).toD = d ∧ okK ks = true ∧ P ks := by
  cases d with
  | tup ds =>
    simp only [keyOf] at h
    cases q : dksOf ds with
    | none => rw [q] at h; exact h.elim
    | some ks =>
      rw [q] at h
      obtain ⟨h1, h2⟩ := gd_ok h
      exact ⟨ks, by simp only [DK.toD]; rw [dksOf_toD ds ks q], h1, h2⟩
  | _ => exact h.elim
section
variable {X : Cx} {pins : List (Addr × Obj)} {σ : St} {H : Hp} {s : Shared} {F : Hp}
mutual
theorem kat_of (I : Inv X pins σ H s) (fh : Same F H) : ∀ (k : DK) {v : V} {u : Value}, Rp X.K F v k.toD → RelV v u → KAt s.heap k u
  | .i n, _, _, p, r => by simp only [DK.toD] at p; cases p; obtain ⟨t, rfl⟩ := r; exact .i n t
  | .s n, _, _, p, r => by simp only [DK.toD] at p; cases p; obtain ⟨t, rfl⟩ := r; exact .s n t
  | .t ks, _, _, p, r => by
    simp only [DK.toD] at p
    cases p with
    | tup hq hs =>
      cases r
      obtain ⟨its, rv, pl, _⟩ := I.tuple (fh.seqT hq)
      obtain ⟨o, ho, hc, n, hd⟩ := pl
      exact .t ho hc hd (by simpa using kats_of I fh ks hs rv)
theorem kats_of (I : Inv X pins σ H s) (fh : Same F H) : ∀ (ks : List DK) {vs : List V} {us : List Value}, Rps X.K F vs (DK.toDs ks) → Vals vs us → KAts s.heap ks us
  | [], _, _, p, r => by simp only [DK.toDs] at p; cases p; cases r; exact .nil
  | k :: ks, _, _, p, r => by
    simp only [DK.toDs] at p
    cases p with
    | cons p1 p2 =>
      cases r with
      | cons r1 r2 => exact .cons (kat_of I fh k p1 r1) (kats_of I fh ks p2 r2)
end
theorem nk_is (I : Inv X pins σ H s) (fh : Same F H) {k : List DK} {q : Addr} (o : okK k = true) (p : Rp X.K F (.ref q) (DK.t k).toD) : (nestKind X.prog X.w).is s.heap k q := by
  unfold okK at o
  rw [Bool.and_eq_true] at o
  exact ⟨kat_of I fh _ p rfl, of_decide_eq_true o.1, o.2⟩
theorem Rpn.each (I : Inv X pins σ H s) (fh : Same F H) : ∀ {xs : List (List DK × Addr × Value)} {kvs : List (List DK × D)}, Rpn X.K F xs kvs → ∀ x ∈ xs, (nestKind X.prog X.w).is s.heap x.1 x.2.1
  | _, _, .nil, x, hx => by cases hx
  | _, _, .cons o h r h2 hs, x, hx => by
    rcases List.mem_cons.mp hx with rfl | hx
    · exact nk_is I fh o h
    · exact hs.each I fh x hx
theorem nd_of {a : Addr} {xs : List (List DK × Addr × Value)} {kvs : List (List DK × D)} (I : Inv X pins σ H s) (fh : Same F H) (e : H a = some (NDO a (hashW X.w) xs)) (r : Rpn X.K F xs kvs) : s.heap.DictOfH (nestKind X.prog X.w) a xs ∧ xs.length ≤ sizeLine ∧ (a == sysModules) = false := by
  obtain ⟨o, es, ep, h1, h2, h3, h4, h5, h6, h7⟩ := (show ObjOk X.prog X.w H s.heap a (NDO a (hashW X.w) xs) from I.hok a _ e).1
  exact ⟨⟨o, es, ep, h1, h2, h3, h4, r.each I fh, h5⟩, h6, h7⟩
theorem Rpn.at {k : List DK} : ∀ {xs : List (List DK × Addr × Value)} {kvs : List (List DK × D)}, Rpn X.K F xs kvs → ((atKey xs k).isSome = true ↔ k ∈ kvs.map (·.1))
  | _, _, .nil => by simp [atKey]
  | _, _, .cons (k := k') o h r h2 hs => by
    have ih := hs.at (k := k)
    by_cases e : k' = k
    · subst e; simp [atKey]
    · have e' : ¬ k = k' := fun z => e z.symm
      simp only [atKey, List.find?_cons, e, decide_false, List.map_cons, List.mem_cons, e', false_or] at ih ⊢
      exact ih
theorem Rpn.atB {k : List DK} {xs : List (List DK × Addr × Value)} {kvs : List (List DK × D)} (r : Rpn X.K F xs kvs) : (atKey xs k).isSome = decide (k ∈ kvs.map (·.1)) := by
  rw [Bool.eq_iff_iff, decide_eq_true_iff]; exact r.at
noncomputable def inN (w : World) (neg : Bool) (x : D) (hs : List DK → Int) (kvs : List (List DK × D)) : Res D := (keyOf x).bind fun k => @ite _ (hs = hashW w) (_root_.Classical.propDecidable _) (.ok (.bl (if neg = true then !decide (k ∈ kvs.map (·.1)) else decide (k ∈ kvs.map (·.1))))) .bad
noncomputable def dInN (w : World) (neg : Bool) : D → D → Res D
  | x, .dn hs kvs => inN w neg x hs kvs
  | x, y => dInG neg x y
theorem dInN_dn (w : World) (neg : Bool) (x : D) (hs : List DK → Int) (kvs : List (List DK × D)) : dInN w neg x (.dn hs kvs) = inN w neg x hs kvs := by unfold dInN; rfl
theorem o_inN (hu : X.A.units + 200 < cLine) : OpR X (compareOp .In) (rD X.K (dInN X.w false)) := by
  intro pins s σ H x y v u Q I rx ry ⟨F, dx, dy, fh, px, py, q⟩
  cases py with
  | dn hq hr =>
    rw [dInN_dn] at q
    unfold inN at q
    obtain ⟨k, e, ok, q2⟩ := keyOf_ok (Res.all_bind.mp q)
    clear q
    split at q2
    · rename_i hh
      subst hh
      subst e
      have px' := px
      simp only [DK.toD] at px'
      cases px' with
      | tup _ _ =>
        cases rx
        cases ry
        obtain ⟨dd, hz, hd⟩ := nd_of I fh (fh _ _ hq) hr
        refine wpAny_in_heap (knd := nestKind X.prog X.w) (by show X.A.units + 1 + 80 < cLine; omega) (nk_is I fh ok px) hd dd ?_
        rw [hr.atB]
        exact ⟨.bl _, H, I.tok _, rfl, q2 _ F H (Stp.refl fh) (.bl _)⟩
    · exact q2.elim
  | lst hq hs => exact o_in (by omega) pins s σ H x _ v u Q I rx ry ⟨F, dx, _, fh, px, .lst hq hs, q⟩
  | tup hq hs => exact o_in (by omega) pins s σ H x _ v u Q I rx ry ⟨F, dx, _, fh, px, .tup hq hs, q⟩
  | str hz => exact o_in (by omega) pins s σ H x _ v u Q I rx ry ⟨F, dx, _, fh, px, .str hz, q⟩
  | _ => cases dx <;> exact q.elim
end
end L2

namespace L2
open PySem PySem.Spec PyProof.Rows
section
variable {X : Cx} {xq : XQ} {i value : Expr} {fi fv : Rho → Res D} {x : Str} {p pos pos' : Pos}
end
end L2

namespace L2
open PySem PySem.Spec PyProof.Rows
def keyK : D → Res Key
  | .int i => .ok (.inl i)
  | .str z => .ok (.inr z)
  | _ => .bad
theorem keyK_ok {K : PySem.W.Frag} {F : Hp} {v : V} {d : D} {P : Key → Prop} {E : D → Prop} (p : Rp K F v d) (h : (keyK d).all P E) : ∃ k, v = kV k ∧ P k := by
  cases p with
  | int i => exact ⟨.inl i, rfl, h⟩
  | str _ => exact ⟨.inr _, rfl, h⟩
  | _ => exact h.elim
def eqK : D → Key → Bool
  | .int i, .inl j => decide (i = j)
  | .str a, .inr b => decide (a = b)
  | _, _ => false
theorem eqK_kD (k' k : Key) : eqK (kD k') k = decide (k' = k) := by
  cases k' <;> cases k <;> simp [eqK, kD]
def putD (ps : List (D × D)) (k : Key) (d : D) : List (D × D) := if ps.any (fun p => eqK p.1 k) = true then ps.map (fun p => if eqK p.1 k = true then (p.1, d) else p) else ps ++ [(kD k, d)]
def valD (ps : List (D × D)) (k : Key) : Option D := (ps.find? fun p => eqK p.1 k).map (·.2)
section
variable {K : PySem.W.Frag} {F : Hp}
theorem Rpk.length : ∀ {kvs : List (Key × V)} {ps : List (D × D)}, Rpk K F kvs ps → kvs.length = ps.length
  | _, _, .nil => rfl
  | _, _, .cons _ hs => congrArg (· + 1) hs.length
theorem Rpk.any {k : Key} : ∀ {kvs : List (Key × V)} {ps : List (D × D)}, Rpk K F kvs ps → (kvs.any fun kv => decide (kv.1 = k)) = ps.any (fun p => eqK p.1 k)
  | _, _, .nil => rfl
  | _, _, .cons h hs => by simp only [List.any_cons, eqK_kD, hs.any]
theorem Rpk.mapped {k : Key} {d : D} {v : V} (pd : Rp K F v d) : ∀ {kvs : List (Key × V)} {ps : List (D × D)}, Rpk K F kvs ps → Rpk K F (kvs.map (fun kv => if kv.1 = k then (kv.1, v) else kv)) (ps.map (fun p => if eqK p.1 k = true then (p.1, d) else p))
  | _, _, .nil => .nil
  | _, _, .cons (k := k') h hs => by
    by_cases e : k' = k
    · simp only [List.map_cons, eqK_kD, e, decide_true, if_true]; exact .cons pd (hs.mapped pd)
    · simp only [List.map_cons, eqK_kD, e, decide_false, if_false]; exact .cons h (hs.mapped pd)
theorem Rpk.snoc {k : Key} {d : D} {v : V} (pd : Rp K F v d) : ∀ {kvs : List (Key × V)} {ps : List (D × D)}, Rpk K F kvs ps → Rpk K F (kvs ++ [(k, v)]) (ps ++ [(kD k, d)])
  | _, _, .nil => .cons pd .nil
  | _, _, .cons h hs => .cons h (hs.snoc pd)
theorem Rpk.put {k : Key} {d : D} {v : V} {kvs : List (Key × V)} {ps : List (D × D)} (pd : Rp K F v d) (r : Rpk K F kvs ps) : Rpk K F (putK kvs k v) (putD ps k d) := by
  unfold putK putD
  rw [r.any (k := k)]
  split
  · exact r.mapped pd
  · exact r.snoc pd
theorem Rpk.val {k : Key} : ∀ {kvs : List (Key × V)} {ps : List (D × D)}, Rpk K F kvs ps → (match valD ps k with | some d => ∃ v, valV kvs k = some v ∧ Rp K F v d | none => valV kvs k = none)
  | _, _, .nil => rfl
  | _, _, .cons (k := k') h hs => by
    have ih := hs.val (k := k)
    by_cases e : k' = k
    · subst e; simp only [valD, valV, List.find?_cons, eqK_kD, decide_true, Option.map_some]; exact ⟨_, rfl, h⟩
    · simp only [valD, valV, List.find?_cons, eqK_kD, e, decide_false] at ih ⊢; exact ih
end
def getD' (ρ : Rho) (i : Nat) : Res (List (D × D)) := match ρ[i]? with
  | some (some (.own (.d kvs))) => .ok kvs
  | _ => .bad
theorem getD'_ok {ρ : Rho} {i : Nat} {P : List (D × D) → Prop} {E : D → Prop} (h : (getD' ρ i).all P E) : ∃ kvs, ρ[i]? = some (some (.own (.d kvs))) ∧ P kvs := by
  unfold getD' at h
  split at h
  · rename_i kvs e; exact ⟨kvs, e, h⟩
  · exact h.elim
section
variable {X : Cx} {xq : XQ} {i value : Expr} {fi fv : Rho → Res D} {x : Str} {p pos pos' : Pos}
def fPutD (j : Nat) (fi fv : Rho → Res D) (ρ : Rho) : Out := (fv ρ).go ρ fun d => (getD' ρ j).go ρ fun ps => (fi ρ).go ρ fun kd => (keyK kd).go ρ fun k => if ps.length < sizeLine then .nx (ρ.set j (some (.own (.d (putD ps k d))))) else .bad
theorem ds_putD (j : Nat) (hu : X.A.units + 200 < cLine) (hi : DE X xq i fi) (hv : DE X xq value fv) (hN : X.N[j]? = some x := by rfl) (hvs : Vis X.env.scope x := by first | exact Or.inl rfl | exact Or.inr (Or.inl rfl) | exact Or.inr (Or.inr rfl)) (hd : (x == ("__debug__" : Str)) = false := by decide) (hcd : (x == ("__classdict__" : Str)) = false := by decide)
    (hs : swapsWith value (some (.Subscript (.Name x p) i pos')) pos.line X.env = pure false := by rfl) : DS X xq (.Assign [.Subscript (.Name x p) i pos'] value pos) (fPutD j fi fv) :=
  DS.of (ps_dput (by omega) (pe_var hN hvs hd hcd) hi.out hv.out hs) fun B F ρ σ H T R q => by
    have q := q.out
    unfold fPutD at q
    refine ⟨B, F, ρ, R, Res.all_mono (go_all q) (fun d q1 v F1 H1 st pv => ?_) fun _ z => errOf z⟩
    obtain ⟨ps, eo, q2⟩ := getD'_ok (go_all q1)
    have R1 := R.step st
    obtain ⟨a, h, h1, h2, h3, h4, h5⟩ := R1.own j _ eo
    refine ⟨.ref a, h1, B, F1, ρ, R1, Res.all_mono (go_all q2) (fun kd q3 y F3 H3 st3 py => ?_) fun _ z => errOf z⟩
    have R3 := R1.step st3
    obtain ⟨k, ek, q4⟩ := keyK_ok py (go_all q3)
    subst ek
    obtain ⟨a', h', g1, g2, g3, g4, g5⟩ := R3.own j _ eo
    rw [h1] at g1; cases g1
    cases g5 with
    | d hr =>
      by_cases hz : ps.length < sizeLine
      · rw [if_pos hz] at q4
        exact ⟨a, _, rfl, DPut.k g4 (by rw [hr.length]; exact hz), q4 σ F3 _ (R3.write (e := eo) h1 (.d (hr.put (pv.same st3.ff))))⟩
      · rw [if_neg hz] at q4; exact q4.elim
noncomputable def dInA (w : World) (neg : Bool) : D → D → Res D
  | x, .dct ps => (keyK x).bind fun k => .ok (.bl (if neg = true then !(valD ps k).isSome else (valD ps k).isSome))
  | x, y => dInN w neg x y
theorem dInA_dct (w : World) (neg : Bool) (x : D) (ps : List (D × D)) : dInA w neg x (.dct ps) = (keyK x).bind fun k => .ok (.bl (if neg = true then !(valD ps k).isSome else (valD ps k).isSome)) := by unfold dInA; rfl
theorem o_inA (hu : X.A.units + 200 < cLine) : OpR X (compareOp .In) (rD X.K (dInA X.w false)) := by
  intro pins s σ H x y v u Q I rx ry ⟨F, dx, dy, fh, px, py, q⟩
  cases py with
  | @dK a kvs ps hq hr =>
    rw [dInA_dct] at q
    obtain ⟨k, ek, q2⟩ := keyK_ok px (Res.all_bind.mp q)
    subst ek
    cases ry
    refine d_in (by omega) I (DGet.k (fh _ _ hq)) rx fun s' I' => ⟨.bl _, H, I', rfl, ?_⟩
    have := hr.val (k := k)
    cases e : valD ps k with
    | none => rw [e] at this q2; rw [this]; exact q2 _ F H (Stp.refl fh) (.bl _)
    | some d => rw [e] at this q2; obtain ⟨z, hz, _⟩ := this; rw [hz]; exact q2 _ F H (Stp.refl fh) (.bl _)
  | lst hq hs => exact o_inN hu pins s σ H x _ v u Q I rx ry ⟨F, dx, _, fh, px, .lst hq hs, q⟩
  | tup hq hs => exact o_inN hu pins s σ H x _ v u Q I rx ry ⟨F, dx, _, fh, px, .tup hq hs, q⟩
  | str hz => exact o_inN hu pins s σ H x _ v u Q I rx ry ⟨F, dx, _, fh, px, .str hz, q⟩
  | dn hq hs => exact o_inN hu pins s σ H x _ v u Q I rx ry ⟨F, dx, _, fh, px, .dn hq hs, q⟩
  | _ => cases dx <;> exact q.elim
end
end L2

namespace L2
open PySem PySem.Spec PyProof.Rows
section
variable {X : Cx} {xq : XQ} {o e value : Expr} {es : List Expr} {fo fv : Rho → Res D} {fs : Rho → Res (List D)} {f x m : Str} {p pos pos' apos : Pos} {C0 : Addr}
end
end L2

namespace L2
open PySem PySem.Spec PyProof.Rows
section
variable {P : Program} {w : World} {K : PySem.W.Frag} {mg : Str → Option Value} {base : Heap}
end
section
variable {X : Cx} {xq : XQ} {e : Expr} {es : List Expr} {fs : Rho → Res (List D)} {x : Str} {p pos : Pos} {C f : Addr}
end
end L2

namespace L2
open PySem PySem.Spec PyProof.Rows
section
variable {X : Cx} {pins : List (Addr × Obj)} {σ : St} {H : Hp} {s : Shared} {F : Hp}
theorem kitx_D {v : V} {u : Value} {d : D} {t : String} (I : Inv X pins σ H s) (rx : RelV v u) (fh : Same F H) (pv : Rp X.K F v d) (ht : tyN d = some t) : ∃ Hh : Heap → Prop, PySem.W.KitX X.K u (.type t) Hh ∧ Hh s.heap ∧ u ≠ .builtin "__main__.__loader__#opaque" := by
  cases pv with
  | non => cases ht; cases (show u = Value.none from rx); exact ⟨_, PySem.W.kitx_none, True.intro, fun z => nomatch z⟩
  | bl y => cases ht; cases (show u = Value.bool y from rx); exact ⟨_, PySem.W.kitx_bool, True.intro, fun z => nomatch z⟩
  | int i => cases ht; obtain ⟨t, q⟩ := (show ∃ t, u = Value.int i t from rx); cases q; exact ⟨_, PySem.W.kitx_int, True.intro, fun z => nomatch z⟩
  | @str z hz => cases ht; obtain ⟨t, q⟩ := (show ∃ t, u = Value.str z t from rx); cases q; exact ⟨_, PySem.W.kitx_str, True.intro, fun z => nomatch z⟩
  | ty T => cases ht
  | @lst a xs ds hq hs =>
    cases ht
    cases (show u = Value.ref a from rx)
    obtain ⟨z, its, n, r, hl, e⟩ := I.lstR (hq.same fh)
    exact ⟨_, PySem.W.kitx_list, ⟨_, e, rfl⟩, fun z => nomatch z⟩
  | @tup a xs ds hq hs =>
    cases ht
    cases (show u = Value.ref a from rx)
    obtain ⟨its, r, p, hz⟩ := I.tuple (fh.seqT hq)
    obtain ⟨ob, h1, h2, _⟩ := p
    exact ⟨_, PySem.W.kitx_tuple, ⟨ob, h1, h2⟩, fun z => nomatch z⟩
  | @dK a kvs ps hq hs =>
    cases ht
    cases (show u = Value.ref a from rx)
    obtain ⟨_, _, vs, _, p⟩ := (show ObjOk X.prog X.w H s.heap a (.dK kvs) from I.hok a _ (fh _ _ hq))
    obtain ⟨ob, es, ep, h1, h2, _⟩ := p
    exact ⟨_, PySem.W.kitx_dict, ⟨ob, h1, h2.1⟩, fun z => nomatch z⟩
  | ins hq hs => cases ht
  | exc hq hr hs => cases ht
  | dn hq hs => cases ht
def isTs (t : String) : List String → Option Bool
  | [] => some false
  | T :: r => match isT t T with
    | some true => some true
    | some false => isTs t r
    | none => none
theorem isTs_kit (K : PySem.W.Frag) {d : D} {t : String} (ht : tyN d = some t) : ∀ {Ts : List String} {b : Bool}, isTs t Ts = some b → PySem.W.kitAny K (.type t) (Ts.map Value.type) = some b
  | [], _, e => by cases e; rfl
  | T :: r, b, e => by
    simp only [isTs] at e
    cases q : isT t T with
    | none => rw [q] at e; cases e
    | some c =>
      rw [q] at e
      simp only [List.map_cons, PySem.W.kitAny, isT_kit K ht q]
      cases c with
      | true => exact e
      | false => exact isTs_kit K ht e
def tysOf : List D → Option (List String)
  | [] => some []
  | .ty T :: r => (tysOf r).map (T :: ·)
  | _ => none
theorem tysOf_vals {K : PySem.W.Frag} : ∀ {ts : List D} {Ts : List String} {xs : List V} {us : List Value}, tysOf ts = some Ts → Rps K F xs ts → Vals xs us → us = Ts.map Value.type
  | [], _, _, _, e, p, r => by cases e; cases p; cases r; rfl
  | d :: ts, Ts, _, _, e, p, r => by
    cases d <;> simp only [tysOf, reduceCtorEq] at e
    cases q : tysOf ts with
    | none => rw [q] at e; cases e
    | some Ts' =>
      rw [q] at e
      cases e
      cases p with
      | cons p1 p2 =>
        cases p1
        cases r with
        | cons r1 r2 => cases r1; rw [tysOf_vals q p2 r2]; rfl
def isAny (d : D) (ts : List D) : Res D := match tyN d with
  | some t => match tysOf ts with
    | some Ts => match isTs t Ts with
      | some b => .ok (.bl b)
      | none => .bad
    | none => .bad
  | none => .bad
def gIsA : List D → Res D
  | [d, .tup ts] => isAny d ts
  | ds => gIs ds
theorem c_isA : CallR X (.builtin "isinstance") (rDs X.K gIsA) := by
  intro pins s σ H xs us Q I r ⟨F, ds, fh, ps, q⟩
  unfold gIsA at q
  split at q
  · rename_i d ts
    obtain ⟨v, w, rfl, pv, pw⟩ := rps2 ps
    unfold isAny at q
    cases ht : tyN d with
    | none => rw [ht] at q; exact q.elim
    | some t =>
      rw [ht] at q
      cases hT : tysOf ts with
      | none => simp only [hT] at q; exact q.elim
      | some Ts =>
        simp only [hT] at q
        cases hb : isTs t Ts with
        | none => simp only [hb] at q; exact q.elim
        | some bb =>
          simp only [hb] at q
          cases pw with
          | @tup a zs _ hq hs =>
            obtain ⟨u, u', rfl, ru, ru'⟩ := vals2 r
            cases ru'
            obtain ⟨its, rv, p, hz⟩ := I.tuple (fh.seqT hq)
            obtain ⟨⟨cls, dd, data, sl⟩, ho, hc, n, hd⟩ := p
            dsimp only at hc hd
            subst hc hd
            obtain ⟨Hh, Z, hh, ne⟩ := kitx_D I ru fh pv ht
            have ei := tysOf_vals hT hs rv
            exact PySem.W.kia_tup Z I.kIn hh ho (by rw [ei]; exact isTs_kit X.K ht hb) ne fun tk => ⟨.bl bb, H, I.tok _, rfl, q _ F H (Stp.refl fh) (.bl bb)⟩
  · exact c_isinst pins s σ H xs us Q I r ⟨F, ds, fh, ps, q⟩
end
end L2

namespace L2
open PySem PySem.Spec PyProof.Rows
section
variable {X : Cx} {xq : XQ} {a b c : Expr} {fa fb fc : Rho → Res D} {pos : Pos}
theorem chain_read {K : PySem.W.Frag} {g g' : D → D → Res D} {σ : St} {H : Hp} {Q : VK} (h : liftE K xq (fun ρ => (fa ρ).bind fun x => (fb ρ).bind fun y => fChain g g' x y (fc ρ)) σ H Q) : tChain (rD K g) (rD K g') (liftE K xq fa) (liftE K xq fb) (liftE K xq fc) σ H Q := by
  obtain ⟨B, F, ρ, R, q⟩ := h
  exact seqE R q fun d v F1 H1 s1 R1 p1 q1 => seqE R1 q1 fun d2 v2 F2 H2 s2 R2 p2 q2 => by
    refine ⟨F2, d, d2, R2.fh, p1.same s2.ff, p2, ?_⟩
    unfold fChain at q2
    have q3 := Res.all_bind.mp q2
    generalize g d d2 = r at q3
    cases r with
    | err x => exact q3
    | bad => exact q3
    | ok w =>
      obtain ⟨k, rfl, q4⟩ := asB_ok (Res.all_bind.mp (show ((asB w).bind _).all _ _ from q3))
      intro v3 F3 H3 s3 p3
      refine ⟨k, p3.blI, ?_⟩
      have s03 := (s1.trans s2).trans s3
      cases k with
      | false => exact q4 (.bl false) F3 H3 s03 (.bl false)
      | true => exact seqE (R2.step s3) q4 fun d4 v4 F4 H4 s4 R4 p4 q5 => ⟨F4, d2, d4, R4.fh, (p2.same s3.ff).same s4.ff, p4, doneN (s03.trans s4) q5⟩
theorem dt_chain {op op' : CmpOp} {g g' : D → D → Res D} (ho : OpR X (compareOp op) (rD X.K g)) (ho' : OpR X (compareOp op') (rD X.K g')) (ha : DE X xq a fa) (hb : DE X xq b fb) (hc : DE X xq c fc) (hm : lastMarks [op, op'] [b, c] = false := by with_unfolding_all rfl) :
    DT X xq (.Compare a [op, op'] [b, c] pos) (fun ρ => ((fa ρ).bind fun x => (fb ρ).bind fun y => fChain g g' x y (fc ρ)).bind asB) :=
  DT.of (pt_chain ho ho' ha.out hb.out hc.out hm) fun B F ρ σ H Q R q => chain_read (tfrz (P := fun _ => True) R q)
end
end L2

namespace L2
open PySem PySem.Spec PyProof.Rows
section
variable {P : Program} {w : World} {A : Around} {E : Value → Shared → Prop} {s : Shared}
end
end L2

namespace L2
open PySem PySem.Spec PyProof.Rows
section
variable {P : Program} {w : World} {A : Around} {E : Value → Shared → Prop} {s : Shared}
end
end L2

namespace L2
open PySem PySem.Spec PyProof.Rows
section
variable {P : Program} {w : World} {A : Around} {E : Value → Shared → Prop} {s : Shared}
end
end L2

namespace L2
open PySem PySem.Spec PyProof.Rows
section
variable {P : Program} {w : World} {A : Around} {E : Value → Shared → Prop} {s : Shared} {I a : Addr} {first : Value} {i ep : Nat} {es : Array (Int × Value)} {t : SetTable}
end
end L2

namespace L2
open PySem PySem.Spec PyProof.Rows
section
variable {P : Program} {w : World} {A : Around} {E : Value → Shared → Prop} {s : Shared}
variable {a I : Addr} {ep : Nat} {es : Array (Int × Value)} {t : SetTable}
end
end L2

namespace L2
open PySem PySem.Spec PyProof.Rows
section
variable {P : Program} {w : World} {A : Around} {E : Value → Shared → Prop} {s : Shared}
end
end L2

namespace L2
open PySem PySem.Spec PyProof.Rows PySem.W PySem.Calls
section
variable {P : Program} {w : World} {A : Around} {E : Value → Shared → Prop} {s : Shared}
end
end L2

namespace L2
open PySem PySem.Spec PyProof.Rows PySem.W PySem.Calls
section
variable {P : Program} {w : World} {A : Around} {E : Value → Shared → Prop} {s : Shared}
end
end L2

namespace L2
open PySem PySem.Spec PyProof.Rows PySem.W PySem.Calls
section
variable {X : Cx} {pins : List (Addr × Obj)} {σ : St} {H : Hp} {s : Shared}
end
def strsOf : List D → Option (List Str)
  | [] => some []
  | .str z :: ds => (strsOf ds).map (z :: ·)
  | _ => none
theorem strsOf_rp {K : PySem.W.Frag} {F : Hp} : ∀ {xs : List V} {ds : List D} {ss : List Str}, Rps K F xs ds → strsOf ds = some ss → xs = ss.map V.str ∧ ∀ z ∈ ss, z.length ≤ sizeLine
  | _, _, _, .nil, e => by cases e; exact ⟨rfl, fun _ h => (List.not_mem_nil h).elim⟩
  | _, d :: ds, ss, .cons h hs, e => by
    cases h with
    | str hz =>
      unfold strsOf at e
      cases q : strsOf ds with
      | none => rw [q] at e; cases e
      | some ts =>
        rw [q] at e
        cases e
        obtain ⟨e1, e2⟩ := strsOf_rp hs q
        rw [e1]
        exact ⟨rfl, fun z hz' => by
          rcases List.mem_cons.mp hz' with rfl | h
          · exact hz
          · exact e2 z h⟩
    | _ => cases e
theorem rps_strs {K : PySem.W.Frag} {F : Hp} : ∀ {ss : List Str}, (∀ z ∈ ss, z.length ≤ sizeLine) → Rps K F (ss.map V.str) (ss.map D.str)
  | [], _ => .nil
  | z :: ss, h => .cons (.str (h z List.mem_cons_self)) (rps_strs fun y hy => h y (List.mem_cons_of_mem _ hy))
section
variable {X : Cx} {xq : XQ} {e : Expr} {fs : Rho → Res (List D)} {p p2 pos pos2 : Pos}
end
end L2

namespace L2
open PySem PySem.Spec PyProof.Rows
mutual
def selfD : D → Bool
  | .non | .bl _ | .int _ | .str _ => true
  | .lst ds | .tup ds => selfDs ds
  | .dct ps => ps.isEmpty
  | _ => false
def selfDs : List D → Bool
  | [] => true
  | d :: ds => selfD d && selfDs ds
end
section
variable {X : Cx} {pins : List (Addr × Obj)} {σ : St} {H F : Hp} {s : Shared}
end
end L2

namespace L2
open PySem PySem.Spec PyProof.Rows
theorem noFill_tuple_mul : fillsNumberSlot (.type "tuple") "mul" = pure false := PySem.fillsNumberSlot_seq (id := "tuple.__mul__") (r := some (.builtin "tuple.__rmul__")) F.slot_tuple_mul.lookup (by decide +kernel) F.slot_tuple_rmul.lookup (by decide +kernel)
theorem repeat_tuple : seqRepeat? (.type "tuple") = pure (some (.builtin "tuple.__mul__")) := by
  unfold seqRepeat?
  rw [PySem.seqSlot_of (T := "tuple") (name := "__mul__") (id := "tuple.__mul__") F.slot_tuple_mul.lookup (by decide +kernel), PySem.seqSlot_of (T := "tuple") (name := "__rmul__") (id := "tuple.__rmul__") F.slot_tuple_rmul.lookup (by decide +kernel)]
  rfl
section
variable {P : Program} {w : World} {A : Around} {E : Value → Shared → Prop} {s : Shared} {X : Cx}
theorem rmul_tuple {k : Int} {t : Tok} {l : Addr} {o : Obj} {items : Array Value} {n : Nat} {Q : Value → Shared → Prop} (ho : s.heap.get? l = some o) (hc : o.cls = .type "tuple") (hd : o.data = .seq items n) (h : Q .notImplemented s) :
    wpAny (model P w) A (call (.builtin "int.__rmul__") [.int k t, .ref l]) Q E s := by
  refine wpAny_call_entry F.slot_int_rmul (typeIs_int s k t) F.entry_int_rmul ?_ (F.args_int_rmul_2 _ _)
  obtain ⟨hp, g, d, tk, os⟩ := s
  obtain ⟨oc, od, odt, osl⟩ := o
  simp only at hc hd
  subst hc
  subst hd
  wp_walk
  exact ⟨_, rfl, h⟩
theorem mul_tuple {k : Int} {t : Tok} {l : Addr} {o : Obj} {items : Array Value} {n : Nat} {Q : Value → Shared → Prop} (ho : s.heap.get? l = some o) (hc : o.cls = .type "tuple") (hd : o.data = .seq items n) (hk : 2 ≤ k) (hk2 : k ≤ 1000) (hi : items.isEmpty = false) (hz : items.size * k.toNat ≤ sizeLine)
    (h : Q (.ref s.heap.objs.size) { s with heap := s.heap.push { cls := .type "tuple", data := .seq ((List.replicate k.toNat items).foldl (fun x1 x2 => x1 ++ x2) #[]) } }) : wpAny (model P w) A (call (.builtin "tuple.__mul__") [.ref l, .int k t]) Q E s := by
  refine wpAny_call_entry F.slot_tuple_mul ⟨o, ho, hc⟩ F.entry_tuple_mul ?_ (F.args_tuple_mul_2 _ _)
  obtain ⟨hp, g, d, tk, os⟩ := s
  obtain ⟨oc, od, odt, osl⟩ := o
  simp only at hc hd
  subst hc
  subst hd
  unfold Builtin.«tuple.__mul__»
  wp_walk
  have z1 : (k.toNat : Int) = k := Int.toNat_of_nonneg (by omega)
  have z2 : ((items.size : Nat) : Int) * k ≤ sizeLine := by
    rw [← z1]
    exact_mod_cast hz
  have z3 : (sizeLine : Int) = 16777216 := by rw [sizeLine_eq]; rfl
  rw [if_neg (by rw [decide_eq_false (by omega), decide_eq_false (by omega)]; decide)]
  dsimp only
  refine wpAny_bind ?_
  unfold Builtin.Tuple.tupleItemsOf
  refine wpAny_bind (wpAny_seqItems ho rfl (wpAny_pure ?_))
  rw [if_neg (by rw [hi, show (k == 1) = false from beq_eq_false_iff_ne.mpr (by omega)]; decide), if_neg (by rw [hi, decide_eq_false (by omega)]; decide), if_neg (by rw [z3] at z2; omega), if_neg (by unfold Builtin.Tuple.tupleTooMany; rw [decide_eq_true_eq]; omega)]
  have sz : ((List.replicate k.toNat items).foldl (fun x1 x2 => x1 ++ x2) #[]).size ≤ sizeLine := by
    have g : ∀ (n : Nat) (a : Array Value), ((List.replicate n items).foldl (fun x1 x2 => x1 ++ x2) a).size = a.size + n * items.size := by
      intro n
      induction n with
      | zero => simp
      | succ n ih =>
        intro a
        rw [List.replicate_succ, List.foldl_cons, ih, Array.size_append, Nat.succ_mul]
        omega
    rw [g, Nat.mul_comm]
    simpa using hz
  unfold Builtin.Tuple.tupleExact
  exact wpAny_bind (wpAny_newObj_type (wpAny_pure ⟨_, rfl, h⟩) sz)
def rRepT (K : PySem.W.Frag) : R2 := fun x y H Q => ∃ l k xs, x = .ref l ∧ y = .int k ∧ SqT K H l xs ∧ 2 ≤ k ∧ k ≤ 1000 ∧ xs ≠ [] ∧ xs.length * k.toNat ≤ sizeLine ∧ ∀ p, H p = none → Q (.ref p) (upd H p (.tup (List.replicate k.toNat xs).flatten))
theorem op_repT : OpR X (binaryOp .Mult) (rRepT X.K) := by
  intro pins s σ H x y v u Q I rx ry h
  obtain ⟨l, k, xs, rfl, rfl, hq, h1, h2, hn, hz, q⟩ := h
  cases rx
  obtain ⟨t, rfl⟩ := ry
  obtain ⟨its, r, hT, _⟩ := I.tuple hq
  obtain ⟨o, ho, hc, n, hd⟩ := hT
  have hl := r.length
  have hlen : its.toArray.size * k.toNat ≤ sizeLine := by rw [List.size_toArray, ← hl]; exact hz
  have hne : its.toArray.isEmpty = false := by
    cases its with
    | nil => cases xs with | nil => exact absurd rfl hn | cons _ _ => cases hl
    | cons a b => rfl
  have hnew : List.foldl (fun x1 x2 => x1 ++ x2) #[] (List.replicate k.toNat its.toArray) = (List.replicate k.toNat its).flatten.toArray := by
    have := foldl_rep its k.toNat []
    rwa [List.nil_append] at this
  refine wpAny_binaryOp_repeat_ref (T := "tuple") (U := "int") (by decide) ⟨o, ho, hc⟩ (fun s' => typeIs_int s' k t) noFill_tuple_mul F.fills_int_mul F.slot_int_rmul repeat_tuple F.slot_int_index.lookup
    (rmul_tuple ho hc hd ⟨rfl, ⟨o, ho, hc⟩, mul_tuple ho hc hd h1 h2 hne hlen ?_⟩)
  rw [hnew]
  exact ⟨.ref _, _, I.laid (a := s.heap.objs.size) (o := .tup (List.replicate k.toNat xs).flatten) (t' := s.toks) (fun _ _ e => Heap.get?_push_of_some _ e) (Nat.le_refl _) ⟨by rw [len_rep, Nat.mul_comm]; exact hz, _, r.rep k.toNat, _, Heap.get?_push_size _ rfl, rfl, _, rfl⟩, rfl, q _ (I.hok.fresh (Nat.le_refl _))⟩
def rRepR : R2 := fun x y H Q => ∃ l k xs, x = .ref l ∧ y = .int k ∧ Rd H l (.lst xs) ∧ -(2 ^ 63) ≤ k ∧ k < 2 ^ 63 ∧ xs.length * k.toNat ≤ sizeLine ∧
  ∀ p, H p = none → Q (.ref p) (upd H p (.lst (List.replicate k.toNat xs).flatten))
theorem op_repR : OpR X (binaryOp .Mult) rRepR := by
  intro pins s σ H x y v u Q I rx ry h
  obtain ⟨l, k, xs, rfl, rfl, hH, h1, h2, hz, q⟩ := h
  cases rx
  obtain ⟨t, rfl⟩ := ry
  obtain ⟨z, its, n, r, hl, e⟩ := I.lstR hH
  have hlen : its.toArray.size * k.toNat ≤ sizeLine := by rw [List.size_toArray, ← hl]; exact hz
  have hcap : ¬ its.toArray.size * k.toNat > (2 ^ 63 - 1) / 8 := by
    have : (sizeLine : Nat) ≤ (2 ^ 63 - 1) / 8 := by decide
    omega
  have hfit : ¬ (!Builtin.List.listFitsIndex k) = true := by
    rw [fitsIndex_both h1 h2]
    exact Bool.false_ne_true
  have hlong : ¬ Builtin.List.listTooLong (its.toArray.size * k.toNat) = true := by
    rw [notLongL hlen]
    exact Bool.false_ne_true
  have hnew : List.foldl (fun x1 x2 => x1 ++ x2) #[] (List.replicate (if its.toArray.isEmpty = true then 0 else k.toNat) its.toArray) = (List.replicate k.toNat its).flatten.toArray := by
    have f0 : ∀ m : Nat, List.foldl (fun x1 x2 => x1 ++ x2) #[] (List.replicate m its.toArray) = (List.replicate m its).flatten.toArray := fun m => by
      have := foldl_rep its m []
      rw [List.nil_append] at this
      exact this
    rw [f0]
    cases its with
    | nil => simp
    | cons a r' => rw [if_neg (by simp)]
  refine wpAny_binaryOp_repeat_ref (T := "list") (U := "int") (by decide) ⟨_, e, rfl⟩ (fun s' => typeIs_int s' k t) noFill_list_mul F.fills_int_mul F.slot_int_rmul repeat_list F.slot_int_index.lookup
    (call_meets F.slot_int_rmul (typeIs_int s k t) F.entry_int_rmul (F.args_int_rmul_2 _ _) (int___rmul___int_list k t l its.toArray n)
      ⟨e, rfl, ⟨_, e, rfl⟩, call_meets F.slot_list_mul ⟨_, e, rfl⟩ F.entry_list_mul (F.args_list_mul_2 _ _) (AutoListH.list___mul___list_int_3 l its.toArray n k t hfit hcap hlong) ⟨e, ?_⟩⟩)
  rw [hnew]
  exact ⟨.ref _, _, I.lnew (t' := s.toks) (r.rep k.toNat) (by rw [len_rep, Nat.mul_comm]; exact hz), rfl, q _ I.fresh⟩
def dMulX : D → D → Res D
  | .int i, .int j => dMul (.int i) (.int j)
  | .lst ds, .int k => gd (-(2 ^ 63) ≤ k ∧ k < 2 ^ 63 ∧ ds.length * k.toNat ≤ sizeLine) (.ok (.lst (List.replicate k.toNat ds).flatten))
  | .tup ds, .int k => gd (2 ≤ k ∧ k ≤ 1000 ∧ ds.isEmpty = false ∧ ds.length * k.toNat ≤ sizeLine) (.ok (.tup (List.replicate k.toNat ds).flatten))
  | _, _ => .bad
theorem o_mulX : OpR X (binaryOp .Mult) (rD X.K dMulX) := by
  intro pins s σ H x y v u Q I rx ry ⟨F, dx, dy, fh, px, py, q⟩
  unfold dMulX at q
  split at q
  · exact o_mul pins s σ H x y v u Q I rx ry ⟨F, _, _, fh, px, py, q⟩
  · obtain ⟨⟨h1, h2, h3⟩, q⟩ := gd_ok q
    cases py
    cases px with
    | lst hq hs => exact op_repR pins s σ H _ _ v u Q I rx ry ⟨_, _, _, rfl, rfl, hq.same fh, h1, h2, by rw [hs.length]; exact h3, fun p n => q _ _ _ (Stp.new fh n) (.lst (.inl upd_same) ((hs.rep _).same (Stp.new fh n).ff))⟩
  · obtain ⟨⟨h1, h2, h3, h4⟩, q⟩ := gd_ok q
    cases py
    cases px with
    | tup hq hs => exact op_repT pins s σ H _ _ v u Q I rx ry ⟨_, _, _, rfl, rfl, fh.seqT hq, h1, h2, (fun e => by subst e; cases hs; cases h3), by rw [hs.length]; exact h4, fun p n => q _ _ _ (Stp.new fh n) (.tup (.inl (.inl upd_same)) ((hs.rep _).same (Stp.new fh n).ff))⟩
  · exact q.elim
end
end L2

namespace L2
open PySem PySem.Spec PyProof.Rows
section
variable {P : Program} {w : World} {A : Around} {E : Value → Shared → Prop}
end
section
variable {X : Cx} {xq : XQ} {e : Expr} {es : List Expr} {fe : Rho → Res D} {pos : Pos}
end
end L2

namespace L2
open PySem PySem.Spec PyProof.Rows
section
variable {K : PySem.W.Frag} {F : Hp} {T : Addr → Prop}
end
section
variable {X : Cx} {xq : XQ} {e : Expr} {fe : Rho → Res D}
end
end L2

namespace L2
open PySem PySem.Spec PyProof.Rows
section
variable {M : Model} {A : Around} {E : Value → Shared → Prop} {s : Shared}
end
section
variable {X : Cx} {pins : List (Addr × Obj)} {σ : St} {H : Hp} {s : Shared} {k0 : Str} {scope : Scope} {C c0 : Addr} {fp : List Addr}
end
section
variable {X : Cx} {tg iter elt : Expr} {ifs : List Expr} {k0 : Str} {scope : Scope} {wi : TI} {g : TG} {ti : TT} {te : TE} {pos : Pos}
end
end L2

namespace L2
open PySem PySem.Spec PyProof.Rows
def runT (n m : Nat) (t : Rho → Out) (ds : List D) : Res D := if ds.length = m then noE (outR (t (startD n ds))) else .bad
def runX (n m : Nat) (t : Rho → Out) (ds : List D) : Res D := if ds.length = m then outR (t (startD n ds)) else .bad
section
variable {P : Program} {w : World} {K : PySem.W.Frag} {mg : Str → Option Value} {base : Heap}
theorem Fun.okT {x qual : Str} {st : Stmt} {f : Addr} {fd : FuncData} {N ps : List Str} {k : Nat} {t : Rho → Out} (F : Fun K x qual st f fd) (S : FnScope N ps (defScope st))
    (hbody : ∀ (cdv : Value) (A : Around) (outer : List Env) (s : Shared) (H : Hp) (E : XK), Room k (A.deeper (envOfC qual (defScope st) s.heap.objs.size f cdv)) → DB (cxOf CX0 P w K mg base N qual (defScope st) f cdv A outer s H E).nox xqF (defBody st) t) :
    FnOk P w K mg base CX0 (k + 1) f fd ps (spF K (runT N.length ps.length t)) := by
  refine F.okD S (fun ds d h => ?_) fun cdv A outer s H E hr => ⟨t, hbody cdv A outer s H E hr, fun ds d h => ?_⟩
  · unfold runT at h
    split at h
    · assumption
    · cases h
  · unfold runT at h
    split at h
    · cases q : outR (t (startD N.length ds)) with
      | ok d' => rw [q] at h; exact h
      | err x => rw [q] at h; cases h
      | bad => rw [q] at h; cases h
    · cases h
theorem Fun.okTX {x qual : Str} {st : Stmt} {f : Addr} {fd : FuncData} {N ps : List Str} {k : Nat} {t : Rho → Out} (F : Fun K x qual st f fd) (S : FnScope N ps (defScope st))
    (hbody : ∀ (cdv : Value) (A : Around) (outer : List Env) (s : Shared) (H : Hp) (E : XK), Room k (A.deeper (envOfC qual (defScope st) s.heap.objs.size f cdv)) → XqOk (cxR P w K mg base N qual (defScope st) f cdv A outer s H E) (xq0 E) →
      DB (cxR P w K mg base N qual (defScope st) f cdv A outer s H E) (xq0 E) (defBody st) t) : FnOk P w K mg base (CXe P w) (k + 1) f fd ps (spX K (runX N.length ps.length t)) := by
  refine F.okX S (fun ds h => ?_) fun cdv A outer s H E hr hq => ⟨t, hbody cdv A outer s H E hr hq, fun ds h => ?_⟩
  · unfold runX at h
    split at h
    · assumption
    · exact absurd rfl h
  · unfold runX at h ⊢
    split at h
    · rename_i q; rw [if_pos q]
    · exact absurd rfl h
end
section
variable {X : Cx} {w : World} {K : PySem.W.Frag}
theorem o_inW (hu : X.A.units + 200 < cLine) (ew : X.w = w := by rfl) : OpR X (compareOp .In) (rD X.K (dInA w false)) := by subst ew; exact o_inA hu
end
section
variable {X : Cx} {xq : XQ} {i value : Expr} {fi fv : Rho → Res D} {x : Str} {p pos pos' : Pos} {w : World}
end
end L2

namespace L2
open PySem PySem.Spec PyProof.Rows
structure FunD (K : PySem.W.Frag) (x qual : Str) (st : Stmt) (f : Addr) (fd : FuncData) : Prop where
  ex : ∃ (oc : Value) (od : Option Addr) (dV kV doc pm : Value) (an : Option Addr) (cdv ct : Value) (osl : Array (Option Value)),
    fd = PySem.W.fnOf x qual (defArgs st) (defBody st) (defScope st) dV kV doc pm an cdv ct ∧ K.lookup f = some ⟨oc, od, .func fd, osl⟩ ∧ PySem.W.codeIn K cdv qual = true
section
variable {P : Program} {w : World} {K : PySem.W.Frag} {mg : Str → Option Value} {base : Heap}
end
end L2

namespace L2
open PySem PySem.Spec PyProof.Rows
def gIxK (x y : D) : Res D := match x with
  | .dct ps => (keyK y).bind fun k => match valD ps k with
    | some d => .ok d
    | none => .bad
  | _ => .bad
section
variable {X : Cx} {xq : XQ} {o i e f : Expr} {fo fi ff : Rho → Res D} {pos apos cpos : Pos}
theorem d_ixK (hu : X.A.units + 1 < cLine) (ho : DE X xq o fo) (hi : DE X xq i fi) (hs : NoSl i := by intro _ _; rfl) : DE X xq (.Subscript o i pos) (fun ρ => (fo ρ).bind fun x => (fi ρ).bind fun y => gIxK x y) :=
  DE.of (pe_dget hu ho.out hi.out hs) fun B F ρ σ H Q R q => seqE R q fun d v F1 H1 s1 R1 p1 q1 => seqE R1 q1 fun d2 v2 F2 H2 s2 R2 p2 q2 => by
    have p1' := p1.same s2.ff
    cases p1' with
    | @dK a kvs ps hq hr =>
      obtain ⟨k, ek, q3⟩ := keyK_ok p2 (Res.all_bind.mp q2)
      subst ek
      have := hr.val (k := k)
      cases e : valD ps k with
      | none => rw [e] at q3; exact q3.elim
      | some d3 =>
        rw [e] at this q3
        obtain ⟨z, hz, pz⟩ := this
        refine ⟨a, z, rfl, ?_, q3 z F2 H2 (s1.trans s2) pz⟩
        have g := DGet.k (k := k) (R2.fh _ _ hq)
        rw [hz] at g
        exact g
    | _ => exact q2.elim
end
end L2

namespace L2
open PySem PySem.Spec PyProof.Rows
section
variable {X : Cx} {pins : List (Addr × Obj)} {σ : St} {H : Hp} {s : Shared} {a : Addr} {kvs : List (Key × V)} {k : Key} {u r : Value} {v : V} {A : Around} {E : Value → Shared → Prop}
end
section
variable {X : Cx} {xq : XQ} {o e f : Expr} {apos cpos pos p : Pos} {td ty tx : TE} {fe ff : Rho → Res D} {x : Str}
end
end L2

namespace L2
open PySem PySem.Spec PyProof.Rows
section
variable {X : Cx}
end
end L2

namespace L2
open PySem PySem.Spec PyProof.Rows
section
variable {P : Program} {w : World} {A : Around} {E : Value → Shared → Prop} {s : Shared}
end
section
variable {X : Cx} {xq : XQ} {a : Expr} {ta : TA} {p pos tp : Pos} {es : List Expr} {k : Nat} {fa : Rho → Res (List D)}
end
end L2

namespace L2
open PySem PySem.Spec PyProof.Rows
section
variable {P : Program} {w : World} {A : Around} {E : Value → Shared → Prop} {s : Shared}
end
section
variable {X : Cx} {xq : XQ} {a tg : Expr} {ta : TA} {p pos : Pos} {fa : Rho → Res (List D)}
end
end L2

namespace L2
open PySem PySem.Spec PyProof.Rows
def spN (K : PySem.W.Frag) (g : List D → Res (List D)) : Sp := fun vs H Q E => ∃ F ds, Same F H ∧ Rps K F vs ds ∧ (g ds).all (fun es => ∀ a h F' H', Stp F H F' H' → F' a = none → H a = none → H' a = some h → Ro K F' a h (.l es) → Q (.ref a) H') (fun x => ∀ a F' H', Stp F H F' H' → Rp K F' (.ref a) x → E (.ref a) none H')
def asLs (g : List D → Res (List D)) (ds : List D) : Res D := (g ds).bind fun es => .ok (.lst es)
theorem Stp.keep {F H F' H' : Hp} {a : Addr} {hh : HO} (s1 : Stp F H F' H') (n1 : F' a = none) (n2 : H a = none) (e1 : H' a = some hh) : Stp F H (upd F' a hh) H' := ⟨s1.ff.trans (same_upd_none n1), fun b u x => by
  unfold upd at x
  by_cases z : b = a
  · rw [if_pos z] at x; cases x; subst z; exact e1
  · rw [if_neg z] at x; exact s1.fh b u x, s1.hh, fun b x y => by
  unfold upd
  by_cases z : b = a
  · subst z; exact absurd n2 y
  · rw [if_neg z]; exact s1.no b x y⟩
theorem spN_X {K : PySem.W.Frag} {g : List D → Res (List D)} (vs : List V) (H : Hp) (Q : VK) (E : XK) (h : spX K (asLs g) vs H Q E) : spN K g vs H Q E := by
  obtain ⟨F, ds, fh, r, q⟩ := h
  refine ⟨F, ds, fh, r, Res.all_mono (Res.all_bind.mp q) (fun es k a hh F' H' s1 n1 n2 e1 r1 => ?_) fun _ k => k⟩
  exact k (.ref a) _ _ (s1.keep n1 n2 e1) ((Ro.same (same_upd_none n1) r1).rp upd_same)
inductive OutN where
  | rn (es : List D) | er (x : D) (ρ : Rho) | bad
structure OkN (K : PySem.W.Frag) (xq : XQ) (B : Hp × Hp) (T : Ends) (o : OutN) : Prop where
  out : match o with
    | .rn es => ∀ a h F' H', Stp B.1 B.2 F' H' → F' a = none → B.2 a = none → H' a = some h → Ro K F' a h (.l es) → T.rt (.ref a) H'
    | .er x ρ => ∀ v σ F H, Rel K B ρ σ F H → Rp K F v x → xq v σ H
    | .bad => False
def liftR (K : PySem.W.Frag) (xq : XQ) (f : Rho → OutN) : TS := fun T σ H => ∃ B F ρ, Rel K B ρ σ F H ∧ OkN K xq B T (f ρ)
structure DRB (X : Cx) (xq : XQ) (sts : List Stmt) (f : Rho → OutN) : Prop where
  out : PSs X sts (liftR X.K xq f)
section
variable {X : Cx} {xq : XQ} {st : Stmt} {sts : List Stmt} {e o : Expr} {es : List Expr} {fn : Rho → Res OD} {fe : Rho → Res D} {fs : Rho → Res (List D)} {f : Rho → Out} {g : Rho → OutN} {pos p p2 pos2 apos cpos : Pos} {x : Str}
def retN (fn : Rho → Res OD) (ρ : Rho) : OutN := match fn ρ with
  | .ok (.l es) => .rn es
  | .err x => .er x (frz ρ)
  | _ => .bad
theorem dr_ret (he : DN X xq e fn) : DRB X xq [.Return (some e) pos] (retN fn) :=
  ⟨pss_one fun pins s σ H T I z9 => un5 z9 fun B F ρ R q => ps_ret he.out pins s σ H T I ⟨B, F, ρ, R, by
    have q := q.out
    unfold retN at q
    cases h : fn ρ with
    | bad => rw [h] at q; exact q.elim
    | err x => rw [h] at q; exact fun v F1 H1 R1 p1 => q v σ F1 H1 R1 p1
    | ok o =>
      rw [h] at q
      cases o with
      | l ds => exact fun a hh F' H' s n1 n2 e1 r1 => q a hh F' H' (R.st.trans s) n1 (R.st.hh.free n2) e1 r1
      | _ => exact q.elim⟩⟩
def thenR (f : Rho → Out) (g : Rho → OutN) (ρ : Rho) : OutN := match f ρ with
  | .nx ρ1 => g ρ1
  | .er x ρ1 => .er x ρ1
  | _ => .bad
theorem dr_cons (h1 : DS X xq st f) (h2 : DRB X xq sts g) : DRB X xq (st :: sts) (thenR f g) :=
  ⟨fun pins s σ H T I z9 => un5 z9 fun B F ρ R q => pss_cons h1.out h2.out pins s σ H T I ⟨B, F, ρ, R, ⟨by
    have q1 := q.out
    unfold thenR at q1
    generalize f ρ = o at q1
    cases o with
    | nx ρ1 => exact fun σ1 F1 H1 R1 => ⟨B, F1, ρ1, R1, ⟨q1⟩⟩
    | rt d => exact q1.elim
    | bk r => exact q1.elim
    | ct r => exact q1.elim
    | er x r => exact q1
    | bad => exact q1⟩⟩⟩
theorem spN_of {K : PySem.W.Frag} {B : Hp × Hp} {ρ : Rho} {σ : St} {F H F0 H0 : Hp} {f : List D → Res (List D)} {ds : List D} {vs : List V} {Q : VK} (R : Rel K B ρ σ F H) (pv : Rps K F vs ds) (s0 : Stp F0 H0 F H)
    (q : (f ds).all (fun es => ∀ a h F' H', Stp F0 H0 F' H' → F' a = none → H0 a = none → H' a = some h → Ro K F' a h (.l es) → Q (.ref a) H') (ErrK K xq B ρ σ)) : spN K f vs H Q (fun u _ H' => ∃ a, u = .ref a ∧ xq (.ref a) σ H') :=
  ⟨F, ds, R.fh, pv, Res.all_mono q (fun es k a h F' H' st n1 n2 e1 r1 => k a h F' H' (s0.trans st) n1 (s0.hh.free n2) e1 r1) fun x k a F' H' st p => ⟨a, rfl, errR R st p k⟩⟩
def CalleeN (P : Program) (w : World) (K : PySem.W.Frag) (mg : Str → Option Value) (base : Heap) (k : Nat) (x : Str) (ps : List Str) (f : List D → Res (List D)) : Prop :=
  ∃ a fd, FnOk P w K mg base (CXe P w) k a fd ps (spN K f) ∧ Binds K fd ps [] ∧ PySem.W.keepIn K (.ref a) = true ∧ mg x = some (.ref a)
theorem dn_fn {P : Program} {w : World} {K : PySem.W.Frag} {mg : Str → Option Value} {base : Heap} {k k' : Nat} {ps : List Str} {f : List D → Res (List D)} (hq : XqOk X xq) (h : CalleeN P w K mg base k x ps f) (hr : Room k' X.A) (ha : DA X xq (e :: es) fs) (hk : k ≤ k' := by decide) (hg : Gl X x := by rfl)
    (eP : X.prog = P := by rfl) (ew : X.w = w := by rfl) (eK : X.K = K := by rfl) (em : X.mg = mg := by rfl) (eb : X.base = base := by rfl) (hdb : (x == ("__debug__" : Str)) = false := by decide) : DN X xq (.Call (.Name x p) (e :: es) [] pos) (fun ρ => (fs ρ).bind fun ds => (f ds).bind fun es => .ok (.l es)) :=
  ⟨fun pins s σ H Q I z9 => un5 z9 fun B F ρ R q => by
    subst eP ew eK em eb
    obtain ⟨a, fd, G, hb, hkp, hm⟩ := h
    refine wpAny_Call_Name_kw (ld_glob I hg hm ?_ hdb)
    refine PySem.W.callWith_K (h₀ := X.base) I.ok.mod.kin hkp (thn (ha.out pos pins s σ H _ I (seqA R q fun ds vs F1 H1 s1 R1 p1 q1 => show spN X.K f (vs ++ []) H1 Q (fun u _ H' => ∃ a, u = .ref a ∧ xq (.ref a) σ H') from by rw [List.append_nil]; exact spN_of R1 p1 s1 (Res.all_bind.mp q1))) fun us s1 ⟨vs, H1, I1, r, q⟩ => ⟨I1.kIn, ?_⟩) (star_cons (all_head ha.ns).1) (back_any (all_head ha.ns).2)
    exact run_fnX hq G (hr.mono hk) hb .nil I1 r q⟩
end
def runN (n m : Nat) (t : Rho → OutN) (ds : List D) : Res (List D) := if ds.length = m then (match t (startD n ds) with | .rn es => .ok es | .er x _ => .err x | .bad => .bad) else .bad
section
variable {P : Program} {w : World} {K : PySem.W.Frag} {mg : Str → Option Value} {base : Heap}
theorem Fun.okN {x qual : Str} {st : Stmt} {f : Addr} {fd : FuncData} {N ps : List Str} {k : Nat} {t : Rho → OutN} (F : Fun K x qual st f fd) (S : FnScope N ps (defScope st))
    (hbody : ∀ (cdv : Value) (A : Around) (outer : List Env) (s : Shared) (H : Hp) (E : XK), Room k (A.deeper (envOfC qual (defScope st) s.heap.objs.size f cdv)) → XqOk (cxR P w K mg base N qual (defScope st) f cdv A outer s H E) (xq0 E) →
      DRB (cxR P w K mg base N qual (defScope st) f cdv A outer s H E) (xq0 E) (defBody st) t) : FnOk P w K mg base (CXe P w) (k + 1) f fd ps (spN K (runN N.length ps.length t)) := by
  obtain ⟨oc, od, kV, doc, pm, an, cdv, ct, osl, rfl, lk, hcd⟩ := F.ex
  refine fn_of lk hcd S (fun vs H Q E h => ?_) fun A outer s H vs Q E hr hsp => ?_
  · obtain ⟨G, ds, fh, r, q⟩ := h
    rw [r.length]
    unfold runN at q
    split at q
    · assumption
    · exact q.elim
  · obtain ⟨G, ds, fh, r, q⟩ := hsp
    have hst : (cxOf (CXe P w) P w K mg base N qual (defScope st) f cdv A outer s H E).stack = (cxOf (CXe P w) P w K mg base N qual (defScope st) f cdv A outer s H E).env :: (cxOf (CXe P w) P w K mg base N qual (defScope st) f cdv A outer s H E).outer ∧ (cxOf (CXe P w) P w K mg base N qual (defScope st) f cdv A outer s H E).env.frame = some (cxOf (CXe P w) P w K mg base N qual (defScope st) f cdv A outer s H E).env.locals := ⟨rfl, rfl⟩
    have h1 := hbody cdv A outer s H E hr (xqOk_wish hst)
    refine ⟨_, PSs.wishTo h1.out ?_, (G, H), G, _, r.begin fh, ⟨?_⟩⟩
    · rintro u s' ⟨n, e, C, d, σ, H', fl, o, rfl, I, hx, tb, hfl, q⟩
      refine leave_ok I hst o hx tb hfl fun s2 I2 tr => ?_
      exact ⟨e, C, d, H', rfl, I2.os, I2.bare, I2.base, I2.hok, hx, tr.tb.mono o.s0, q e rfl⟩
    · unfold runN at q
      split at q
      · generalize t (startD N.length ds) = o at q
        cases o with
        | rn es => exact q
        | er x ρ => exact fun v σ F' H' R pv a ea => by subst ea; exact q a F' H' R.st pv
        | bad => exact q.elim
      · exact q.elim
end
end L2

namespace L2
open PySem PySem.Spec PyProof.Rows
end L2

namespace L2
open PySem PySem.Spec PyProof.Rows
def catD : D → D → Res OD
  | .lst xs, .lst ys => gd (xs.length + ys.length ≤ sizeLine) (.ok (.l (xs ++ ys)))
  | _, _ => .bad
section
variable {X : Cx} {xq : XQ} {a b e : Expr} {fa fb fe : Rho → Res D} {pos : Pos}
theorem dn_cat (ha : DE X xq a fa) (hb : DE X xq b fb) : DN X xq (.BinOp a .Add b pos) (fun ρ => (fa ρ).bind fun x => (fb ρ).bind fun y => catD x y) :=
  ⟨fun pins s σ H Q I z9 => un5 z9 fun B F ρ R q => pe_op op_catR ha.out hb.out pins s σ H Q I (seqE R q fun d v F1 H1 s1 R1 p1 q1 => seqE R1 q1 fun d2 v2 F2 H2 s2 R2 p2 q2 => by
    have p1' := p1.same s2.ff
    cases p1' with
    | lst hx rx' =>
      cases p2 with
      | lst hy ry' =>
        obtain ⟨hz, q3⟩ := gd_ok q2
        exact ⟨_, _, _, _, rfl, rfl, hx.same R2.fh, hy.same R2.fh, by rw [rx'.length, ry'.length]; exact hz, fun p n => q3 p _ F2 _ ((s1.trans s2).trans (Stp.only R2.fh (same_upd_none n))) (R2.fh.free n) ((s1.trans s2).hh.free n) upd_same (.l (rx'.append ry'))⟩
      | _ => exact q2.elim
    | _ => exact q2.elim)⟩
end
end L2

namespace L2
open PySem PySem.Spec PyProof.Rows
def splitL {α : Type} [DecidableEq α] (c : α) : List α → List (List α)
  | [] => [[]]
  | a :: l => if a = c then [] :: splitL c l else match splitL c l with
    | [] => [[a]]
    | w :: r => (a :: w) :: r
theorem splitL_ne {α : Type} [DecidableEq α] (c : α) (l : List α) : splitL c l ≠ [] := by
  cases l with
  | nil => simp [splitL]
  | cons a l =>
    rw [splitL]
    split
    · simp
    · split <;> simp
theorem splitL_free {α : Type} [DecidableEq α] (c : α) : ∀ (w : List α), c ∉ w → splitL c w = [w]
  | [], _ => rfl
  | a :: w, h => by
    have h1 : ¬ a = c := fun e => h (by simp [e])
    rw [splitL, splitL_free c w (fun m => h (by simp [m])), if_neg h1]
theorem splitL_app {α : Type} [DecidableEq α] (c : α) (r : List α) : ∀ (w : List α), c ∉ w → splitL c (w ++ c :: r) = w :: splitL c r
  | [], _ => by simp [splitL]
  | a :: w, h => by
    have h1 : ¬ a = c := fun e => h (by simp [e])
    rw [List.cons_append, splitL, splitL_app c r w (fun m => h (by simp [m])), if_neg h1]
def glue {α : Type} (c : α) : List (List α) → List α
  | [] => []
  | [w] => w
  | w :: v :: r => w ++ c :: glue c (v :: r)
theorem splitL_glue {α : Type} [DecidableEq α] (c : α) : ∀ (ws : List (List α)), ws ≠ [] → (∀ w ∈ ws, c ∉ w) → splitL c (glue c ws) = ws
  | [w], _, h => splitL_free c w (h w (by simp))
  | w :: v :: r, _, h => by
    rw [glue, splitL_app c _ w (h w (by simp)), splitL_glue c (v :: r) (by simp) fun x m => h x (List.mem_cons_of_mem _ m)]
def cutsL (c : Nat) : Nat → List Nat → List Nat
  | _, [] => []
  | o, a :: l => if a = c then o :: cutsL c (o + 1) l else cutsL c (o + 1) l
theorem cutsL_app (c : Nat) : ∀ (l : List Nat) (o : Nat) (a : Nat), cutsL c o (l ++ [a]) = cutsL c o l ++ if a = c then [o + l.length] else []
  | [], o, a => by simp [cutsL]
  | b :: l, o, a => by
    rw [List.cons_append, cutsL, cutsL, cutsL_app c l (o + 1) a]
    have : o + 1 + l.length = o + (b :: l).length := by simp; omega
    rw [this]; split <;> simp
theorem cutsL_ge (c : Nat) : ∀ (l : List Nat) (o : Nat), ∀ x ∈ cutsL c o l, o ≤ x
  | [], o, x, m => by simp [cutsL] at m
  | b :: l, o, x, m => by
    rw [cutsL] at m
    split at m
    · rcases List.mem_cons.1 m with rfl | m
      · exact Nat.le_refl _
      · exact Nat.le_of_succ_le (cutsL_ge c l (o + 1) x m)
    · exact Nat.le_of_succ_le (cutsL_ge c l (o + 1) x m)
theorem cutsL_len (c : Nat) : ∀ (l : List Nat) (o : Nat), (cutsL c o l).length ≤ l.length
  | [], o => by simp [cutsL]
  | b :: l, o => by
    have := cutsL_len c l (o + 1)
    rw [cutsL]; split <;> simp <;> omega
theorem occ_one (s : Str) (c : Nat) : Builtin.Str.occurrences s ⟨#[c]⟩ 0 s.length (s.length + 1) = cutsL c 0 s.cps.toList := by
  unfold Builtin.Str.occurrences
  simp only [Std.Legacy.Range.forIn_eq_forIn_range']
  have key : ∀ k, k ≤ s.length → ∃ fr, fr ≤ k ∧ (List.range' 0 k).foldl (fun (b : Array Nat × Nat) i => if (decide (b.1.size < s.length + 1) && decide (b.2 ≤ i) && decide (i + (Str.mk #[c]).length ≤ s.length) && Builtin.Str.subAt s ⟨#[c]⟩ i) = true then (b.1.push i, i + (Str.mk #[c]).length) else b) (#[], 0) = ((cutsL c 0 (s.cps.toList.take k)).toArray, fr) := by
    intro k
    induction k with
    | zero => intro _; exact ⟨0, Nat.le_refl _, by simp [cutsL]⟩
    | succ k ih =>
      intro hk
      obtain ⟨fr, h1, h2⟩ := ih (by omega)
      have hk' : k < s.cps.size := hk
      have e1 : s.cps.toList.take (k + 1) = s.cps.toList.take k ++ [s.cps[k]] := by
        rw [List.take_succ]; simp [hk']
      have hl : (s.cps.toList.take k).length = k := by simp; omega
      have hlen := cutsL_len c (s.cps.toList.take k) 0
      rw [hl] at hlen
      rw [List.range'_concat, List.foldl_append, h2, e1, cutsL_app, hl]
      have hsub : Builtin.Str.subAt s ⟨#[c]⟩ k = decide (s.cps[k] = c) := by
        unfold Builtin.Str.subAt
        have : s.cps.extract k (k + (Str.mk #[c]).length) = #[s.cps[k]] := by
          apply Array.ext
          · simp [Str.length]; omega
          · intro i h1 h2; simp at h2; subst h2; simp
        rw [this]
        by_cases e : s.cps[k] = c <;> simp [e]
      have hlen' : (cutsL c 0 (List.take k s.cps.toList)).length < s.length + 1 := by omega
      have hone : (Str.mk #[c]).length = 1 := rfl
      simp only [Nat.zero_add, Nat.one_mul, List.foldl_cons, List.foldl_nil, hsub, hone, List.size_toArray, hlen', h1, decide_true, Bool.true_and, hk]
      by_cases e : s.cps[k] = c
      · exact ⟨k + 1, by omega, by simp [e]⟩
      · exact ⟨fr, by omega, by simp [e]⟩
  obtain ⟨fr, h1, h2⟩ := key s.length (Nat.le_refl _)
  have e0 : (Std.Legacy.Range.mk 0 (s.length + 1) 1 (by decide)).size = s.length + 1 := by simp [Std.Legacy.Range.size]
  have e1 : ∀ (b : Array Nat × Nat), (if (decide (b.1.size < s.length + 1) && decide (b.2 ≤ s.length) && decide (s.length + (Str.mk #[c]).length ≤ s.length) && Builtin.Str.subAt s ⟨#[c]⟩ s.length) = true then (b.1.push s.length, s.length + (Str.mk #[c]).length) else b) = b := by
    intro b
    have : ¬ s.length + (Str.mk #[c]).length ≤ s.length := by show ¬ s.length + 1 ≤ s.length; omega
    simp [this]
  have e3 : cutsL c 0 (s.cps.toList.take s.length) = cutsL c 0 s.cps.toList := by
    have : s.cps.toList.take s.length = s.cps.toList := List.take_of_length_le (by simp [Str.length])
    rw [this]
  have e2 := List.forIn_pure_yield_eq_foldl (m := Id) (l := List.range' 0 (s.length + 1)) (fun i (b : Array Nat × Nat) => if (decide (b.1.size < s.length + 1) && decide (b.2 ≤ i) && decide (i + (Str.mk #[c]).length ≤ s.length) && Builtin.Str.subAt s ⟨#[c]⟩ i) = true then (b.1.push i, i + (Str.mk #[c]).length) else b) (#[], 0)
  have e4 : (List.range' 0 (s.length + 1)).foldl (fun (b : Array Nat × Nat) i => if (decide (b.1.size < s.length + 1) && decide (b.2 ≤ i) && decide (i + (Str.mk #[c]).length ≤ s.length) && Builtin.Str.subAt s ⟨#[c]⟩ i) = true then (b.1.push i, i + (Str.mk #[c]).length) else b) (#[], 0) = ((cutsL c 0 s.cps.toList).toArray, fr) := by
    rw [List.range'_concat, List.foldl_append, h2, e3, Nat.zero_add, Nat.one_mul]
    exact e1 _
  rw [e4] at e2
  have e5 : ∀ (X : Id (Array Nat × Nat)), X = pure ((cutsL c 0 s.cps.toList).toArray, fr) → (do let q ← X; pure q.1.toList : Id (List Nat)).run = cutsL c 0 s.cps.toList := by
    intro X h; subst h; simp
  refine e5 _ (Eq.trans ?_ e2)
  congr 1
  · rw [e0]
  · funext i b
    split <;> rfl
theorem parts_one (c : Nat) (s : Str) : Builtin.Str.partsBetween s (cutsL c 0 s.cps.toList) 1 = (splitL c s.cps.toList).map fun w => ⟨w.toArray⟩ := by
  unfold Builtin.Str.partsBetween
  have key : ∀ (l pre : List Nat), s.cps.toList = pre ++ l → List.map (fun x : Nat × Nat => Builtin.Str.strSub s x.1 x.2) ((pre.length :: (cutsL c pre.length l).map (· + 1)).zip (cutsL c pre.length l ++ [s.length])) = (splitL c l).map fun w => ⟨w.toArray⟩ := by
    intro l
    induction l with
    | nil =>
      intro pre h
      have hs : s.length = pre.length := by show s.cps.size = _; rw [← Array.length_toList, h]; simp
      simp [cutsL, splitL, Builtin.Str.strSub, hs]; exact Nat.min_le_left _ _
    | cons a l ih =>
      intro pre h
      have ih' := ih (pre ++ [a]) (by simp [h])
      rw [List.length_append, List.length_singleton] at ih'
      have hsub : ∀ j, pre.length + 1 ≤ j → (Builtin.Str.strSub s pre.length j).cps.toList = a :: (Builtin.Str.strSub s (pre.length + 1) j).cps.toList := by
        intro j hj
        simp only [Builtin.Str.strSub, Array.toList_extract, List.extract_eq_take_drop, h]
        rw [List.drop_append, List.drop_append]
        have q : j - pre.length = (j - (pre.length + 1)) + 1 := by omega
        have q2 : List.drop (pre.length + 1) pre = [] := List.drop_of_length_le (by omega)
        simp [q, q2]
      rw [cutsL, splitL]
      split
      · show Builtin.Str.strSub s pre.length pre.length :: _ = _ :: _
        rw [← ih']
        congr 1
        simp [Builtin.Str.strSub]; exact Nat.min_le_left _ _
      · have hc : ∀ x ∈ cutsL c (pre.length + 1) l, pre.length + 1 ≤ x := cutsL_ge c l _
        have hs : pre.length + 1 ≤ s.length := by show _ ≤ s.cps.size; rw [← Array.length_toList, h]; simp
        have hj : ∀ j rest, cutsL c (pre.length + 1) l ++ [s.length] = j :: rest → pre.length + 1 ≤ j := by
          intro j rest e
          have : j ∈ cutsL c (pre.length + 1) l ++ [s.length] := by rw [e]; simp
          rcases List.mem_append.1 this with m | m
          · exact hc _ m
          · simp at m; omega
        cases e : cutsL c (pre.length + 1) l ++ [s.length] with
        | nil => simp at e
        | cons j rest =>
          rw [e, List.zip_cons_cons, List.map_cons] at ih'
          rw [List.zip_cons_cons, List.map_cons]
          cases e2 : splitL c l with
          | nil => exact absurd e2 (splitL_ne c l)
          | cons w r =>
            rw [e2, List.map_cons] at ih'
            injection ih' with i1 i2
            rw [List.map_cons, i2]
            congr 1
            have z := hsub j (hj j rest e)
            dsimp only at i1
            rw [i1] at z
            show Builtin.Str.strSub s pre.length j = _
            cases hq : Builtin.Str.strSub s pre.length j with
            | mk q =>
              rw [hq] at z
              congr 1
              apply Array.toList_inj.1
              simpa using z
  exact key _ [] rfl
def splitS (c : Nat) (z : Str) : List Str := (splitL c z.cps.toList).map fun w => ⟨w.toArray⟩
theorem splitS_len {α : Type} [DecidableEq α] (c : α) : ∀ (l : List α), ∀ w ∈ splitL c l, w.length ≤ l.length
  | [], w, m => by simp [splitL] at m; simp [m]
  | a :: l, w, m => by
    have ih := splitS_len c l
    rw [splitL] at m
    split at m
    · rcases List.mem_cons.1 m with rfl | m
      · simp
      · have := ih w m; simp; omega
    · split at m
      · simp at m; subst m; simp
      · next w' r e =>
        rcases List.mem_cons.1 m with rfl | m
        · have := ih w' (by rw [e]; simp); simp; omega
        · have := ih w (by rw [e]; simp [m]); simp; omega
theorem splitL_many {α : Type} [DecidableEq α] (c : α) : ∀ (l : List α), (splitL c l).length ≤ l.length + 1
  | [] => by simp [splitL]
  | a :: l => by
    have ih := splitL_many c l
    rw [splitL]
    split
    · simp; omega
    · split
      · simp
      · next w' r e => rw [e] at ih; simp at ih ⊢; omega
theorem valsFrom : ∀ (ss : List Str) (t : Nat), Vals (ss.map V.str) (strsFrom t ss)
  | [], _ => .nil
  | s :: ss, t => .cons ⟨_, rfl⟩ (valsFrom ss (t + 1))
theorem kind_le (c : Nat) (hc : c < 256) (z : Str) : decide (Builtin.Str.strKind z < Builtin.Str.strKind ⟨#[c]⟩) = false := by
  have h1 : Builtin.Str.strKind ⟨#[c]⟩ = 1 := by simp [Builtin.Str.strKind, hc]
  have h2 : 1 ≤ Builtin.Str.strKind z := by
    unfold Builtin.Str.strKind
    split
    · decide
    · split <;> decide
  rw [h1]; simp; omega
def partsOf (c : Nat) (z : Str) : List Str := Builtin.Str.partsBetween z (Builtin.Str.occurrences z ⟨#[c]⟩ 0 z.length (z.length + 1)) 1
def rSplit (c : Nat) : V → List V → Hp → VK → Prop := fun x vs H Q => ∃ z : Str, x = .str z ∧ vs = [.str ⟨#[c]⟩] ∧ z.length + 1 ≤ sizeLine ∧ ∀ p, H p = none → Q (.ref p) (upd H p (.lst ((splitS c z).map V.str)))
variable {X : Cx} {xq : XQ}
theorem mt_split {c : Nat} (hc : c < 256) : MtM X "str.split" (rSplit c) := by
  intro pins s σ H x vs v us Q I rx rv h
  obtain ⟨z, rfl, rfl, hz, q⟩ := h
  obtain ⟨t, rfl⟩ := rx
  obtain ⟨u, rfl, ru⟩ := rv.one
  obtain ⟨t2, rfl⟩ := ru
  have e0 : partsOf c z = splitS c z := by unfold partsOf splitS; rw [occ_one]; exact parts_one c z
  have own : splitS c z = [z] → listOfItself z t X.A (wants (EP X pins σ Q) X.xe) s := by
    intro e
    rw [e] at q
    exact ⟨.ref _, _, I.lnew (ys := [.str z]) (its := [.str z t]) (t' := s.toks) (.cons ⟨t, rfl⟩ .nil) (by show 1 ≤ sizeLine; omega), rfl, q _ I.fresh⟩
  by_cases h0 : z.length < 1
  · refine call_meets F.slot_str_split (typeIs_str s z t) F.entry_str_split (F.args_str_split_2 _ _) (meets_str_split_cannot_occur z ⟨#[c]⟩ t t2 (by rw [decide_eq_true (show z.length < (Str.mk #[c]).length from h0)]; rfl)) (own ?_)
    have : z.cps = #[] := Array.size_eq_zero_iff.1 (by have : z.cps.size < 1 := h0; omega)
    cases z with
    | mk cps => cases this; rfl
  · have h1 : (decide (z.length < (Str.mk #[c]).length) || decide (Builtin.Str.strKind z < Builtin.Str.strKind ⟨#[c]⟩)) = false := by
      rw [kind_le c hc z, decide_eq_false (show ¬ z.length < (Str.mk #[c]).length from h0)]; rfl
    cases h2 : (Builtin.Str.occurrences z ⟨#[c]⟩ 0 z.length (z.length + 1)).isEmpty with
    | true =>
      refine call_meets F.slot_str_split (typeIs_str s z t) F.entry_str_split (F.args_str_split_2 _ _) (meets_str_split_not_found z ⟨#[c]⟩ t t2 h1 rfl h2) (own ?_)
      rw [← e0]
      unfold partsOf
      rw [List.isEmpty_iff.1 h2]
      simp [Builtin.Str.partsBetween, Builtin.Str.strSub, Str.length]
    | false =>
      have hl : (splitS c z).length ≤ sizeLine := by
        have := splitL_many c z.cps.toList
        have h3 : z.cps.toList.length = z.length := rfl
        unfold splitS; rw [List.length_map]; omega
      refine call_meets F.slot_str_split (typeIs_str s z t) F.entry_str_split (F.args_str_split_2 _ _) (meets_str_split_sep z ⟨#[c]⟩ t t2 h1 rfl h2 (by omega) (by have := hl; rw [← e0] at this; exact this)) ?_
      show EP X pins σ Q (.ref s.heap.objs.size) { s with heap := s.heap.push { cls := .type "list", data := .seq (strsFrom s.toks (partsOf c z)).toArray }, toks := s.toks + (partsOf c z).length }
      rw [e0]
      exact ⟨.ref _, _, I.lnew (ys := (splitS c z).map V.str) (its := strsFrom s.toks (splitS c z)) (t' := s.toks + (splitS c z).length) (valsFrom _ _) (by rw [List.length_map]; exact hl), rfl, q _ I.fresh⟩
def splitD (c : Nat) : D → Res OD
  | .str z => gd (z.length + 1 ≤ sizeLine) (.ok (.l ((splitS c z).map D.str)))
  | _ => .bad
theorem dn_split {e : Expr} {fe : Rho → Res D} {c : Nat} {apos cpos p : Pos} {y : Str} {j} (he : DE X xq e fe) (hc : c < 256 := by decide) (hy : y = ⟨#[c]⟩ := by rfl)
    (hbase : attributeBase e "split" X.env (eval e X.env) = eval e X.env := by rfl) (hline : (apos.endLine == cpos.line) = true := by rfl) :
    DN X xq (.Call (.Attribute e "split" apos) [.Constant (.str y) j p] [] cpos) (fun ρ => (fe ρ).bind (splitD c)) := by
  subst hy
  exact ⟨fun pins s σ H Q I z9 => un5 z9 fun B F ρ R q => pbm PySem.F.plainAttrs_str PySem.F.slot_str_split PySem.F.type_str_split (mt_split hc) he.out (pac pe_str pa_nil rfl) rfl rfl hbase hline pins s σ H Q I (seqE R q fun d v F1 H1 s1 R1 p1 q1 => by
    cases p1 with
    | @str z hz =>
      obtain ⟨h1, q2⟩ := gd_ok q1
      exact ⟨rfl, z, rfl, rfl, h1, fun p n => q2 p _ F1 _ (s1.trans (Stp.only R1.fh (same_upd_none n))) (R1.fh.free n) (s1.hh.free n) upd_same (.l (rps_strs fun w m => by
        obtain ⟨l, m1, rfl⟩ := List.mem_map.1 m
        have := splitS_len c _ l m1
        have h3 : z.cps.toList.length = z.length := rfl
        show l.toArray.size ≤ _
        rw [List.size_toArray]; omega))⟩
    | _ => exact q1.elim)⟩
end L2

namespace L2
open PySem PySem.Spec PyProof.Rows
theorem glued_len (z : Str) (ys : List Str) : (Txt.join z ys).length ≤ (ys.map (·.length)).sum + ys.length * z.length := by
  have key : ∀ (l : List Str) (acc : Array Nat), (l.foldl (fun acc (p : Str) => acc ++ z.cps ++ p.cps) acc).size = acc.size + (l.map (·.length)).sum + l.length * z.length := by
    intro l
    induction l with
    | nil => intro acc; simp
    | cons p l ih =>
      intro acc
      rw [List.foldl_cons, ih, List.map_cons, List.sum_cons, List.length_cons, Nat.add_mul]
      show (acc ++ z.cps ++ p.cps).size + _ + _ = _ + (p.cps.size + _) + (_ + 1 * z.cps.size)
      rw [Array.size_append, Array.size_append]
      omega
  show (List.foldl _ _ _ : Array Nat).size ≤ _
  cases ys with
  | nil => simp [Str.empty]
  | cons y ys =>
    rw [key]
    show y.cps.size + _ + ys.length * z.length ≤ _
    rw [List.map_cons, List.sum_cons, List.length_cons, Nat.add_mul]
    show _ ≤ y.cps.size + _ + _
    simp only [List.drop_succ_cons, List.drop_zero]
    omega
variable {X : Cx} {xq : XQ}
def rJoinA (K : PySem.W.Frag) : V → List V → Hp → VK → Prop := fun x vs H Q => ∃ (z : Str) (p : Addr) (ys : List Str), x = .str z ∧ vs = [.ref p] ∧ (Rd H p (.lst (ys.map V.str)) ∨ SqT K H p (ys.map V.str)) ∧ (ys.map (·.length)).sum + ys.length * z.length ≤ 16777216 ∧ Q (.str (Txt.join z ys)) H
theorem mt_joinA : MtM X "str.join" (rJoinA X.K) := by
  intro pins s σ H x vs v us Q I rx rv h
  obtain ⟨z, p, ys, rfl, rfl, hq, hz, q⟩ := h
  obtain ⟨t, rfl⟩ := rx
  obtain ⟨u, rfl, ru⟩ := rv.one
  cases ru
  rcases hq with hq | hq
  · obtain ⟨hn, its, n, r, hl, e⟩ := I.lstR hq
    exact join_list (items := its.toArray) ⟨_, e, rfl, _, rfl⟩ (by simpa using strsAre_of r) hz fun t' k => ⟨.str _, H, I.tok k, ⟨t', rfl⟩, q⟩
  · obtain ⟨its, r, ht, _⟩ := I.tuple hq
    exact join_tuple ht (by simpa using strsAre_of r) hz fun t' k => ⟨.str _, H, I.tok k, ⟨t', rfl⟩, q⟩
def joinL (z : Str) (ds : List D) : Res D := match strsOf ds with
  | some ys => gd ((ys.map (·.length)).sum + ys.length * z.length ≤ 16777216) (.ok (.str (Txt.join z ys)))
  | none => .bad
def joinD (z : Str) : D → Res D
  | .lst ds => joinL z ds
  | .tup ds => joinL z ds
  | _ => .bad
theorem d_join {e : Expr} {fe : Rho → Res D} {z : Str} {apos cpos p : Pos} {j} (he : DE X xq e fe) (hs : notStar e = true := by rfl)
    (hbase : attributeBase (.Constant (.str z) j p) "join" X.env (eval (.Constant (.str z) j p) X.env) = eval (.Constant (.str z) j p) X.env := by rfl) (hline : (apos.endLine == cpos.line) = true := by rfl) :
    DE X xq (.Call (.Attribute (.Constant (.str z) j p) "join" apos) [e] [] cpos) (fun ρ => (fe ρ).bind (joinD z)) :=
  ⟨fun pins s σ H Q I z9 => un5 z9 fun B F ρ R q => pbm PySem.F.plainAttrs_str PySem.F.slot_str_join PySem.F.type_str_join mt_joinA pe_str (pac he.out pa_nil hs) (by rw [List.all_cons, hs]; rfl) rfl hbase hline pins s σ H Q I ⟨rfl, seqE R q fun d v F1 H1 s1 R1 p1 q1 => by
    have fin : ∀ {ds : List D} {vs : List V}, Rps X.K F1 vs ds → (joinL z ds).all (fun d => ∀ (v : V) (F' H' : Hp), Stp F H F' H' → Rp X.K F' v d → Q v H') (ErrK X.K xq B ρ σ) → ∃ ys : List Str, vs = ys.map V.str ∧ (ys.map (·.length)).sum + ys.length * z.length ≤ 16777216 ∧ Q (.str (Txt.join z ys)) H1 := by
      intro ds vs r q2
      unfold joinL at q2
      cases e : strsOf ds with
      | none => rw [e] at q2; exact q2.elim
      | some ys =>
        rw [e] at q2
        obtain ⟨h1, q3⟩ := gd_ok q2
        exact ⟨ys, (strsOf_rp r e).1, h1, q3 _ F1 H1 s1 (.str (Nat.le_trans (glued_len z ys) h1))⟩
    cases p1 with
    | lst hq r =>
      obtain ⟨ys, rfl, h1, q2⟩ := fin r q1
      exact ⟨z, _, ys, rfl, rfl, .inl (hq.same R1.fh), h1, q2⟩
    | tup hq r =>
      obtain ⟨ys, rfl, h1, q2⟩ := fin r q1
      exact ⟨z, _, ys, rfl, rfl, .inr (R1.fh.seqT hq), h1, q2⟩
    | _ => exact q1.elim⟩⟩
end L2

namespace L2
open PySem PySem.Spec PyProof.Rows
theorem rps_set {K : PySem.W.Frag} {F : Hp} {v : V} {d : D} : ∀ {xs : List V} {ds : List D} (j : Nat), Rps K F xs ds → Rp K F v d → Rps K F (xs.set j v) (ds.set j d)
  | _, _, _, .nil, _ => .nil
  | _, _, 0, .cons _ hs, h => .cons h hs
  | _, _, j + 1, .cons h0 hs, h => .cons h0 (rps_set j hs h)
section
variable {X : Cx} {xq : XQ} {i value : Expr} {fi fv : Rho → Res D} {pos : Pos}
end
end L2

namespace L2
open PySem PySem.Spec PyProof.Rows
section
variable {X : Cx} {xq : XQ} {e : Expr} {es : List Expr} {fe : Rho → Res D} {pos : Pos}
end
end L2

namespace L2
open PySem PySem.Spec PyProof.Rows
section
variable {X : Cx} {xq : XQ}
end
end L2

namespace L2
open PySem PySem.Spec PyProof.Rows
section
variable {X : Cx} {xq : XQ}
end
end L2

namespace L2
open PySem PySem.Spec PyProof.Rows
def shS : Sl → Option D
  | .val d => some d
  | .own _ => none
def shp (ρ : Rho) : List (Option (Option D)) := ρ.map (Option.map shS)
theorem shp_get (ρ : Rho) (i : Nat) : (shp ρ)[i]? = (ρ[i]?).map (Option.map shS) := by unfold shp; rw [List.getElem?_map]
theorem shp_own {ρ ρ' : Rho} (h : shp ρ' = shp ρ) {i : Nat} {o : OD} (e : ρ[i]? = some (some (.own o))) : ∃ o', ρ'[i]? = some (some (.own o')) := by
  have z : (shp ρ')[i]? = (shp ρ)[i]? := by rw [h]
  rw [shp_get, shp_get, e] at z
  cases q : ρ'[i]? with
  | none => rw [q] at z; cases z
  | some y =>
    rw [q] at z
    cases y with
    | none => cases z
    | some s =>
      cases s with
      | val d => cases z
      | own o' => exact ⟨o', rfl⟩
def NotOwn (ρ : Rho) (σ : St) (b : Addr) : Prop := ∀ (i : Nat) o, ρ[i]? = some (some (.own o)) → σ[i]? ≠ some (some (.ref b))
theorem NotOwn.of {ρ ρ' : Rho} {σ : St} {b : Addr} (h : shp ρ' = shp ρ) (n : NotOwn ρ σ b) : NotOwn ρ' σ b := fun i o e => let ⟨o', e'⟩ := shp_own h.symm e; n i o' e'
structure Mv (K : PySem.W.Frag) (B : Hp × Hp) (ρ : Rho) (σ : St) (F H : Hp) (ρ' : Rho) (F' H' : Hp) : Prop where
  rel : Rel K B ρ' σ F' H'
  sh : shp ρ' = shp ρ
  ff : Same F F'
  hh : ∀ b o, NotOwn ρ σ b → H b = some o → H' b = some o
  no : ∀ b, F b = none → H b ≠ none → F' b = none
section
variable {K : PySem.W.Frag} {B : Hp × Hp} {ρ ρ' ρ1 ρ2 : Rho} {σ : St} {F H F' H' F1 H1 F2 H2 : Hp}
theorem Mv.refl (R : Rel K B ρ σ F H) : Mv K B ρ σ F H ρ F H := ⟨R, rfl, Same.refl F, fun _ _ _ e => e, fun _ n _ => n⟩
theorem Mv.step (m : Mv K B ρ σ F H ρ1 F1 H1) (s : Stp F1 H1 F2 H2) : Mv K B ρ σ F H ρ1 F2 H2 where
  rel := m.rel.step s
  sh := m.sh
  ff := m.ff.trans s.ff
  hh b o n e := s.hh b o (m.hh b o n e)
  no b n e := by
    refine s.no b (m.no b n e) ?_
    by_cases q : NotOwn ρ σ b
    · cases z : H b with
      | none => exact absurd z e
      | some o => rw [m.hh b o q z]; simp
    · unfold NotOwn at q
      simp only [Classical.not_forall] at q
      obtain ⟨i, o, e1, e2⟩ := q
      obtain ⟨o', e3⟩ := shp_own m.sh e1
      obtain ⟨a, h, p1, p2, p3, p4, p5⟩ := m.rel.own i o' e3
      have e2 : σ[i]? = some (some (.ref b)) := Classical.not_not.mp e2
      rw [e2] at p1; cases p1; rw [p4]; simp
theorem Mv.of (R : Rel K B ρ σ F H) (s : Stp F H F' H') : Mv K B ρ σ F H ρ F' H' := (Mv.refl R).step s
theorem Mv.dom (m : Mv K B ρ σ F H ρ1 F1 H1) {b : Addr} (e : H b ≠ none) : H1 b ≠ none := by
  by_cases q : NotOwn ρ σ b
  · cases z : H b with
    | none => exact absurd z e
    | some o => rw [m.hh b o q z]; simp
  · unfold NotOwn at q
    simp only [Classical.not_forall] at q
    obtain ⟨i, o, e1, e2⟩ := q
    obtain ⟨o', e3⟩ := shp_own m.sh e1
    obtain ⟨a, h, p1, p2, p3, p4, p5⟩ := m.rel.own i o' e3
    have e2 : σ[i]? = some (some (.ref b)) := Classical.not_not.mp e2
    rw [e2] at p1; cases p1; rw [p4]; simp
theorem Mv.free (m : Mv K B ρ σ F H ρ1 F1 H1) {b : Addr} (e : H1 b = none) : H b = none := by
  cases z : H b with
  | none => rfl
  | some o => exact absurd e (m.dom (by rw [z]; simp))
theorem Mv.trans (x : Mv K B ρ σ F H ρ1 F1 H1) (y : Mv K B ρ1 σ F1 H1 ρ2 F2 H2) : Mv K B ρ σ F H ρ2 F2 H2 :=
  ⟨y.rel, y.sh.trans x.sh, x.ff.trans y.ff, fun b o n e => y.hh b o (n.of x.sh) (x.hh b o n e), fun b n e => y.no b (x.no b n e) (x.dom e)⟩
end
def liftX (K : PySem.W.Frag) (f : Rho → Res (D × Rho)) : TE := fun σ H Q => ∃ B F ρ, Rel K B ρ σ F H ∧
  (f ρ).all (fun r => ∀ v F' H', Mv K B ρ σ F H r.2 F' H' → Rp K F' v r.1 → Q v H') (fun _ => False)
def liftXN (K : PySem.W.Frag) (f : Rho → Res (OD × Rho)) : TE := fun σ H Q => ∃ B F ρ, Rel K B ρ σ F H ∧
  (f ρ).all (fun r => ∀ a h F' H', Mv K B ρ σ F H r.2 F' H' → F' a = none → H a = none → H' a = some h → Ro K F' a h r.1 → Q (.ref a) H') (fun _ => False)
def liftXI (K : PySem.W.Frag) (f : Rho → Res (List D × Rho)) : TI := fun σ H R => ∃ B F ρ, Rel K B ρ σ F H ∧
  (f ρ).all (fun r => ∀ J F' H', Mv K B ρ σ F H r.2 F' H' → Feed K F' J r.1 → R J H') (fun _ => False)
inductive Ag where
  | v (d : D) | o (j : Nat)
inductive Agr (K : PySem.W.Frag) (F : Hp) (σ : St) : List V → List Ag → Prop
  | nil : Agr K F σ [] []
  | v {x : V} {d : D} {xs : List V} {as : List Ag} : Rp K F x d → Agr K F σ xs as → Agr K F σ (x :: xs) (.v d :: as)
  | o {x : V} {j : Nat} {xs : List V} {as : List Ag} : σ[j]? = some (some x) → Agr K F σ xs as → Agr K F σ (x :: xs) (.o j :: as)
def liftXA (K : PySem.W.Frag) (f : Rho → Res (List Ag × Rho)) : TA := fun σ H Q => ∃ B F ρ, Rel K B ρ σ F H ∧
  (f ρ).all (fun r => ∀ vs F' H', Mv K B ρ σ F H r.2 F' H' → Agr K F' σ vs r.1 → Q vs H') (fun _ => False)
structure DX (X : Cx) (e : Expr) (f : Rho → Res (D × Rho)) : Prop where
  out : PE X e (liftX X.K f)
structure DXN (X : Cx) (e : Expr) (f : Rho → Res (OD × Rho)) : Prop where
  out : PE X e (liftXN X.K f)
structure DXI (X : Cx) (tg iter : Expr) (f : Rho → Res (List D × Rho)) : Prop where
  out : PI X tg iter (liftXI X.K f)
structure DXA (X : Cx) (es : List Expr) (f : Rho → Res (List Ag × Rho)) : Prop where
  out : PA X es (liftXA X.K f)
  ns : es.all notStar = true
section
variable {K : PySem.W.Frag} {B : Hp × Hp} {ρ ρ2 : Rho} {σ : St} {F H F' H' F2 H2 : Hp}
theorem seqX {α : Type} {fa : Rho → Res (D × Rho)} {g : D × Rho → Res α} {P : α → Prop} {T : VK} (R : Rel K B ρ σ F H) (h : ((fa ρ).bind g).all P (fun _ => False))
    (k : ∀ r v F' H', Mv K B ρ σ F H r.2 F' H' → Rp K F' v r.1 → (g r).all P (fun _ => False) → T v H') : liftX K fa σ H T :=
  ⟨B, F, ρ, R, Res.all_mono (Res.all_bind.mp h) (fun r h' v F' H' m p => k r v F' H' m p h') (fun _ e => e)⟩
theorem seqXA {α : Type} {fa : Rho → Res (List Ag × Rho)} {g : List Ag × Rho → Res α} {P : α → Prop} {T : List V → Hp → Prop} (R : Rel K B ρ σ F H) (h : ((fa ρ).bind g).all P (fun _ => False))
    (k : ∀ r v F' H', Mv K B ρ σ F H r.2 F' H' → Agr K F' σ v r.1 → (g r).all P (fun _ => False) → T v H') : liftXA K fa σ H T :=
  ⟨B, F, ρ, R, Res.all_mono (Res.all_bind.mp h) (fun r h' v F' H' m p => k r v F' H' m p h') (fun _ e => e)⟩
theorem doneX {r : Res D} {Q : VK} (m : Mv K B ρ σ F H ρ2 F2 H2) (h : ((noE r).bind fun d => .ok (d, ρ2)).all (fun r : D × Rho => ∀ v F' H', Mv K B ρ σ F H r.2 F' H' → Rp K F' v r.1 → Q v H') (fun _ => False)) :
    r.all (fun d => ∀ v F' H', Stp F2 H2 F' H' → Rp K F' v d → Q v H') (fun _ => False) := by
  cases r with
  | ok d => exact fun v F' H' s p => h v F' H' (m.step s) p
  | err x => exact h
  | bad => exact h
end
section
variable {X : Cx} {xq : XQ} {a b c e : Expr} {es : List Expr} {fa fb fx : Rho → Res (D × Rho)} {fe : Rho → Res D} {fs : Rho → Res (List Ag × Rho)} {pos pos' p apos cpos : Pos} {x : Str}
theorem DX.of {t : TE} (h : PE X e t) (k : ∀ B F ρ σ H Q, Rel X.K B ρ σ F H → (fx ρ).all (fun r => ∀ v F' H', Mv X.K B ρ σ F H r.2 F' H' → Rp X.K F' v r.1 → Q v H') (fun _ => False) → t σ H Q) : DX X e fx :=
  ⟨fun pins s σ H Q I z9 => un5 z9 fun B F ρ R q => h pins s σ H Q I (k B F ρ σ H Q R q)⟩
theorem x_pure (h : DE X xqF e fe) : DX X e (fun ρ => (noE (fe ρ)).bind fun d => .ok (d, ρ)) :=
  DX.of h.out fun B F ρ σ H Q R q => ⟨B, F, ρ, R, noE_all (Res.all_mono (Res.all_bind.mp q) (fun d q v F' H' s p => q v F' H' (Mv.of R s) p) fun _ z => z)⟩
theorem x_op {op : Operator} {g : D → D → Res D} (ho : OpR X (binaryOp op) (rD X.K g)) (ha : DX X a fa) (hb : DX X b fb) : DX X (.BinOp a op b pos) (fun ρ => (fa ρ).bind fun x => (fb x.2).bind fun y => (noE (g x.1 y.1)).bind fun d => .ok (d, y.2)) :=
  DX.of (pe_op ho ha.out hb.out) fun B F ρ σ H Q R q => seqX R q fun x v F1 H1 m1 p1 q1 => seqX m1.rel q1 fun y v2 F2 H2 m2 p2 q2 =>
    ⟨F2, x.1, y.1, m2.rel.fh, p1.same m2.ff, p2, doneX (m1.trans m2) q2⟩
theorem x_ixX {g : D → D → Res D} (ho : IxR X (rD X.K g)) (ha : DX X a fa) (hb : DX X b fb) (hs : PlainIx b := by intro _ _; rfl) : DX X (.Subscript a b pos) (fun ρ => (fa ρ).bind fun x => (fb x.2).bind fun y => (noE (g x.1 y.1)).bind fun d => .ok (d, y.2)) :=
  DX.of (pe_ix ho ha.out hb.out hs) fun B F ρ σ H Q R q => seqX R q fun x v F1 H1 m1 p1 q1 => seqX m1.rel q1 fun y v2 F2 H2 m2 p2 q2 =>
    ⟨F2, x.1, y.1, m2.rel.fh, p1.same m2.ff, p2, doneX (m1.trans m2) q2⟩
theorem xa_nil : DXA X [] (fun ρ => .ok ([], ρ)) := ⟨fun pos pins s σ H Q I z9 => un5 z9 fun B F ρ R q => pa_nil pos pins s σ H Q I (q [] F H (Mv.refl R) .nil), rfl⟩
theorem xa_cons (ha : DX X e fx) (hr : DXA X es fs) (hs : notStar e = true := by rfl) : DXA X (e :: es) (fun ρ => (fx ρ).bind fun d => (fs d.2).bind fun r => .ok (.v d.1 :: r.1, r.2)) :=
  ⟨fun pos pins s σ H Q I z9 => un5 z9 fun B F ρ R q => pac ha.out hr.out hs pos pins s σ H Q I (seqX R q fun d v F1 H1 m1 p1 q1 => seqXA m1.rel q1 fun r vs F2 H2 m2 p2 q2 =>
    q2 (v :: vs) F2 H2 (m1.trans m2) (.v (p1.same m2.ff) p2)), by rw [List.all_cons, hs, hr.ns]; rfl⟩
def isOwnR (ρ : Rho) (j : Nat) : Bool := match ρ[j]? with
  | some (some (.own _)) => true
  | _ => false
theorem isOwnR_ok {ρ : Rho} {j : Nat} (h : isOwnR ρ j = true) : ∃ o, ρ[j]? = some (some (.own o)) := by
  unfold isOwnR at h
  split at h
  · rename_i o e; exact ⟨o, e⟩
  · cases h
theorem xa_own (j : Nat) (hr : DXA X es fs) (hN : X.N[j]? = some x := by rfl) (hv : Vis X.env.scope x := by first | exact Or.inl rfl | exact Or.inr (Or.inl rfl) | exact Or.inr (Or.inr rfl)) (hd : (x == ("__debug__" : Str)) = false := by decide)
    (hcd : (x == ("__classdict__" : Str)) = false := by decide) : DXA X (.Name x pos :: es) (fun ρ => if isOwnR ρ j = true then (fs ρ).bind fun r => .ok (.o j :: r.1, r.2) else .bad) :=
  ⟨fun pos pins s σ H Q I z9 => un5 z9 fun B F ρ R q => pac (pe_var hN hv hd hcd) hr.out rfl pos pins s σ H Q I (by
    dsimp only at q
    by_cases w : isOwnR ρ j = true
    · rw [if_pos w] at q
      obtain ⟨o, e⟩ := isOwnR_ok w
      obtain ⟨a, h, p1, p2⟩ := R.own j o e
      exact ⟨.ref a, p1, seqXA R q fun r vs F2 H2 m2 g2 q2 => q2 (.ref a :: vs) F2 H2 m2 (.o p1 g2)⟩
    · rw [if_neg w] at q; exact q.elim), by rw [List.all_cons, hr.ns]; rfl⟩
def agv : List Ag → Res (List D)
  | [] => .ok []
  | .v d :: as => (agv as).bind fun ds => .ok (d :: ds)
  | _ => .bad
theorem agv_rps {K : PySem.W.Frag} {F : Hp} {σ : St} : ∀ {vs : List V} {as : List Ag} {ds : List D}, Agr K F σ vs as → agv as = .ok ds → Rps K F vs ds
  | _, _, _, .nil, e => by cases e; exact .nil
  | _, _, _, .v (as := as) h hs, e => by
    rw [agv] at e
    cases q : agv as with
    | ok es => rw [q] at e; cases e; exact .cons h (agv_rps hs q)
    | err x => rw [q] at e; cases e
    | bad => rw [q] at e; cases e
  | _, _, _, .o _ _, e => by cases e
theorem xi_range1 (hm : X.mg "range" = none) (ha : DXA X [a] fs) (hg : Gl X "range" := by rfl) {tg : Expr} : DXI X tg (.Call (.Name "range" p) [a] [] pos) (fun ρ => (fs ρ).bind fun r => (noE (agv r.1)).bind fun ds => (noE (rng1 ds)).bind fun l => .ok (l, r.2)) :=
  ⟨fun pins s σ H R I z9 => un5 z9 fun B F ρ R' q => pi_range1 hg hm ha.out (star_cons (all_head ha.ns).1) pins s σ H R I (seqXA R' q fun r vs F1 H1 m1 p1 q1 => by
    cases w : agv r.1 with
    | err x => rw [w] at q1; exact q1.elim
    | bad => rw [w] at q1; exact q1.elim
    | ok ds =>
      rw [w] at q1
      replace q1 : ((noE (rng1 ds)).bind _).all _ _ := q1
      have p2 := agv_rps p1 w
      unfold rng1 at q1
      split at q1
      · rename_i j
        by_cases c : -(2 ^ 62) ≤ j ∧ j < 2 ^ 62
        · rw [gd_pos c] at q1
          obtain ⟨v, rfl, pv⟩ := rps1 p2
          cases pv
          exact ⟨j, rfl, c.1, c.2, q1 _ F1 H1 m1 (Feed.rng 0 _)⟩
        · unfold gd at q1; rw [if_neg c] at q1; exact q1.elim
      · exact q1.elim)⟩
end
end L2

namespace L2
open PySem PySem.Spec PyProof.Rows
def backC (k : Nat) : List Nat → Rho → Rho → Rho
  | [], _, ρ => ρ
  | j :: js, ρ1, ρ => backC (k + 1) js ρ1 (match ρ1[k]? with
    | some (some (.own o)) => ρ.set j (some (.own o))
    | _ => ρ)
theorem backC_out {ρ1 : Rho} {j : Nat} : ∀ {outs : List Nat} {k : Nat} {ρ : Rho}, j ∉ outs → (backC k outs ρ1 ρ)[j]? = ρ[j]?
  | [], _, _, _ => rfl
  | i :: js, k, ρ, h => by
    rw [backC, backC_out (fun m => h (List.mem_cons_of_mem _ m))]
    split
    · exact set_off fun e => h (by simp [e])
    · rfl
theorem backC_in {ρ1 : Rho} {j : Nat} {o : OD} : ∀ {outs : List Nat} {t k : Nat} {ρ : Rho}, outs.Nodup → outs[t]? = some j → j < ρ.length → ρ1[k + t]? = some (some (.own o)) → (backC k outs ρ1 ρ)[j]? = some (some (.own o))
  | [], _, _, _, _, h, _, _ => by cases h
  | i :: js, 0, k, ρ, nd, h, hj, e => by
    cases h
    have e : ρ1[k]? = some (some (.own o)) := e
    rw [backC, e, backC_out (List.nodup_cons.mp nd).1]
    exact set_at hj
  | i :: js, t + 1, k, ρ, nd, h, hj, e => by
    rw [backC]
    refine backC_in (List.nodup_cons.mp nd).2 (t := t) (by simpa using h) ?_ (by rw [Nat.add_assoc, Nat.add_comm 1 t]; exact e)
    split
    · simpa using hj
    · exact hj
theorem backC_keep {ρ1 : Rho} {j : Nat} : ∀ {outs : List Nat} {t k : Nat} {ρ : Rho}, outs.Nodup → outs[t]? = some j → (∀ o, ρ1[k + t]? ≠ some (some (.own o))) → (backC k outs ρ1 ρ)[j]? = ρ[j]?
  | [], _, _, _, _, h, _ => by cases h
  | i :: js, 0, k, ρ, nd, h, e => by
    cases h
    rw [backC, backC_out (List.nodup_cons.mp nd).1]
    split
    · rename_i o q; exact absurd q (e o)
    · rfl
  | i :: js, t + 1, k, ρ, nd, h, e => by
    have hij : j ≠ i := fun z => (List.nodup_cons.mp nd).1 (by subst z; exact List.mem_of_getElem? (by simpa using h))
    rw [backC, backC_keep (List.nodup_cons.mp nd).2 (t := t) (by simpa using h) (fun o => by rw [Nat.add_assoc, Nat.add_comm 1 t]; exact e o)]
    split
    · exact set_off hij
    · rfl
theorem backC_len {ρ1 : Rho} : ∀ {outs : List Nat} {k : Nat} {ρ : Rho}, (backC k outs ρ1 ρ).length = ρ.length
  | [], _, _ => rfl
  | i :: js, k, ρ => by
    rw [backC, backC_len]
    split <;> simp
section
variable {K : PySem.W.Frag} {B : Hp × Hp} {ρ ρ1 : Rho} {σ σ2 : St} {F H F' H' : Hp} {k i : Nat} {outs : List Nat} {d : D}
theorem rhoC_own (hi : i < k) {x : Nat} {o : OD} (e : ((rhoC k outs ρ).set i (some (.val d)))[x]? = some (some (.own o))) : k ≤ x ∧ ∃ j, outs[x - k]? = some j ∧ ρ[j]? = some (some (.own o)) := by
  rcases get_set e with ⟨_, _, z⟩ | ⟨_, z⟩
  · cases z
  · exact getC z
theorem rhoC_at (hi : i < k) {t j : Nat} (h : outs[t]? = some j) : ((rhoC k outs ρ).set i (some (.val d)))[k + t]? = some ((ρ[j]?).join) := by
  rw [set_off (by omega)]
  unfold rhoC
  exact atC (Nat.le_add_right k t) (by rw [Nat.add_sub_cancel_left]; exact h)
theorem join_own {x : Option (Option Sl)} {o : OD} (h : x.join = some (.own o)) : x = some (some (.own o)) := by
  cases x with
  | none => cases h
  | some y => exact congrArg some h
theorem join_ref {x : Option (Option V)} {a : Addr} (h : x.join = some (.ref a)) : x = some (some (.ref a)) := by
  cases x with
  | none => cases h
  | some y => exact congrArg some h
theorem back_cases (hi : i < k) (nd : outs.Nodup) (sh : shp ρ1 = shp ((rhoC k outs ρ).set i (some (.val d)))) (j : Nat) :
    (j ∉ outs ∧ (backC k outs ρ1 ρ)[j]? = ρ[j]?) ∨ (∃ t, outs[t]? = some j ∧ (∃ o o', ρ[j]? = some (some (.own o)) ∧ ρ1[k + t]? = some (some (.own o')) ∧ (backC k outs ρ1 ρ)[j]? = some (some (.own o')))) ∨ ((∀ o, ρ[j]? ≠ some (some (.own o))) ∧ (backC k outs ρ1 ρ)[j]? = ρ[j]?) := by
  by_cases m : j ∈ outs
  · obtain ⟨t, ht, e⟩ := List.mem_iff_getElem.mp m
    have e : outs[t]? = some j := by rw [← e]; simp [ht]
    right
    by_cases q : ∃ o, ρ[j]? = some (some (.own o))
    · obtain ⟨o, q⟩ := q
      left
      have z : ((rhoC k outs ρ).set i (some (.val d)))[k + t]? = some (some (.own o)) := by rw [rhoC_at hi e, q]; rfl
      obtain ⟨o', z'⟩ := shp_own sh z
      exact ⟨t, e, o, o', q, z', backC_in nd e (List.getElem?_eq_some_iff.mp q).1 z'⟩
    · right
      have q : ∀ o, ρ[j]? ≠ some (some (.own o)) := fun o z => q ⟨o, z⟩
      refine ⟨q, backC_keep nd e fun o z => ?_⟩
      obtain ⟨o', z'⟩ := shp_own sh.symm z
      rw [rhoC_at hi e] at z'
      exact q o' (join_own (Option.some.inj z'))
  · exact .inl ⟨m, backC_out m⟩
theorem back_own (hi : i < k) (nd : outs.Nodup) (sh : shp ρ1 = shp ((rhoC k outs ρ).set i (some (.val d)))) {j : Nat} {o' : OD} (e : (backC k outs ρ1 ρ)[j]? = some (some (.own o'))) : ∃ o, ρ[j]? = some (some (.own o)) := by
  rcases back_cases hi nd sh j with ⟨_, q⟩ | ⟨t, _, o, o', q, _⟩ | ⟨_, q⟩
  · rw [q] at e; exact ⟨o', e⟩
  · exact ⟨o, q⟩
  · rw [q] at e; exact ⟨o', e⟩
theorem back_val (hi : i < k) (nd : outs.Nodup) (sh : shp ρ1 = shp ((rhoC k outs ρ).set i (some (.val d)))) {j : Nat} {u : D} (e : (backC k outs ρ1 ρ)[j]? = some (some (.val u))) : ρ[j]? = some (some (.val u)) := by
  rcases back_cases hi nd sh j with ⟨_, q⟩ | ⟨t, _, o, o', _, _, q⟩ | ⟨_, q⟩
  · rw [q] at e; exact e
  · rw [q] at e; cases e
  · rw [q] at e; exact e
theorem back_sh (hi : i < k) (nd : outs.Nodup) (sh : shp ρ1 = shp ((rhoC k outs ρ).set i (some (.val d)))) : shp (backC k outs ρ1 ρ) = shp ρ := by
  apply List.ext_getElem?
  intro j
  rw [shp_get, shp_get]
  rcases back_cases hi nd sh j with ⟨_, q⟩ | ⟨t, _, o, o', q1, _, q⟩ | ⟨_, q⟩
  · rw [q]
  · rw [q, q1]; rfl
  · rw [q]
theorem Mv.back (R : Rel K B ρ σ F H) (nd : outs.Nodup) (hi : i < k) (hσ : ∀ t j, outs[t]? = some j → σ2[k + t]? = some ((σ[j]?).join)) (m : Mv K B ((rhoC k outs ρ).set i (some (.val d))) σ2 F H ρ1 F' H') : Mv K B ρ σ F H (backC k outs ρ1 ρ) F' H' := by
  have nw : ∀ {b : Addr}, (∀ (j : Nat) o, j ∈ outs → ρ[j]? = some (some (.own o)) → σ[j]? ≠ some (some (.ref b))) → NotOwn ((rhoC k outs ρ).set i (some (.val d))) σ2 b := fun n x o e z => by
    obtain ⟨hx, j, h1, h2⟩ := rhoC_own hi e
    have := hσ (x - k) j h1
    rw [Nat.add_sub_cancel' hx, z] at this
    exact n j o (List.mem_of_getElem? h1) h2 (join_ref (Option.some.inj this).symm)
  refine ⟨⟨m.rel.st, by rw [backC_len]; exact R.len, fun j u e => ?_, fun j o e => ?_, fun j j' o u a e e' => ?_⟩, back_sh hi nd m.sh, m.ff, fun b o n e => m.hh b o (nw fun j o _ e => n j o e) e, m.no⟩
  · obtain ⟨v, p1, p2⟩ := R.val j u (back_val hi nd m.sh e)
    exact ⟨v, p1, p2.same m.ff⟩
  · rcases back_cases hi nd m.sh j with ⟨hj, q⟩ | ⟨t, ht, o1, o2, q1, q2, q⟩ | ⟨hj, q⟩
    · rw [q] at e
      obtain ⟨a, h, p1, p2, p3, p4, p5⟩ := R.own j o e
      refine ⟨a, h, p1, m.no a p2 (by rw [p4]; simp), p3, m.hh a h (nw fun j' o' mj e' z => ?_) p4, Ro.same m.ff p5⟩
      have := R.dis j j' o o' a e e' p1 z
      exact hj (this ▸ mj)
    · rw [q] at e; cases e
      obtain ⟨a, h, p1, p2⟩ := m.rel.own (k + t) o q2
      have := hσ t j ht
      rw [p1] at this
      exact ⟨a, h, join_ref (Option.some.inj this).symm, p2⟩
    · rw [q] at e; exact absurd e (hj o)
  · obtain ⟨o1, e1⟩ := back_own hi nd m.sh e
    obtain ⟨o2, e2⟩ := back_own hi nd m.sh e'
    exact R.dis j j' o1 o2 a e1 e2
end
def compX (k : Nat) (outs : List Nat) (i : Nat) (fe : Rho → Res (D × Rho)) : List D → Rho → Res (List D × Rho)
  | [], ρ => .ok ([], ρ)
  | d :: ds, ρ => (fe ((rhoC k outs ρ).set i (some (.val d)))).bind fun y => (compX k outs i fe ds (backC k outs y.2 ρ)).bind fun r => .ok (y.1 :: r.1, r.2)
section
variable {X : Cx} {xq : XQ} {tg iter elt : Expr} {fe : Rho → Res (D × Rho)} {fi : Rho → Res (List D × Rho)} {scope : Scope} {pos : Pos}
theorem comp_readX {K : PySem.W.Frag} {k i0 : Nat} {outs : List Nat} (nd : outs.Nodup) (hi0 : i0 < k) {σ : St} {H : Hp} {Q : VK} (h : liftXN K (fun ρ => (fi ρ).bind fun l => gd (l.1.length ≤ sizeLine) ((compX k outs i0 fe l.1 l.2).bind fun r => .ok (.l r.1, r.2))) σ H Q) :
    tComp k outs (liftXI K fi) (liftG K [i0] (fun d ρ => .ok (ρ.set i0 (some (.val d))))) (liftT K xqF (fun _ => .ok true)) (liftX K fe) σ H Q := by
  obtain ⟨B, F, ρ, R, q⟩ := h
  refine ⟨B, F, ρ, R, Res.all_mono (Res.all_bind.mp q) (fun l q1 J F0 H0 m0 fd => ?_) fun _ z => z⟩
  obtain ⟨ds, ρ0⟩ := l
  obtain ⟨hz, q1⟩ := gd_ok q1
  let T : List D → Rho → Prop := fun ys ρ' => ∀ a h F' H', Mv K B ρ σ F H ρ' F' H' → F' a = none → H a = none → H' a = some h → Ro K F' a h (.l ys) → Q (.ref a) H'
  have q2 : (compX k outs i0 fe ds ρ0).all (fun r => T r.1 r.2) (fun _ => False) := Res.all_mono (Res.all_bind.mp q1) (fun _ z => z) fun _ z => z
  clear q1
  have hz : ds.length ≤ sizeLine := hz
  refine ⟨fun i m ys H' => m = ds.length - i ∧ i ≤ ds.length ∧ ∃ ρ' F' es, Mv K B ρ σ F H ρ' F' H' ∧ Same F0 F' ∧ Rps K F' ys es ∧ es.length = i ∧ (compX k outs i0 fe (ds.drop i) ρ').all (fun r => T (es ++ r.1) r.2) (fun _ => False),
    ⟨ds.length, rfl, Nat.zero_le _, ρ0, F0, [], m0, Same.refl _, .nil, rfl, q2⟩, ?_⟩
  rintro i m ys H' ⟨rfl, hi', ρ', F', es, mv, e0, rs, hl, q3⟩
  refine ⟨by rw [rs.length]; omega, ?_⟩
  by_cases hlt : i < ds.length
  · right
    refine ⟨fd.go i H' (e0.trans mv.rel.fh) hlt, fun ys' H2 => i + 1 ≤ ds.length ∧ ∃ ρ2 F2 es', Mv K B ρ σ F H ρ2 F2 H2 ∧ Same F0 F2 ∧ Rps K F2 ys' es' ∧ es'.length = i + 1 ∧ (compX k outs i0 fe (ds.drop (i + 1)) ρ2).all (fun r => T (es' ++ r.1) r.2) (fun _ => False),
      fun ys' H2 p => ⟨ds.length - (i + 1), by omega, rfl, p.1, p.2⟩, fun x H2 y => ?_⟩
    have hd : ds[i]? = some ds[i] := by simp [hlt]
    obtain ⟨F2, s2, p2⟩ := fd.yld i F' H' x H2 _ e0 mv.rel.fh hd y
    rw [List.drop_eq_getElem_cons hlt] at q3
    have mv2 := mv.step s2
    have R2 : Rel K B (rhoC k outs ρ') (stC k outs σ) F2 H2 := mv2.rel.comp nd
    have q4 := Res.all_bind.mp (show ((fe ((rhoC k outs ρ').set i0 (some (.val ds[i])))).bind _).all _ _ from q3)
    refine ⟨B, F2, _, _, R2, p2, fun σ3 R3 l3 k3 => ⟨?_, ?_⟩⟩
    · apply List.ext_getElem?
      intro j
      rw [List.getElem?_drop, k3 (k + j) fun z => by simp at z; omega]
      unfold stC
      rw [List.getElem?_append_right (by simp), List.length_replicate, Nat.add_sub_cancel_left]
    · refine ⟨B, F2, _, R3, fun H3 s3 => ?_⟩
      have R4 := R3.step s3
      have mv3 := mv2.step s3
      refine ⟨B, F2, _, R4, Res.all_mono q4 (fun y q7 v F4 H4 m4 p4 => ?_) fun _ z => z⟩
      have mb : Mv K B ρ' σ F2 H3 (backC k outs y.2 ρ') F4 H4 := Mv.back mv3.rel nd hi0 (fun t j ht => by
        rw [k3 (k + t) fun z => by simp at z; omega]
        unfold stC
        exact atC (Nat.le_add_right k t) (by rw [Nat.add_sub_cancel_left]; exact ht)) m4
      refine ⟨hlt, _, F4, es ++ [y.1], mv3.trans mb, (e0.trans s2.ff).trans m4.ff, ((rs.same s2.ff).same m4.ff).append (.cons p4 .nil), by simp [hl], ?_⟩
      exact Res.all_mono (Res.all_bind.mp q7) (fun r z => by
        have z' : T (es ++ y.1 :: r.1) r.2 := z
        simpa using z') fun _ z => z
  · left
    have e : i = ds.length := by omega
    subst e
    rw [List.drop_length] at q3
    have q4 : T es ρ' := by simpa using (show T (es ++ []) ρ' from q3)
    exact ⟨fd.stop _ H' (e0.trans mv.rel.fh) (Nat.le_refl _), fun p n => q4 p _ F' _ (mv.step (Stp.only mv.rel.fh (same_upd_none n))) (mv.rel.fh.free n) (mv.free n) upd_same (.l rs)⟩
theorem xn_comp (own : List Str) (outs : List Nat) {i : Nat} (hc : X.calm = true) (ok : CompOk X.env.scope X.N own outs scope) (hi : DXI X tg iter fi) (hg : ∀ {cl C s H fp}, DG (cxC X own outs scope cl C s H fp) tg [i] (fun d ρ => .ok (ρ.set i (some (.val d))))) (he : ∀ {cl C s H fp}, DX (cxC X own outs scope cl C s H fp) elt fe)
    (nd : outs.Nodup := by decide) (hix : i < own.length := by decide) (hs : ∀ x, foldedSetIterable iter X.env x = pure x := by intro _; rfl) :
    DXN X (.ListComp elt [⟨tg, iter, [], 0⟩] scope pos) (fun ρ => (fi ρ).bind fun l => gd (l.1.length ≤ sizeLine) ((compX own.length outs i fe l.1 l.2).bind fun r => .ok (.l r.1, r.2))) :=
  ⟨fun pins s σ H Q I h => pe_comp own outs hc ok hi.out (g := liftG X.K [i] (fun d ρ => .ok (ρ.set i (some (.val d))))) (ti := liftT X.K xqF (fun _ => .ok true)) (te := liftX X.K fe) (fun {cl C s H fp} => hg.out) (fun {cl C s H fp} => df_nil.out) (fun {cl C s H fp} => he.out) hs pins s σ H Q I (comp_readX nd hix h)⟩
theorem Mv.keep {K : PySem.W.Frag} {B : Hp × Hp} {ρ ρ1 : Rho} {σ : St} {F H F' H' : Hp} {a : Addr} {hh : HO} (R : Rel K B ρ σ F H) (m : Mv K B ρ σ F H ρ1 F' H') (n1 : F' a = none) (n2 : H a = none) (e1 : H' a = some hh) : Mv K B ρ σ F H ρ1 (upd F' a hh) H' := by
  have sf : Same F' (upd F' a hh) := same_upd_none n1
  have un : ∀ {b : Addr}, b ≠ a → F' b = none → upd F' a hh b = none := fun z n => by unfold upd; rw [if_neg z]; exact n
  refine ⟨⟨⟨m.rel.st.ff.trans sf, fun b u x => ?_, m.rel.st.hh, fun b x y => un (fun z => ?_) (m.rel.st.no b x y)⟩, m.rel.len, fun j d e => ?_, fun j o e => ?_, m.rel.dis⟩, m.sh, m.ff.trans sf, m.hh, fun b n e => un (fun z => e (z ▸ n2)) (m.no b n e)⟩
  · unfold upd at x
    by_cases z : b = a
    · rw [if_pos z] at x; cases x; subst z; exact e1
    · rw [if_neg z] at x; exact m.rel.st.fh b u x
  · subst z; exact y (R.st.hh.free n2)
  · obtain ⟨v, p1, p2⟩ := m.rel.val j d e; exact ⟨v, p1, p2.same sf⟩
  · obtain ⟨b, h, p1, p2, p3, p4, p5⟩ := m.rel.own j o e
    obtain ⟨o', e'⟩ := shp_own m.sh.symm e
    obtain ⟨c, h', g1, g2, g3, g4, g5⟩ := R.own j o' e'
    rw [p1] at g1; cases g1
    exact ⟨b, h, p1, un (fun z => by subst z; rw [n2] at g4; cases g4) p2, p3, p4, Ro.same sf p5⟩
theorem DXN.de {e : Expr} {f : Rho → Res (OD × Rho)} (h : DXN X e f) : DX X e (fun ρ => (f ρ).bind fun r => .ok (r.1.toD, r.2)) :=
  DX.of h.out fun B F ρ σ H Q R q => ⟨B, F, ρ, R, Res.all_mono (Res.all_bind.mp q) (fun r q1 a hh F' H' m n1 n2 e1 r1 => q1 _ _ _ (m.keep R n1 n2 e1) ((Ro.same (same_upd_none n1) r1).rp upd_same)) fun _ z => z⟩
theorem dsx_comp {x : Str} {i j : Nat} {py spos : Pos} (own : List Str) (outs : List Nat) (hc : X.calm = true) (ok : CompOk X.env.scope X.N own outs scope) (hN : X.N.Nodup) (hi : DXI X tg iter fi) (hg : ∀ {cl C s H fp}, DG (cxC X own outs scope cl C s H fp) tg [j] (fun d ρ => .ok (ρ.set j (some (.val d))))) (he : ∀ {cl C s H fp}, DX (cxC X own outs scope cl C s H fp) elt fe)
    (nd : outs.Nodup := by decide) (hix : j < own.length := by decide) (hy : X.N.findIdx? (fun y => y == x) = some i := by rfl) (hx : X.env.scope.names.lookup x = some .local := by rfl)
    (hsw : swapsWith (.ListComp elt [⟨tg, iter, [], 0⟩] scope pos) (some (.Name x py)) spos.line X.env = pure true := by rfl) (hs : ∀ x, foldedSetIterable iter X.env x = pure x := by intro _; rfl) :
    DS X xq (.Assign [.Name x py] (.ListComp elt [⟨tg, iter, [], 0⟩] scope pos) spos) (fun ρ => (noE ((fi ρ).bind fun l => gd (l.1.length ≤ sizeLine) ((compX own.length outs j fe l.1 l.2).bind fun r => .ok (OD.l r.1, r.2)))).go ρ fun r => .nx (r.2.set i (some (.own r.1)))) :=
  DS.of (ps_setcomp own outs hc ok hN (slot_of hy) hx hi.out (g := liftG X.K [j] (fun d ρ => .ok (ρ.set j (some (.val d))))) (ti := liftT X.K xqF (fun _ => .ok true)) (te := liftX X.K fe) (fun {cl C s H fp} => hg.out) (fun {cl C s H fp} => df_nil.out) (fun {cl C s H fp} => he.out) hsw hs) fun B F ρ σ H T R q =>
    comp_readX nd hix ⟨B, F, ρ, R, noE_all (Res.all_mono (go_all q.out) (fun r q a h F' H' m n1 n2 e1 r1 => q _ F' H' (m.rel.setOwn n1 (R.st.hh.free n2) e1 r1 fun j u w z => by
      obtain ⟨o', w'⟩ := shp_own m.sh.symm w
      obtain ⟨b, hh, p1, p2, p3, p4, p5⟩ := R.own j o' w'
      rw [p1] at z; cases z; rw [p4] at n2; cases n2)) fun _ z => z)⟩
end
end L2

namespace L2
open PySem PySem.Spec PyProof.Rows
def spM (K : PySem.W.Frag) (g : List Sl → Res (D × List Sl)) : Sp := fun vs H Q E => ∃ (F hb : Hp) (sl : List Sl), Rel K (F, hb) (sl.map some) (vs.map some) F H ∧ (∀ b o, NotOwn (sl.map some) (vs.map some) b → H b = some o → hb b = some o) ∧
  (g sl).all (fun r => ∀ v F' H', Mv K (F, hb) (sl.map some) (vs.map some) F H (r.2.map some) F' H' → Rp K F' v r.1 → Q v H') (fun _ => False)
def unp : OD → OD
  | .p _ o => o
  | o => o
def repO (o0 o : OD) : OD := match o0 with
  | .p a _ => .p a o
  | _ => o
theorem Ro.unp {K : PySem.W.Frag} {F : Hp} {a : Addr} {h : HO} {o : OD} (r : Ro K F a h o) : Ro K F a h (L2.unp o) := by
  cases r with
  | p r => exact r
  | l r => exact .l r
  | d r => exact .d r
  | i r => exact .i r
  | n r => exact .n r
theorem Ro.rep {K : PySem.W.Frag} {F F' : Hp} {a : Addr} {h h' : HO} {o0 o : OD} (r0 : Ro K F a h' o0) (r : Ro K F' a h o) : Ro K F' a h (repO o0 o) := by
  cases r0 with
  | p _ => exact .p r
  | l _ => exact r
  | d _ => exact r
  | i _ => exact r
  | n _ => exact r
def slAll (ρ : Rho) : List Ag → Res (List Sl)
  | [] => .ok []
  | .v d :: as => (slAll ρ as).bind fun s => .ok (.val d :: s)
  | .o j :: as => match ρ[j]? with
    | some (some (.own o)) => (slAll ρ as).bind fun s => .ok (.own (unp o) :: s)
    | _ => .bad
def agO : List Ag → List Nat
  | [] => []
  | .v _ :: as => agO as
  | .o j :: as => j :: agO as
def slOf (ρ : Rho) (as : List Ag) : Res (List Sl) := gd (agO as).Nodup (slAll ρ as)
def putB : List Ag → List Sl → Rho → Rho
  | .o j :: as, .own o :: ss, ρ => putB as ss (match ρ[j]? with
    | some (some (.own o0)) => ρ.set j (some (.own (repO o0 o)))
    | _ => ρ)
  | _ :: as, _ :: ss, ρ => putB as ss ρ
  | _, _, ρ => ρ
theorem sl_val {ρ : Rho} : ∀ {as : List Ag} {sl : List Sl} {i : Nat} {d : D}, slAll ρ as = .ok sl → sl[i]? = some (.val d) → as[i]? = some (.v d)
  | [], sl, i, d, h, e => by cases h; cases e
  | .v d' :: as, sl, i, d, h, e => by
    rw [slAll] at h
    cases q : slAll ρ as with
    | ok s =>
      rw [q] at h; cases h
      cases i with
      | zero => simp at e; simp [e]
      | succ i => simpa using sl_val q (by simpa using e)
    | err x => rw [q] at h; cases h
    | bad => rw [q] at h; cases h
  | .o j :: as, sl, i, d, h, e => by
    rw [slAll] at h
    split at h
    · cases q : slAll ρ as with
      | ok s =>
        rw [q] at h; cases h
        cases i with
        | zero => simp at e
        | succ i => simpa using sl_val q (by simpa using e)
      | err x => rw [q] at h; cases h
      | bad => rw [q] at h; cases h
    · cases h
theorem sl_own {ρ : Rho} : ∀ {as : List Ag} {sl : List Sl} {i : Nat} {o : OD}, slAll ρ as = .ok sl → sl[i]? = some (.own o) → ∃ j o0, as[i]? = some (.o j) ∧ ρ[j]? = some (some (.own o0)) ∧ o = unp o0
  | [], sl, i, d, h, e => by cases h; cases e
  | .v d' :: as, sl, i, o, h, e => by
    rw [slAll] at h
    cases q : slAll ρ as with
    | ok s =>
      rw [q] at h; cases h
      cases i with
      | zero => simp at e
      | succ i => simpa using sl_own q (by simpa using e)
    | err x => rw [q] at h; cases h
    | bad => rw [q] at h; cases h
  | .o j :: as, sl, i, o, h, e => by
    rw [slAll] at h
    split at h
    · rename_i o0 e0
      cases q : slAll ρ as with
      | ok s =>
        rw [q] at h; cases h
        cases i with
        | zero => simp at e; exact ⟨j, o0, by simp, e0, e.symm⟩
        | succ i => simpa using sl_own q (by simpa using e)
      | err x => rw [q] at h; cases h
      | bad => rw [q] at h; cases h
    · cases h
theorem sl_at {ρ : Rho} : ∀ {as : List Ag} {sl : List Sl} {i j : Nat}, slAll ρ as = .ok sl → as[i]? = some (.o j) → ∃ o0, sl[i]? = some (.own (unp o0)) ∧ ρ[j]? = some (some (.own o0))
  | [], sl, i, d, h, e => by cases e
  | .v d' :: as, sl, i, j, h, e => by
    rw [slAll] at h
    cases q : slAll ρ as with
    | ok s =>
      rw [q] at h; cases h
      cases i with
      | zero => simp at e
      | succ i => simpa using sl_at q (by simpa using e)
    | err x => rw [q] at h; cases h
    | bad => rw [q] at h; cases h
  | .o j' :: as, sl, i, j, h, e => by
    rw [slAll] at h
    split at h
    · rename_i o0 e0
      cases q : slAll ρ as with
      | ok s =>
        rw [q] at h; cases h
        cases i with
        | zero => simp at e; subst e; exact ⟨o0, by simp, e0⟩
        | succ i => simpa using sl_at q (by simpa using e)
      | err x => rw [q] at h; cases h
      | bad => rw [q] at h; cases h
    · cases h
theorem sl_len {ρ : Rho} : ∀ {as : List Ag} {sl : List Sl}, slAll ρ as = .ok sl → sl.length = as.length
  | [], sl, h => by cases h; rfl
  | .v d' :: as, sl, h => by
    rw [slAll] at h
    cases q : slAll ρ as with
    | ok s => rw [q] at h; cases h; simp [sl_len q]
    | err x => rw [q] at h; cases h
    | bad => rw [q] at h; cases h
  | .o j :: as, sl, h => by
    rw [slAll] at h
    split at h
    · cases q : slAll ρ as with
      | ok s => rw [q] at h; cases h; simp [sl_len q]
      | err x => rw [q] at h; cases h
      | bad => rw [q] at h; cases h
    · cases h
theorem agO_mem : ∀ {as : List Ag} {j : Nat}, j ∈ agO as ↔ Ag.o j ∈ as
  | [], j => by simp [agO]
  | .v d :: as, j => by simp [agO, agO_mem (as := as)]
  | .o i :: as, j => by simp [agO, agO_mem (as := as)]
theorem agO_inj : ∀ {as : List Ag} {i i' j : Nat}, (agO as).Nodup → as[i]? = some (Ag.o j) → as[i']? = some (Ag.o j) → i = i'
  | [], _, _, _, _, e, _ => by cases e
  | .v d :: as, i, i', j, n, e, e' => by
    cases i with
    | zero => simp at e
    | succ i =>
      cases i' with
      | zero => simp at e'
      | succ i' => exact congrArg (· + 1) (agO_inj (as := as) n (by simpa using e) (by simpa using e'))
  | .o k :: as, i, i', j, n, e, e' => by
    have n := List.nodup_cons.mp n
    have nm : ∀ t, as[t]? = some (Ag.o j) → j ≠ k := fun t h z => n.1 (by subst z; exact agO_mem.mpr (List.mem_of_getElem? h))
    cases i with
    | zero =>
      simp at e
      cases i' with
      | zero => rfl
      | succ i' => exact absurd e.symm (nm i' (by simpa using e'))
    | succ i =>
      cases i' with
      | zero => simp at e'; exact absurd e'.symm (nm i (by simpa using e))
      | succ i' => exact congrArg (· + 1) (agO_inj (as := as) n.2 (by simpa using e) (by simpa using e'))
theorem putB_out {j : Nat} : ∀ {as : List Ag} {ss : List Sl} {ρ : Rho}, Ag.o j ∉ as → (putB as ss ρ)[j]? = ρ[j]?
  | [], _, _, _ => by simp [putB]
  | _ :: _, [], _, _ => by simp [putB]
  | .v d :: as, s :: ss, ρ, h => by rw [putB]; exact putB_out (fun m => h (List.mem_cons_of_mem _ m)); exact fun _ _ e => by cases e
  | .o i :: as, .val d :: ss, ρ, h => by rw [putB]; exact putB_out (fun m => h (List.mem_cons_of_mem _ m)); exact fun _ _ _ e => by cases e
  | .o i :: as, .own o :: ss, ρ, h => by
    rw [putB, putB_out (fun m => h (List.mem_cons_of_mem _ m))]
    split
    · exact set_off fun e => h (by simp [e])
    · rfl
theorem putB_in {j : Nat} {o o0 : OD} : ∀ {as : List Ag} {ss : List Sl} {ρ : Rho} {i : Nat}, (agO as).Nodup → as[i]? = some (Ag.o j) → ss[i]? = some (.own o) → ρ[j]? = some (some (.own o0)) → (putB as ss ρ)[j]? = some (some (.own (repO o0 o)))
  | [], _, _, _, _, e, _, _ => by cases e
  | _ :: _, [], _, _, _, _, e, _ => by cases e
  | .v d :: as, s :: ss, ρ, i, n, e, e', q => by
    cases i with
    | zero => simp at e
    | succ i => rw [putB]; exact putB_in (as := as) n (by simpa using e) (by simpa using e') q; exact fun _ _ e => by cases e
  | .o k :: as, .val d :: ss, ρ, i, n, e, e', q => by
    have n := List.nodup_cons.mp n
    cases i with
    | zero => simp at e'
    | succ i => rw [putB]; exact putB_in (as := as) n.2 (by simpa using e) (by simpa using e') q; exact fun _ _ _ e => by cases e
  | .o k :: as, .own u :: ss, ρ, i, n, e, e', q => by
    have n := List.nodup_cons.mp n
    cases i with
    | zero =>
      simp at e e'
      subst e e'
      rw [putB, putB_out (fun m => n.1 (agO_mem.mpr m)), q]
      exact set_at (List.getElem?_eq_some_iff.mp q).1
    | succ i =>
      have hk : j ≠ k := fun z => n.1 (by subst z; exact agO_mem.mpr (List.mem_of_getElem? (by simpa using e)))
      rw [putB]
      refine putB_in (as := as) n.2 (by simpa using e) (by simpa using e') ?_
      split
      · rw [set_off hk]; exact q
      · exact q
theorem putB_len : ∀ {as : List Ag} {ss : List Sl} {ρ : Rho}, (putB as ss ρ).length = ρ.length
  | [], _, _ => by simp [putB]
  | _ :: _, [], _ => by simp [putB]
  | .v d :: as, s :: ss, ρ => by rw [putB]; exact putB_len; exact fun _ _ e => by cases e
  | .o i :: as, .val d :: ss, ρ => by rw [putB]; exact putB_len; exact fun _ _ _ e => by cases e
  | .o i :: as, .own o :: ss, ρ => by
    rw [putB, putB_len]
    split <;> simp
theorem Agr.val {K : PySem.W.Frag} {F : Hp} {σ : St} : ∀ {vs : List V} {as : List Ag} {i : Nat} {d : D}, Agr K F σ vs as → as[i]? = some (.v d) → ∃ x, vs[i]? = some x ∧ Rp K F x d
  | _, _, i, d, .nil, e => by cases e
  | _, _, 0, d, .v h hs, e => by simp at e; subst e; exact ⟨_, rfl, h⟩
  | _, _, i + 1, d, .v h hs, e => by simpa using hs.val (by simpa using e)
  | _, _, 0, d, .o h hs, e => by simp at e
  | _, _, i + 1, d, .o h hs, e => by simpa using hs.val (by simpa using e)
theorem Agr.own {K : PySem.W.Frag} {F : Hp} {σ : St} : ∀ {vs : List V} {as : List Ag} {i j : Nat}, Agr K F σ vs as → as[i]? = some (Ag.o j) → ∃ x, vs[i]? = some x ∧ σ[j]? = some (some x)
  | _, _, i, d, .nil, e => by cases e
  | _, _, 0, d, .v h hs, e => by simp at e
  | _, _, i + 1, d, .v h hs, e => by simpa using hs.own (by simpa using e)
  | _, _, 0, d, .o h hs, e => by simp at e; subst e; exact ⟨_, rfl, h⟩
  | _, _, i + 1, d, .o h hs, e => by simpa using hs.own (by simpa using e)
theorem Agr.length {K : PySem.W.Frag} {F : Hp} {σ : St} : ∀ {vs : List V} {as : List Ag}, Agr K F σ vs as → vs.length = as.length
  | _, _, .nil => rfl
  | _, _, .v _ hs => congrArg (· + 1) hs.length
  | _, _, .o _ hs => congrArg (· + 1) hs.length
theorem map_some {α : Type} {l : List α} {i : Nat} {x : α} : (l.map some)[i]? = some (some x) ↔ l[i]? = some x := by
  rw [List.getElem?_map]
  cases l[i]? <;> simp
section
variable {K : PySem.W.Frag} {B : Hp × Hp} {ρ : Rho} {σ : St} {F H F' H' : Hp} {as : List Ag} {sl sl' : List Sl} {vs : List V}
open Classical in
noncomputable def lessH (σ : St) (as : List Ag) (H : Hp) : Hp := fun b => if ∃ j, Ag.o j ∈ as ∧ σ[j]? = some (some (.ref b)) then none else H b
theorem Rel.hand (R : Rel K B ρ σ F H) (h : slAll ρ as = .ok sl) (nd : (agO as).Nodup) (ag : Agr K F σ vs as) : Rel K (F, lessH σ as H) (sl.map some) (vs.map some) F H where
  st := ⟨Same.refl F, R.fh, fun b o e => by
    have e : lessH σ as H b = some o := e
    unfold lessH at e
    by_cases z : ∃ j, Ag.o j ∈ as ∧ σ[j]? = some (some (.ref b))
    · rw [if_pos z] at e; cases e
    · rw [if_neg z] at e; exact e, fun _ n _ => n⟩
  len := by rw [List.length_map, List.length_map, ag.length, sl_len h]
  val i d e := by
    obtain ⟨x, h1, h2⟩ := ag.val (sl_val h (map_some.mp e))
    exact ⟨x, map_some.mpr h1, h2⟩
  own i o e := by
    obtain ⟨j, o0, h1, h2, rfl⟩ := sl_own h (map_some.mp e)
    obtain ⟨x, h3, h4⟩ := ag.own h1
    obtain ⟨a, hh, p1, p2, p3, p4, p5⟩ := R.own j o0 h2
    rw [p1] at h4; cases h4
    refine ⟨a, hh, map_some.mpr h3, p2, ?_, p4, p5.unp⟩
    show lessH σ as H a = none
    unfold lessH
    exact if_pos ⟨j, List.mem_of_getElem? h1, p1⟩
  dis i i' o u a e e' q q' := by
    obtain ⟨j, o0, h1, h2, rfl⟩ := sl_own h (map_some.mp e)
    obtain ⟨j', o0', h1', h2', rfl⟩ := sl_own h (map_some.mp e')
    obtain ⟨x, h3, h4⟩ := ag.own h1
    obtain ⟨x', h3', h4'⟩ := ag.own h1'
    rw [map_some.mp q] at h3; cases h3
    rw [map_some.mp q'] at h3'; cases h3'
    have := R.dis j j' o0 o0' a h2 h2' h4 h4'
    subst this
    exact agO_inj nd h1 h1'
theorem hand_base (R : Rel K B ρ σ F H) (h : slAll ρ as = .ok sl) (ag : Agr K F σ vs as) : ∀ b o, NotOwn (sl.map some) (vs.map some) b → H b = some o → lessH σ as H b = some o := fun b o n e => by
  unfold lessH
  rw [if_neg]
  · exact e
  · rintro ⟨j, m, q⟩
    obtain ⟨t, ht, z⟩ := List.mem_iff_getElem.mp m
    have z : as[t]? = some (Ag.o j) := by rw [← z]; simp [ht]
    obtain ⟨o0, h1, h2⟩ := sl_at h z
    obtain ⟨x, h3, h4⟩ := ag.own z
    rw [q] at h4; cases h4
    exact n t _ (map_some.mpr h1) (map_some.mpr h3)
theorem put_cases (h : slAll ρ as = .ok sl) (nd : (agO as).Nodup) (sh : shp (sl'.map some) = shp (sl.map some)) (j : Nat) : (Ag.o j ∉ as ∧ (putB as sl' ρ)[j]? = ρ[j]?) ∨ ∃ (t : Nat) (o0 o' : OD), as[t]? = some (Ag.o j) ∧ ρ[j]? = some (some (.own o0)) ∧ sl'[t]? = some (Sl.own o') ∧ (putB as sl' ρ)[j]? = some (some (.own (repO o0 o'))) := by
  by_cases m : Ag.o j ∈ as
  · obtain ⟨t, ht, z⟩ := List.mem_iff_getElem.mp m
    have z : as[t]? = some (Ag.o j) := by rw [← z]; simp [ht]
    obtain ⟨o0, h1, h2⟩ := sl_at h z
    obtain ⟨o', h3⟩ := shp_own sh (map_some.mpr h1)
    have h3 := map_some.mp h3
    exact .inr ⟨t, o0, o', z, h2, h3, putB_in nd z h3 h2⟩
  · exact .inl ⟨m, putB_out m⟩
theorem Mv.call (R : Rel K B ρ σ F H) (h : slAll ρ as = .ok sl) (nd : (agO as).Nodup) (ag : Agr K F σ vs as) (m : Mv K (F, lessH σ as H) (sl.map some) (vs.map some) F H (sl'.map some) F' H') : Mv K B ρ σ F H (putB as sl' ρ) F' H' := by
  have nw : ∀ {b : Addr}, (∀ (j : Nat) o, Ag.o j ∈ as → ρ[j]? = some (some (.own o)) → σ[j]? ≠ some (some (.ref b))) → NotOwn (sl.map some) (vs.map some) b := fun n x o e z => by
    obtain ⟨j, o0, h1, h2, rfl⟩ := sl_own h (map_some.mp e)
    obtain ⟨y, h3, h4⟩ := ag.own h1
    rw [map_some.mp z] at h3; cases h3
    exact n j o0 (List.mem_of_getElem? h1) h2 h4
  have own0 : ∀ {j : Nat} {o : OD}, (putB as sl' ρ)[j]? = some (some (.own o)) → ∃ o0, ρ[j]? = some (some (.own o0)) := fun {j o} e => by
    rcases put_cases h nd m.sh j with ⟨_, q⟩ | ⟨t, o0, o', _, q, _⟩
    · rw [q] at e; exact ⟨o, e⟩
    · exact ⟨o0, q⟩
  refine ⟨⟨⟨R.st.ff.trans m.ff, m.rel.fh, fun b o e => ?_, fun b n e => ?_⟩, by rw [putB_len]; exact R.len, fun j u e => ?_, fun j o e => ?_, fun j j' o u a e e' => ?_⟩, ?_, m.ff, fun b o n e => m.hh b o (nw fun j o _ e => n j o e) e, m.no⟩
  · refine m.hh b o (nw fun j o' _ e' z => ?_) (R.st.hh b o e)
    obtain ⟨a, hh, p1, p2, p3, _⟩ := R.own j o' e'
    rw [z] at p1; cases p1; rw [p3] at e; cases e
  · exact m.no b (R.st.no b n e) (ne_none_same R.st.hh e)
  · rcases put_cases h nd m.sh j with ⟨_, q⟩ | ⟨t, o0, o', _, _, _, q⟩
    · rw [q] at e
      obtain ⟨v, p1, p2⟩ := R.val j u e
      exact ⟨v, p1, p2.same m.ff⟩
    · rw [q] at e; cases e
  · rcases put_cases h nd m.sh j with ⟨hj, q⟩ | ⟨t, o0, o', h1, h2, h3, q⟩
    · rw [q] at e
      obtain ⟨a, hh, p1, p2, p3, p4, p5⟩ := R.own j o e
      refine ⟨a, hh, p1, m.no a p2 (by rw [p4]; simp), p3, m.hh a hh (nw fun j' o' mj e' z => ?_) p4, Ro.same m.ff p5⟩
      have := R.dis j j' o o' a e e' p1 z
      exact hj (this ▸ mj)
    · rw [q] at e; cases e
      obtain ⟨a, hh, p1, p2, p3, p4, p5⟩ := R.own j o0 h2
      obtain ⟨x, h4, h5⟩ := ag.own h1
      rw [p1] at h5; cases h5
      obtain ⟨a', hh', g1, g2, g3, g4, g5⟩ := m.rel.own t o' (map_some.mpr h3)
      rw [map_some.mpr h4] at g1; cases g1
      exact ⟨a, hh', p1, g2, p3, g4, p5.rep g5⟩
  · obtain ⟨o1, e1⟩ := own0 e
    obtain ⟨o2, e2⟩ := own0 e'
    exact R.dis j j' o1 o2 a e1 e2
  · apply List.ext_getElem?
    intro j
    rw [shp_get, shp_get]
    rcases put_cases h nd m.sh j with ⟨_, q⟩ | ⟨t, o0, o', _, q1, _, q⟩
    · rw [q]
    · rw [q, q1]; rfl
end
section
variable {X : Cx} {xq : XQ} {a b c e : Expr} {es : List Expr} {fx : Rho → Res (D × Rho)} {fs : Rho → Res (List Ag × Rho)} {pos pos' p apos cpos : Pos} {x : Str}
theorem x_fn {P : Program} {w : World} {K : PySem.W.Frag} {mg : Str → Option Value} {base : Heap} {k k' : Nat} {ps : List Str} {g : List Sl → Res (D × List Sl)} (h : Callee P w K mg base k x ps (spM K g)) (hr : Room k' X.A) (ha : DXA X (e :: es) fs) (hk : k ≤ k' := by decide) (hg : Gl X x := by rfl)
    (eP : X.prog = P := by rfl) (ew : X.w = w := by rfl) (eK : X.K = K := by rfl) (em : X.mg = mg := by rfl) (eb : X.base = base := by rfl) (hdb : (x == ("__debug__" : Str)) = false := by decide) :
    DX X (.Call (.Name x p) (e :: es) [] pos) (fun ρ => (fs ρ).bind fun r => (noE (slOf r.2 r.1)).bind fun sl => (noE (g sl)).bind fun u => .ok (u.1, putB r.1 u.2 r.2)) :=
  DX.of (pe_fn h hr hk ha.out hg eP ew eK em eb hdb ha.ns) fun B F ρ σ H Q R q => seqXA R q fun r vs F1 H1 m1 p1 q1 => by
    subst eK
    cases w1 : slOf r.2 r.1 with
    | err x => rw [w1] at q1; exact q1.elim
    | bad => rw [w1] at q1; exact q1.elim
    | ok sl =>
      rw [w1] at q1
      have w2 : (agO r.1).Nodup ∧ slAll r.2 r.1 = .ok sl := by
        unfold slOf gd at w1
        split at w1
        · exact ⟨by assumption, w1⟩
        · cases w1
      refine ⟨F1, lessH σ r.1 H1, sl, by rw [List.append_nil]; exact m1.rel.hand w2.2 w2.1 p1, by rw [List.append_nil]; exact hand_base m1.rel w2.2 p1, ?_⟩
      have q2 : ((noE (g sl)).bind _).all _ _ := q1
      cases w3 : g sl with
      | err x => rw [w3] at q2; exact q2.elim
      | bad => rw [w3] at q2; exact q2.elim
      | ok u =>
        rw [w3] at q2
        intro v F' H' m p
        rw [List.append_nil] at m
        exact q2 v F' H' (m1.trans (Mv.call m1.rel w2.2 w2.1 p1 m)) p
theorem dsx_n {i : Nat} (hN : X.N.Nodup) (he : DX X e fx) (hi : X.N.findIdx? (fun y => y == x) = some i := by rfl) (hx : Loc X.env.scope x := by first | exact Or.inl rfl | exact Or.inr rfl) (hs : swapsWith e (some (.Name x pos')) pos.line X.env = pure false := by rfl)
    (hf : X.fn x = true ∨ X.env.scope.names.lookup x = some .local := by first | exact .inl rfl | exact .inr rfl) : DS X xq (.Assign [.Name x pos'] e pos) (fun ρ => (noE (fx ρ)).go ρ fun r => .nx (r.2.set i (some (.val r.1)))) :=
  DS.of (ps_n hN he.out hi hx hs hf) fun B F ρ σ H T R q => ⟨B, F, ρ, R, noE_all (Res.all_mono (go_all q.out) (fun r q v F' H' m p => q _ F' H' (m.rel.set p)) fun _ z => z)⟩
theorem x_join {z : Str} {j} (he : DX X e fx) (hs : notStar e = true := by rfl)
    (hbase : attributeBase (.Constant (.str z) j p) "join" X.env (eval (.Constant (.str z) j p) X.env) = eval (.Constant (.str z) j p) X.env := by rfl) (hline : (apos.endLine == cpos.line) = true := by rfl) :
    DX X (.Call (.Attribute (.Constant (.str z) j p) "join" apos) [e] [] cpos) (fun ρ => (fx ρ).bind fun r => (noE (joinD z r.1)).bind fun d => .ok (d, r.2)) :=
  DX.of (pbm PySem.F.plainAttrs_str PySem.F.slot_str_join PySem.F.type_str_join mt_joinA pe_str (pac he.out pa_nil hs) (by rw [List.all_cons, hs]; rfl) rfl hbase hline) fun B F ρ σ H Q R q => ⟨rfl, seqX R q fun d v F1 H1 m1 p1 q1 => by
    have q1 := doneX m1 q1
    have fin : ∀ {ds : List D} {vs : List V}, Rps X.K F1 vs ds → (joinL z ds).all (fun d => ∀ (v : V) (F' H' : Hp), Stp F1 H1 F' H' → Rp X.K F' v d → Q v H') (fun _ => False) → ∃ ys : List Str, vs = ys.map V.str ∧ (ys.map (·.length)).sum + ys.length * z.length ≤ 16777216 ∧ Q (.str (Txt.join z ys)) H1 := by
      intro ds vs r q2
      unfold joinL at q2
      cases e : strsOf ds with
      | none => rw [e] at q2; exact q2.elim
      | some ys =>
        rw [e] at q2
        obtain ⟨h1, q3⟩ := gd_ok q2
        exact ⟨ys, (strsOf_rp r e).1, h1, q3 _ F1 H1 (Stp.refl m1.rel.fh) (.str (Nat.le_trans (glued_len z ys) h1))⟩
    obtain ⟨d1, ρ1⟩ := d
    dsimp only at p1 q1
    cases p1 with
    | lst hq r =>
      obtain ⟨ys, rfl, h1, q2⟩ := fin r q1
      exact ⟨z, _, ys, rfl, rfl, .inl (hq.same m1.rel.fh), h1, q2⟩
    | tup hq r =>
      obtain ⟨ys, rfl, h1, q2⟩ := fin r q1
      exact ⟨z, _, ys, rfl, rfl, .inr (m1.rel.fh.seqT hq), h1, q2⟩
    | _ => exact q1.elim⟩
end
inductive OutM where
  | rm (d : D) (ρ : Rho) | bad
structure OkM (K : PySem.W.Frag) (B : Hp × Hp) (T : Ends) (o : OutM) : Prop where
  out : match o with
    | .rm d ρ => ∀ v σ F H, Rel K B ρ σ F H → Rp K F v d → T.rt v H
    | .bad => False
def liftM (K : PySem.W.Frag) (f : Rho → OutM) : TS := fun T σ H => ∃ B F ρ, Rel K B ρ σ F H ∧ OkM K B T (f ρ)
structure DMB (X : Cx) (sts : List Stmt) (f : Rho → OutM) : Prop where
  out : PSs X sts (liftM X.K f)
def Res.gm {α : Type} (r : Res α) (k : α → OutM) : OutM := match r with
  | .ok a => k a
  | _ => .bad
@[simp] theorem gm_ok {α : Type} (a : α) (k : α → OutM) : (Res.ok a).gm k = k a := rfl
@[simp] theorem gm_bad {α : Type} (k : α → OutM) : (Res.bad : Res α).gm k = .bad := rfl
@[simp] theorem gm_err {α : Type} (x : D) (k : α → OutM) : (Res.err x : Res α).gm k = .bad := rfl
def thenM (o : Out) (g : Rho → OutM) : OutM := match o with
  | .nx ρ => g ρ
  | _ => .bad
@[simp] theorem thenM_nx (ρ : Rho) (g : Rho → OutM) : thenM (.nx ρ) g = g ρ := rfl
section
variable {X : Cx} {st : Stmt} {sts : List Stmt} {e c : Expr} {fx : Rho → Res (D × Rho)} {fT : Rho → Res Bool} {f : Rho → Out} {g ga : Rho → OutM} {pos pos' p : Pos} {x : Str}
theorem gm_all {α : Type} {r : Res α} {k : α → OutM} {K : PySem.W.Frag} {B : Hp × Hp} {T : Ends} {E : D → Prop} (h : OkM K B T (r.gm k)) : r.all (fun a => OkM K B T (k a)) E := by
  cases r with
  | ok a => exact h
  | err x => exact (show False from h.out).elim
  | bad => exact (show False from h.out).elim
theorem dm_ret (he : DX X e fx) : DMB X [.Return (some e) pos] (fun ρ => (fx ρ).gm fun r => .rm r.1 r.2) :=
  ⟨pss_one fun pins s σ H T I z9 => un5 z9 fun B F ρ R q => ps_ret he.out pins s σ H T I ⟨B, F, ρ, R, Res.all_mono (gm_all q) (fun r k v F' H' m p => k.out v σ F' H' m.rel p) fun _ z => z⟩⟩
theorem dm_cons (h1 : DS X xqF st f) (h2 : DMB X sts g) : DMB X (st :: sts) (fun ρ => thenM (f ρ) g) :=
  ⟨fun pins s σ H T I z9 => un5 z9 fun B F ρ R q => pss_cons h1.out h2.out pins s σ H T I ⟨B, F, ρ, R, ⟨by
    dsimp only at q
    generalize f ρ = o at q
    cases o with
    | nx ρ1 => exact fun σ1 F1 H1 R1 => ⟨B, F1, ρ1, R1, q⟩
    | rt d => exact (show False from q.out).elim
    | bk r => exact (show False from q.out).elim
    | ct r => exact (show False from q.out).elim
    | er x r => exact (show False from q.out).elim
    | bad => exact (show False from q.out).elim⟩⟩⟩
theorem dm_if {a : List Stmt} (hc : DT X xqF c fT) (ha : DMB X a ga) (hb : DMB X sts g) : DMB X (.If c a [] pos :: sts) (fun ρ => (fT (frz ρ)).gm fun k => if k = true then ga ρ else g ρ) :=
  ⟨fun pins s σ H T I z9 => un5 z9 fun B F ρ R q => pss_cons (ps_if hc.out ha.out pss_nil) hb.out pins s σ H T I ⟨B, F, ρ, R, Res.all_mono (gm_all (E := fun _ => False) q) (fun k q H' s => by
    cases k with
    | true =>
      rw [if_pos rfl] at q ⊢
      exact ⟨B, F, ρ, R.step s, ⟨by
        have q := q.out
        generalize ga ρ = o at q ⊢
        cases o with
        | rm d ρ' => exact q
        | bad => exact q⟩⟩
    | false =>
      rw [if_neg (by decide)] at q ⊢
      exact ⟨B, F, ρ, R.step s, q⟩) fun _ z => z.elim⟩⟩
end
def pinS (A : Nat → Addr) : Nat → List Sl → Rho
  | _, [] => []
  | i, .val d :: r => some (.val d) :: pinS A (i + 1) r
  | i, .own o :: r => some (.own (.p (A i) o)) :: pinS A (i + 1) r
def unS (A : Nat → Addr) : Nat → List Sl → Rho → Res (List Sl)
  | _, [], _ => .ok []
  | i, .val d :: r, ρ => (unS A (i + 1) r ρ).bind fun s => .ok (.val d :: s)
  | i, .own _ :: r, ρ => match ρ[i]? with
    | some (some (.own (.p a o))) => if a = A i then (unS A (i + 1) r ρ).bind fun s => .ok (.own o :: s) else .bad
    | _ => .bad
def runM (n m : Nat) (t : Rho → OutM) (A : Nat → Addr) (sl : List Sl) : Res (D × List Sl) :=
  if sl.length = m then (match t (pinS A 0 sl ++ List.replicate (n - sl.length) none) with
    | .rm d ρ => (unS A 0 sl ρ).bind fun s => .ok (d, s)
    | .bad => .bad) else .bad
open Classical in
noncomputable def gM (n m : Nat) (t : Rho → OutM) (sl : List Sl) : Res (D × List Sl) := if h : ∃ r, ∀ A, runM n m t A sl = .ok r then .ok h.choose else .bad
theorem gM_eq {n m : Nat} {t : Rho → OutM} {sl : List Sl} {r : D × List Sl} (h : ∀ A, runM n m t A sl = .ok r) : gM n m t sl = .ok r := by
  have e : ∃ r, ∀ A, runM n m t A sl = .ok r := ⟨r, h⟩
  unfold gM
  rw [dif_pos e]
  have := e.choose_spec (fun _ => 0)
  rw [h] at this
  rw [Res.ok.inj this]
theorem pinS_get (A : Nat → Addr) : ∀ (sl : List Sl) (k i : Nat), (pinS A k sl)[i]? = (sl[i]?).map fun s => some (match s with | .val d => .val d | .own o => .own (.p (A (k + i)) o))
  | [], k, i => by simp [pinS]
  | .val d :: r, k, 0 => by simp [pinS]
  | .own o :: r, k, 0 => by simp [pinS]
  | .val d :: r, k, i + 1 => by
    simp only [pinS, List.getElem?_cons_succ]
    rw [pinS_get A r (k + 1) i, show k + 1 + i = k + (i + 1) by omega]
  | .own o :: r, k, i + 1 => by
    simp only [pinS, List.getElem?_cons_succ]
    rw [pinS_get A r (k + 1) i, show k + 1 + i = k + (i + 1) by omega]
theorem pinS_len (A : Nat → Addr) : ∀ (sl : List Sl) (k : Nat), (pinS A k sl).length = sl.length
  | [], k => rfl
  | .val d :: r, k => by simp [pinS, pinS_len A r]
  | .own o :: r, k => by simp [pinS, pinS_len A r]
theorem unS_get {A : Nat → Addr} {ρ : Rho} : ∀ {sl sl' : List Sl} {k i : Nat}, unS A k sl ρ = .ok sl' → match sl[i]? with
    | some (.val d) => sl'[i]? = some (.val d)
    | some (.own _) => ∃ o', sl'[i]? = some (.own o') ∧ ρ[k + i]? = some (some (.own (.p (A (k + i)) o')))
    | none => sl'[i]? = none
  | [], sl', k, i, h => by cases h; simp
  | .val d :: r, sl', k, i, h => by
    rw [unS] at h
    cases q : unS A (k + 1) r ρ with
    | ok s =>
      rw [q] at h; cases h
      cases i with
      | zero => simp
      | succ i =>
        have := unS_get (i := i) q
        simpa [show k + 1 + i = k + (i + 1) by omega] using this
    | err x => rw [q] at h; cases h
    | bad => rw [q] at h; cases h
  | .own o :: r, sl', k, i, h => by
    rw [unS] at h
    split at h
    · rename_i a o' e
      split at h
      · rename_i ea
        cases q : unS A (k + 1) r ρ with
        | ok s =>
          rw [q] at h; cases h
          cases i with
          | zero => simp; subst ea; exact e
          | succ i =>
            have := unS_get (i := i) q
            simpa [show k + 1 + i = k + (i + 1) by omega] using this
        | err x => rw [q] at h; cases h
        | bad => rw [q] at h; cases h
      · cases h
    · cases h
section
variable {P : Program} {w : World} {K : PySem.W.Frag} {mg : Str → Option Value} {base : Heap}
theorem start_get {N : List Str} {vs : List V} {i : Nat} {x : V} (h : vs[i]? = some x) : (start N vs)[i]? = some (some x) := by
  unfold L2.start
  rw [List.getElem?_append_left (by have := (List.getElem?_eq_some_iff.mp h).1; simpa using this), List.getElem?_map, h]; rfl
theorem start_own {A : Nat → Addr} {sl : List Sl} {n i : Nat} {s : Sl} (h : (pinS A 0 sl ++ List.replicate n none)[i]? = some (some s)) : (∃ d, sl[i]? = some (.val d) ∧ s = .val d) ∨ ∃ o, sl[i]? = some (.own o) ∧ s = .own (.p (A i) o) := by
  rw [List.getElem?_append] at h
  split at h
  · rw [pinS_get, Nat.zero_add] at h
    cases q : sl[i]? with
    | none => rw [q] at h; cases h
    | some u =>
      rw [q] at h
      cases u with
      | val d => cases h; exact .inl ⟨d, rfl, rfl⟩
      | own o => cases h; exact .inr ⟨o, rfl, rfl⟩
  · rw [List.getElem?_replicate] at h
    split at h <;> cases h
theorem Rel.begin {F hb H : Hp} {N : List Str} {vs : List V} {sl : List Sl} {A : Nat → Addr} (R : Rel K (F, hb) (sl.map some) (vs.map some) F H) (hA : ∀ (i : Nat) a, vs[i]? = some (.ref a) → A i = a) : Rel K (F, hb) (pinS A 0 sl ++ List.replicate (N.length - sl.length) none) (start N vs) F H where
  st := R.st
  len := by
    have := R.len
    simp only [List.length_map] at this
    unfold L2.start; simp [pinS_len, this]
  val i d e := by
    rcases start_own e with ⟨d', h1, h2⟩ | ⟨o, h1, h2⟩
    · cases h2
      obtain ⟨v, p1, p2⟩ := R.val i d (map_some.mpr h1)
      exact ⟨v, start_get (map_some.mp p1), p2⟩
    · cases h2
  own i o e := by
    rcases start_own e with ⟨d', h1, h2⟩ | ⟨o', h1, h2⟩
    · cases h2
    · cases h2
      obtain ⟨a, h, p1, p2, p3, p4, p5⟩ := R.own i o' (map_some.mpr h1)
      have := hA i a (map_some.mp p1)
      subst this
      exact ⟨_, h, start_get (map_some.mp p1), p2, p3, p4, .p p5⟩
  dis i j o u a e e' q q' := by
    rcases start_own e with ⟨d', h1, h2⟩ | ⟨o1, h1, h2⟩
    · cases h2
    · rcases start_own e' with ⟨d', h1', h2'⟩ | ⟨o2, h1', h2'⟩
      · cases h2'
      · obtain ⟨a1, _, p1, _⟩ := R.own i o1 (map_some.mpr h1)
        obtain ⟨a2, _, p2, _⟩ := R.own j o2 (map_some.mpr h1')
        have g1 := start_get (N := N) (map_some.mp p1)
        have g2 := start_get (N := N) (map_some.mp p2)
        rw [q] at g1; rw [q'] at g2; cases g1; cases g2
        exact R.dis i j o1 o2 a (map_some.mpr h1) (map_some.mpr h1') p1 p2
theorem Mv.leave {F hb H F' H' : Hp} {vs : List V} {sl sl' : List Sl} {A : Nat → Addr} {ρ : Rho} {σ : St} (R : Rel K (F, hb) (sl.map some) (vs.map some) F H) (hb1 : ∀ b o, NotOwn (sl.map some) (vs.map some) b → H b = some o → hb b = some o) (hA : ∀ (i : Nat) a, vs[i]? = some (.ref a) → A i = a)
    (h : unS A 0 sl ρ = .ok sl') (R' : Rel K (F, hb) ρ σ F' H') : Mv K (F, hb) (sl.map some) (vs.map some) F H (sl'.map some) F' H' := by
  have hg := fun i => unS_get (i := i) h
  have own1 : ∀ {i : Nat} {o' : OD}, sl'[i]? = some (.own o') → ∃ o a, sl[i]? = some (.own o) ∧ vs[i]? = some (.ref a) ∧ ρ[i]? = some (some (.own (.p a o'))) := fun {i o'} e => by
    have := hg i
    cases q : sl[i]? with
    | none => rw [q] at this; rw [e] at this; cases this
    | some u =>
      rw [q] at this
      cases u with
      | val d => rw [e] at this; cases this
      | own o =>
        obtain ⟨o2, h1, h2⟩ := this
        rw [e] at h1; cases h1
        rw [Nat.zero_add] at h2
        obtain ⟨a, _, p1, _⟩ := R.own i o (map_some.mpr q)
        exact ⟨o, a, rfl, map_some.mp p1, by rw [hA i a (map_some.mp p1)] at h2; exact h2⟩
  have ro : ∀ {i : Nat} {o' : OD}, sl'[i]? = some (.own o') → ∃ a h, vs[i]? = some (.ref a) ∧ F' a = none ∧ hb a = none ∧ H' a = some h ∧ Ro K F' a h o' := fun {i o'} e => by
    obtain ⟨o, a, q1, q2, q3⟩ := own1 e
    obtain ⟨a', h', p1, p2, p3, p4, p5⟩ := R'.own i _ q3
    cases p5 with
    | p p5 => exact ⟨a, h', q2, p2, p3, p4, p5⟩
  have ln : sl'.length = sl.length := by
    refine Nat.le_antisymm (Nat.not_lt.mp fun z => ?_) (Nat.not_lt.mp fun z => ?_)
    · have := hg sl.length
      rw [List.getElem?_eq_none (Nat.le_refl _)] at this
      rw [List.getElem?_eq_none_iff] at this
      omega
    · have := hg sl'.length
      rw [List.getElem?_eq_getElem z] at this
      cases q : sl[sl'.length] with
      | val d => rw [q] at this; simp at this
      | own o => rw [q] at this; simp at this
  refine ⟨⟨R'.st, by have := R.len; simp only [List.length_map] at this ⊢; rw [this, ln], fun i d e => ?_, fun i o e => ?_, fun i j o u a e e' q q' => ?_⟩, ?_, R'.st.ff, fun b o n e => R'.st.hh b o (hb1 b o n e), fun b n e => ?_⟩
  · have e := map_some.mp e
    have := hg i
    cases q : sl[i]? with
    | none => rw [q, e] at this; cases this
    | some u =>
      rw [q] at this
      cases u with
      | val d' =>
        rw [e] at this; cases this
        obtain ⟨v, p1, p2⟩ := R.val i d (map_some.mpr q)
        exact ⟨v, p1, p2.same R'.st.ff⟩
      | own o => obtain ⟨o2, h1, _⟩ := this; rw [e] at h1; cases h1
  · obtain ⟨a, h, p1, p2⟩ := ro (map_some.mp e)
    exact ⟨a, h, map_some.mpr p1, p2⟩
  · obtain ⟨o1, _, h1, _⟩ := own1 (map_some.mp e)
    obtain ⟨o2, _, h2, _⟩ := own1 (map_some.mp e')
    exact R.dis i j o1 o2 a (map_some.mpr h1) (map_some.mpr h2) q q'
  · apply List.ext_getElem?
    intro i
    rw [shp_get, shp_get, List.getElem?_map, List.getElem?_map]
    have := hg i
    cases q : sl[i]? with
    | none => rw [q] at this; rw [this]
    | some u =>
      rw [q] at this
      cases u with
      | val d => rw [this]
      | own o => obtain ⟨o2, h1, _⟩ := this; rw [h1]; rfl
  · by_cases z : NotOwn (sl.map some) (vs.map some) b
    · cases w : H b with
      | none => exact absurd w e
      | some o => exact R'.st.no b n (by rw [show (F, hb).2 b = some o from hb1 b o z w]; simp)
    · unfold NotOwn at z
      simp only [Classical.not_forall] at z
      obtain ⟨i, o, e1, e2⟩ := z
      have e2 := Classical.not_not.mp e2
      have := hg i
      rw [map_some.mp e1] at this
      obtain ⟨o2, h1, _⟩ := this
      obtain ⟨a, h, p1, p2, _⟩ := ro h1
      rw [map_some.mp e2] at p1; cases p1; exact p2
theorem Fun.okM {x qual : Str} {st : Stmt} {f : Addr} {fd : FuncData} {N ps : List Str} {k : Nat} {t : Rho → OutM} (F : Fun K x qual st f fd) (S : FnScope N ps (defScope st))
    (hbody : ∀ (cdv : Value) (A : Around) (outer : List Env) (s : Shared) (H : Hp) (E : XK), Room k (A.deeper (envOfC qual (defScope st) s.heap.objs.size f cdv)) → DMB (cxOf CX0 P w K mg base N qual (defScope st) f cdv A outer s H E).nox (defBody st) t) :
    FnOk P w K mg base CX0 (k + 1) f fd ps (spM K (gM N.length ps.length t)) := by
  have ex : ∀ {sl : List Sl} {Q : D × List Sl → Prop}, (gM N.length ps.length t sl).all Q (fun _ => False) → ∃ r, (∀ A, runM N.length ps.length t A sl = .ok r) ∧ Q r := fun {sl Q} q => by
    unfold gM at q
    split at q
    · rename_i h; exact ⟨_, h.choose_spec, q⟩
    · exact q.elim
  refine F.ok S (fun vs H Q E ⟨G, hb, sl, R, h1, q⟩ => ?_) fun cdv A outer s H vs Q E hr ⟨G, hb, sl, R, h1, q⟩ => ?_
  · obtain ⟨r, hr, _⟩ := ex q
    have := hr fun _ => 0
    unfold runM at this
    split at this
    · have l := R.len
      simp only [List.length_map] at l
      rw [l]; assumption
    · cases this
  · obtain ⟨r, hr', q⟩ := ex q
    let A0 : Nat → Addr := fun i => match vs[i]? with
      | some (.ref a) => a
      | _ => 0
    have hA : ∀ (i : Nat) a, vs[i]? = some (.ref a) → A0 i = a := fun i a e => by
      show (match vs[i]? with | some (.ref a) => a | _ => 0) = a
      rw [e]
    have hz := hr' A0
    refine ⟨_, (hbody cdv A outer s H E hr).out, (G, hb), G, _, R.begin hA, ⟨?_⟩⟩
    unfold runM at hz
    split at hz
    · generalize t (pinS A0 0 sl ++ List.replicate (N.length - sl.length) none) = o at hz
      cases o with
      | bad => cases hz
      | rm d ρ =>
        dsimp only at hz
        cases hu : unS A0 0 sl ρ with
        | bad => rw [hu] at hz; cases hz
        | err x => rw [hu] at hz; cases hz
        | ok sl' =>
          rw [hu] at hz; cases hz
          exact fun v σ F' H' R' pv => q v F' H' (Mv.leave R h1 hA hu R') pv
    · cases hz
end
def getP (ρ : Rho) (i : Nat) : Res (Addr × List D) := match ρ[i]? with
  | some (some (.own (.p a (.l ds)))) => .ok (a, ds)
  | _ => .bad
theorem getP_ok {ρ : Rho} {i : Nat} {P : Addr × List D → Prop} {E : D → Prop} (h : (getP ρ i).all P E) : ∃ a ds, ρ[i]? = some (some (.own (.p a (.l ds)))) ∧ P (a, ds) := by
  unfold getP at h
  split at h
  · rename_i a d e; exact ⟨a, d, e, h⟩
  · exact h.elim
section
variable {X : Cx} {xq : XQ} {i value : Expr} {fi fv : Rho → Res D} {pos : Pos}
def setP (ρ : Rho) (j : Nat) (a : Addr) (ds : List D) (d : D) : D → Out
  | .int k => match ixN ds.length k with
    | some n => .nx (ρ.set j (some (.own (.p a (.l (ds.set n d))))))
    | none => .bad
  | _ => .bad
theorem ds_setiP {x : Str} {p pos' : Pos} (j : Nat) (hi : DE X xq i fi) (hv : DE X xq value fv) (hN : X.N[j]? = some x := by rfl) (hvs : Vis X.env.scope x := by first | exact Or.inl rfl | exact Or.inr (Or.inl rfl) | exact Or.inr (Or.inr rfl)) (hd : (x == ("__debug__" : Str)) = false := by decide) (hcd : (x == ("__classdict__" : Str)) = false := by decide)
    (hs : swapsWithSole [.Subscript (.Name x p) i pos'] value pos.line X.env = pure false := by rfl) (hw : swappedStores [.Subscript (.Name x p) i pos'] value X.env = pure none := by rfl)
    (ha : ∀ v, assign (.Subscript (.Name x p) i pos') X.env v = (do
      let ov ← holding [v] (eval (.Name x p) X.env)
      let iv ← holding [v, ov] (eval i X.env)
      standAt pos'
      holding [v, ov, iv] (setItem ov iv v)
      release [v, ov, iv] []) := by intro _; rfl)
    (h1 : (assignEach [.Subscript (.Name x p) i pos'] X.env).map (·.2) = [assign (.Subscript (.Name x p) i pos') X.env] := by rfl) :
    DS X xq (.Assign [.Subscript (.Name x p) i pos'] value pos) (fun ρ => (fv (frz ρ)).go ρ fun d => (getP ρ j).go ρ fun ds => (fi ρ).go ρ fun k => if flatD d = true then setP ρ j ds.1 ds.2 d k else .bad) :=
  DS.of (ps_asg hv.out (pg_sub (pe_var hN hvs hd hcd) hi.out set_list ha) hs hw h1) fun B F ρ σ H T R q => by
    obtain ⟨F0, ef, R0⟩ := R.frz
    refine ⟨B, F0, frz ρ, R0, Res.all_mono (go_all q.out) (fun d q1 v F1 H1 st pv => ?_) fun _ z => (errOf z).frz⟩
    have R1 := R.step (Stp.only R.fh st.hh)
    obtain ⟨ap, ds, eo, q2⟩ := getP_ok (go_all q1)
    obtain ⟨a, h, g1, g2, g3, g4, g5⟩ := R1.own j _ eo
    refine ⟨.ref a, g1, B, F, ρ, R1, Res.all_mono (go_all q2) (fun k q3 y F3 H3 st3 py => ?_) fun _ z => errOf z⟩
    have R3 := R1.step st3
    obtain ⟨a', h', k1, k2, k3, k4, k5⟩ := R3.own j _ eo
    rw [g1] at k1; cases k1
    by_cases hf : flatD d = true
    · have q4 : (if flatD d = true then setP ρ j ap ds d k else Out.bad).all _ _ _ _ _ := q3
      rw [if_pos hf] at q4
      cases k5 with
      | p k5 =>
      cases k5 with
      | l hr =>
        cases py with
        | int n =>
          unfold setP at q4
          dsimp only at q4
          cases e : ixN ds.length n with
          | none => rw [e] at q4; exact q4.elim
          | some m =>
            rw [e] at q4
            exact ⟨_, _, n, m, rfl, rfl, k4, by rw [hr.length]; exact e, q4 σ F3 _ (R3.write (e := eo) g1 (.p (.l (rps_set m hr (pv.flat hf)))))⟩
        | _ => exact q4.elim
    · have q4 : (if flatD d = true then setP ρ j ap ds d k else Out.bad).all _ _ _ _ _ := q3
      rw [if_neg hf] at q4; exact q4.elim
end
end L2

namespace L2
open PySem PySem.Spec PyProof.Rows
def tS (p : Str × Str) : TE × TE := (tC (.str p.1), tC (.str p.2))
theorem tPairs_S (σ : St) (H : Hp) : ∀ (kvs : List (Str × Str)) (Q : List (V × V) → Hp → Prop), Q (kvs.map fun p => (.str p.1, .str p.2)) H → tPairs (kvs.map tS) σ H Q
  | [], Q, h => h
  | p :: kvs, Q, h => tPairs_S σ H kvs (fun ps H3 => Q ((.str p.1, .str p.2) :: ps) H3) h
theorem putK_new0 {kvs : List (Key × V)} {k : Key} {v : V} (h : ∀ p ∈ kvs, p.1 ≠ k) : putK kvs k v = kvs ++ [(k, v)] := by
  unfold putK
  rw [if_neg]
  intro z
  obtain ⟨p, m, e⟩ := List.any_eq_true.mp z
  exact h p m (of_decide_eq_true e)
theorem mergeK_new : ∀ (more kvs : List (Key × V)), ((kvs ++ more).map (·.1)).Nodup → mergeK kvs more = kvs ++ more
  | [], kvs, _ => by simp [mergeK]
  | p :: more, kvs, h => by
    have hp : putK kvs p.1 p.2 = kvs ++ [p] := putK_new0 fun q m e => by
      rw [List.map_append, List.nodup_append] at h
      exact h.2.2 q.1 (List.mem_map_of_mem m) p.1 (by simp) e
    show mergeK (putK kvs p.1 p.2) more = _
    rw [hp, mergeK_new more (kvs ++ [p]) (by simpa using h)]
    simp
def kvS (kvs : List (Str × Str)) : List (Key × V) := kvs.map fun p => (.inr p.1, .str p.2)
def dS2 (kvs : List (Str × Str)) : List (D × D) := kvs.map fun p => (.str p.1, .str p.2)
theorem rpk_S {K : PySem.W.Frag} {F : Hp} : ∀ {kvs : List (Str × Str)}, (∀ p ∈ kvs, p.2.length ≤ sizeLine) → Rpk K F (kvS kvs) (dS2 kvs)
  | [], _ => .nil
  | p :: kvs, h => .cons (k := .inr p.1) (.str (h p List.mem_cons_self)) (rpk_S fun q m => h q (List.mem_cons_of_mem _ m))
section
variable {X : Cx} {xq : XQ} {o e f : Expr} {fi ff : Rho → Res D} {pos apos cpos : Pos} {x : Str}
theorem d_disp {keys : List (Option Expr)} {values : List Expr} (kvs : List (Str × Str)) (h : PPs X pos keys values (kvs.map tS)) (hall : keys.all (·.isSome) = true := by rfl) (hl : keys.length = values.length := by rfl) (h0 : keys ≠ [] := by simp) (h15 : keys.length ≤ 15 := by decide)
    (hk : kvs.length ≤ 15 := by decide) (nd : (kvs.map (·.1)).Nodup := by decide +kernel) (hz : ∀ p ∈ kvs, p.2.length ≤ sizeLine := by decide +kernel) : DE X xq (.Dict keys values pos) (fun _ => .ok (.dct (dS2 kvs))) :=
  DE.of (pe_disp h hall hl h0 h15) fun B F ρ σ H Q R q p n => tPairs_S σ _ kvs _ ⟨upd_same, kvS kvs, by unfold kvS; rw [List.map_map]; rfl, by unfold kvS; simpa using hk, by
    have nd2 : ((([] : List (Key × V)) ++ kvS kvs).map (·.1)).Nodup := by
      unfold kvS
      rw [List.nil_append, List.map_map]
      rw [List.nodup_iff_pairwise_ne] at nd ⊢
      rw [List.pairwise_map] at nd ⊢
      exact nd.imp fun h e => h (Sum.inr.inj e)
    rw [mergeK_new _ _ nd2, List.nil_append, upd_upd]
    exact q (.ref p) _ _ (Stp.new R.fh n) (.dK upd_same (rpk_S hz))⟩
def DctG (P : Program) (w : World) (K : PySem.W.Frag) (mg : Str → Option Value) (x : Str) (kvs : List (Str × Str)) : Prop :=
  ∃ a, mg x = some (.ref a) ∧ (a == sysModules) = false ∧ ∀ h : Heap, K.In h → ∃ vs, KV (kvS kvs) vs ∧ h.DictOf (mixKind P w) a vs
def gGetG (kvs : List (Str × Str)) (y z : D) : Res D := (keyK y).bind fun k => .ok ((valD (dS2 kvs) k).getD z)
theorem d_getG {P : Program} {w : World} {K : PySem.W.Frag} {mg : Str → Option Value} {kvs : List (Str × Str)} {p : Pos} (hu : X.A.units + 1 < cLine) (hd : DctG P w K mg x kvs) (he : DE X xq e fi) (hf : DE X xq f ff) (hz : ∀ p ∈ kvs, p.2.length ≤ sizeLine := by decide +kernel) (m : M2 X (.Name x p) "get" apos e f cpos := by exact ⟨rfl, rfl, rfl, rfl⟩) (hg : Gl X x := by rfl)
    (eP : X.prog = P := by rfl) (ew : X.w = w := by rfl) (eK : X.K = K := by rfl) (em : X.mg = mg := by rfl) (hdb : (x == ("__debug__" : Str)) = false := by decide) : DE X xq (.Call (.Attribute (.Name x p) "get" apos) [e, f] [] cpos) (fun ρ => (fi ρ).bind fun y => (ff ρ).bind fun z => gGetG kvs y z) :=
  ⟨fun pins s σ H Q I z9 => un5 z9 fun B F ρ R q => by
    subst eP ew eK em
    obtain ⟨a, hm, hsm, hD⟩ := hd
    have ho : PE X (.Name x p) (tC (.ref a)) := pe_glo (v := .ref a) ⟨.ref a, hm, rfl⟩ hg rfl hdb
    refine wpAny_Call_method m.base m.few m.line PySem.F.plainAttrs_dict PySem.F.slot_dict_get PySem.F.type_dict_get (thn (ho pins s σ H (fun v H1 => v = .ref a ∧ H1 = H) I ⟨rfl, rfl⟩) fun u s1 ⟨x1, H1, I1, rx, ex, eH⟩ => ?_)
    subst ex eH
    obtain rfl : u = Value.ref a := rx
    obtain ⟨vs, rel, dd⟩ := hD s1.heap I1.kIn
    refine ⟨dd.typeIs, fun b q => ?_, ?_⟩
    · cases q
      obtain ⟨ob, _, _, h1, h2, _⟩ := dd
      exact ⟨ob, h1, h2.2.1⟩
    rw [m.trees]
    refine Calls.callWith_builtin rfl (Calls.evalArgs_plain (Calls.spliced_cons (thn (he.out pins s1 σ H1 (fun v2 H2 => liftE X.K xq ff σ H2 fun v3 H3 => ∃ k, v2 = kV k ∧ Q ((valV (kvS kvs) k).getD v3) H3) I1 (seqE R q fun d2 v2 F2 H2 s2 R2 p2 q2 => seqE R2 q2 fun d3 v3 F3 H3 s3 R3 p3 q3 => ?_)) fun iv s2 ⟨y, H2, I2, ry, q2⟩ =>
      Calls.spliced_cons (thn (hf.out pins s2 σ H2 _ I2 q2) fun fv s3 ⟨z, H3, I3, rz, k, ek, q3⟩ => Calls.spliced_nil ?_))))
    · obtain ⟨k, ek, q4⟩ := keyK_ok (p2.same s3.ff) (Res.all_bind.mp q3)
      refine ⟨k, ek, ?_⟩
      have hv := (rpk_S (K := X.K) (F := F3) hz).val (k := k)
      cases ev : valD (dS2 kvs) k with
      | none =>
        rw [ev] at hv q4
        rw [hv]
        exact q4 _ F3 H3 (s2.trans s3) p3
      | some d4 =>
        rw [ev] at hv q4
        obtain ⟨z, hz, pz⟩ := hv
        rw [hz]
        exact q4 _ F3 H3 (s2.trans s3) pz
    · subst ek
      obtain ⟨vs3, rel3, dd3⟩ := hD s3.heap I3.kIn
      exact call_meetsIn PySem.F.slot_dict_get dd3.typeIs PySem.F.entry_dict_get (PySem.F.args_dict_get_3 _ _ _) (meets_dict_get_default (mixKind X.prog X.w) a (kV_is ry) hsm fv) ⟨_, dd3.mapOf, _, H3, I3.tok _, (rel3.val k).getD rz, q3⟩⟩
end
theorem CalleeN.cx {P : Program} {w : World} {K : PySem.W.Frag} {mg : Str → Option Value} {base : Heap} {k : Nat} {x : Str} {ps : List Str} {f : List D → Res (List D)} (h : CalleeN P w K mg base k x ps f) : CalleeX P w K mg base k x ps (asLs f) :=
  let ⟨a, fd, G, hb, hk, hm⟩ := h; ⟨a, fd, G.imp spN_X, hb, hk, hm⟩
end L2

namespace K67
open PySem L2 KW PySem.Spec PyProof.Rows
def top (i : Nat) : Stmt := PySem.Challenge.pw_rulestable_k67_kinds_of_words.main.body.getD i (.Pass ⟨0, 0, 0, 0⟩)
theorem hu64 {A : Around} {k : Nat} (hr : Room k A) : A.units + 64 < cLine := by have := hr.un; omega
theorem hu100 {A : Around} {k : Nat} (hr : Room k A) : A.units + 100 < cLine := by have := hr.un; omega
theorem hu200 {A : Around} {k : Nat} (hr : Room k A) : A.units + 200 < cLine := by have := hr.un; omega
theorem hu_of {A : Around} {k : Nat} (hr : Room k A) : A.units + 1 < cLine := by have := hr.un; omega
structure Txt (K : PySem.W.Frag) (mg : Str → Option Value) : Prop where
  z_isinstance : mg "isinstance" = none
  z_str : mg "str" = none
  z_list : mg "list" = none
  z_len : mg "len" = none
  z_all : mg "all" = none
  z_range : mg "range" = none
  z_enumerate : mg "enumerate" = none
  g_SIDES : GloD K mg "SIDES" (.tup [(.str "left"), (.str "right"), (.str "none")])
  g_LONGEST : GloD K mg "LONGEST" (.int 6)
  g_IN_SIGNS : GloD K mg "IN_SIGNS" (.str "abcdefghijklmnopqrstuvwxyz0123456789+-*/()[]=<>,;.!?^&")
  g_GREAT : GloD K mg "GREAT" (.str "ABCDEFGHIJKLMNOPQRSTUVWXYZ")
  g_SMALL_AND_FIGURES : GloD K mg "SMALL_AND_FIGURES" (.str "abcdefghijklmnopqrstuvwxyz0123456789")
abbrev s_is_short_text : Stmt := top 5
theorem sc_is_short_text : FnScope ["thing"] ["thing"] (defScope s_is_short_text) := ⟨rfl, rfl, rfl, by decide +kernel, rfl, by decide +kernel, by decide +kernel⟩
abbrev s_has_only : Stmt := top 6
theorem sc_has_only : FnScope ["text", "allowed"] ["text", "allowed"] (defScope s_has_only) := ⟨rfl, rfl, rfl, by decide +kernel, rfl, by decide +kernel, by decide +kernel⟩
abbrev s_is_sign : Stmt := top 7
theorem sc_is_sign : FnScope ["thing"] ["thing"] (defScope s_is_sign) := ⟨rfl, rfl, rfl, by decide +kernel, rfl, by decide +kernel, by decide +kernel⟩
abbrev s_is_head : Stmt := top 8
theorem sc_is_head : FnScope ["thing"] ["thing"] (defScope s_is_head) := ⟨rfl, rfl, rfl, by decide +kernel, rfl, by decide +kernel, by decide +kernel⟩
abbrev s_is_side : Stmt := top 11
theorem sc_is_side : FnScope ["thing"] ["thing"] (defScope s_is_side) := ⟨rfl, rfl, rfl, by decide +kernel, rfl, by decide +kernel, by decide +kernel⟩
abbrev s_kind_of : Stmt := top 14
theorem sc_kind_of : FnScope ["word"] ["word"] (defScope s_kind_of) := ⟨rfl, rfl, rfl, by decide +kernel, rfl, by decide +kernel, by decide +kernel⟩
abbrev s_kinds_of : Stmt := top 15
theorem sc_kinds_of : FnScope ["row", "words", "first"] ["row"] (defScope s_kinds_of) := ⟨rfl, rfl, rfl, by decide +kernel, rfl, by decide +kernel, by decide +kernel⟩
abbrev s_law_stir : Stmt := top 18
theorem sc_law_stir : FnScope ["_law_cell_here", "_law_k", "_law_number"] ["_law_cell_here", "_law_k"] (defScope s_law_stir) := ⟨rfl, rfl, rfl, by decide +kernel, rfl, by decide +kernel, by decide +kernel⟩
abbrev s_law_stream : Stmt := top 19
theorem sc_law_stream : FnScope ["_law_cell_here"] ["_law_cell_here"] (defScope s_law_stream) := ⟨rfl, rfl, rfl, by decide +kernel, rfl, by decide +kernel, by decide +kernel⟩
abbrev s_law_draw : Stmt := top 20
theorem sc_law_draw : FnScope ["_law_left", "_law_many", "_law_found"] ["_law_left", "_law_many"] (defScope s_law_draw) := ⟨rfl, rfl, rfl, by decide +kernel, rfl, by decide +kernel, by decide +kernel⟩
abbrev s_law_is_sign : Stmt := top 21
theorem sc_law_is_sign : FnScope ["_law_word_here", "_law_signs"] ["_law_word_here"] (defScope s_law_is_sign) := ⟨rfl, rfl, rfl, by decide +kernel, rfl, by decide +kernel, by decide +kernel⟩
abbrev s_law_is_head : Stmt := top 22
theorem sc_law_is_head : FnScope ["_law_word_here"] ["_law_word_here"] (defScope s_law_is_head) := ⟨rfl, rfl, rfl, by decide +kernel, rfl, by decide +kernel, by decide +kernel⟩
abbrev s_law_word : Stmt := top 23
theorem sc_law_word : FnScope ["_law_left", "_law_some", "_law_number", "_law_signs"] ["_law_left"] (defScope s_law_word) := ⟨rfl, rfl, rfl, by decide +kernel, rfl, by decide +kernel, by decide +kernel⟩
abbrev s_law_kind : Stmt := top 24
theorem sc_law_kind : FnScope ["_law_word_here", "_law_at", "_law_marks"] ["_law_word_here", "_law_at"] (defScope s_law_kind) := ⟨rfl, rfl, rfl, by decide +kernel, rfl, by decide +kernel, by decide +kernel⟩
abbrev s_law : Stmt := top 25
theorem sc_law : FnScope ["_law_script", "_law_cell_here", "_law_left", "_law_words", "_law_due", "_law_told"] ["_law_script"] (defScope s_law) := ⟨rfl, rfl, rfl, by decide +kernel, rfl, by decide +kernel, by decide +kernel⟩
end K67

namespace K67
open PySem L2 KW PySem.Spec PyProof.Rows
def isStrD : D → Bool
  | .str _ => true
  | _ => false
theorem a_str {d : D} (h : selfD d = true) : gIsA [d, .ty "str"] = .ok (.bl (isStrD d)) := by cases d <;> first | rfl | simp [selfD] at h
def signT : Str := "abcdefghijklmnopqrstuvwxyz0123456789+-*/()[]=<>,;.!?^&"
def greatT : Str := "ABCDEFGHIJKLMNOPQRSTUVWXYZ"
def smallT : Str := "abcdefghijklmnopqrstuvwxyz0123456789"
@[simp] theorem fold_sign : Str.ofString "abcdefghijklmnopqrstuvwxyz0123456789+-*/()[]=<>,;.!?^&" = signT := rfl
@[simp] theorem fold_great : Str.ofString "ABCDEFGHIJKLMNOPQRSTUVWXYZ" = greatT := rfl
@[simp] theorem fold_small : Str.ofString "abcdefghijklmnopqrstuvwxyz0123456789" = smallT := rfl
def fstC (z : Str) : Str := ⟨#[z.cps.getD 0 0]⟩
def tailC (z : Str) : Str := Txt.slice z (some 1) none
def onlyS (z a : Str) : Bool := z.cps.toList.all fun c => inS ⟨#[c]⟩ a
def shortS (z : Str) : Bool := decide (1 ≤ z.length) && decide (z.length ≤ 6)
def sgnS (z : Str) : Bool := shortS z && onlyS z signT
def hdS (z : Str) : Bool := shortS z && (inS (fstC z) greatT && onlyS (tailC z) smallT)
def sgnD : D → Bool
  | .str z => sgnS z
  | _ => false
def hdD : D → Bool
  | .str z => hdS z
  | _ => false
def shortD : D → Bool
  | .str z => shortS z
  | _ => false
def goodS (z : Str) : Bool := PyData.strOk z && decide (z.length ≤ 1000)
mutual
def goodD : D → Bool
  | .non | .bl _ | .int _ => true
  | .str z => goodS z
  | .lst ds | .tup ds => goodDs ds
  | .dct ps => ps.isEmpty
  | _ => false
def goodDs : List D → Bool
  | [] => true
  | d :: ds => goodD d && goodDs ds
end
mutual
theorem good_self : ∀ {d : D}, goodD d = true → selfD d = true
  | .non, _ | .bl _, _ | .int _, _ | .str _, _ => rfl
  | .lst ds, h => goods_self (ds := ds) h
  | .tup ds, h => goods_self (ds := ds) h
  | .dct ps, h => h
  | .ty _, h => by simp [goodD] at h
  | .ins _ _, h => by simp [goodD] at h
  | .exc _ _, h => by simp [goodD] at h
  | .dn _ _, h => by simp [goodD] at h
theorem goods_self : ∀ {ds : List D}, goodDs ds = true → selfDs ds = true
  | [], _ => rfl
  | d :: ds, h => by
    have h := Bool.and_eq_true_iff.mp h
    exact Bool.and_eq_true_iff.mpr ⟨good_self h.1, goods_self h.2⟩
end
def P1 (p : D → Bool) (G : List D → Res D) : Prop := ∀ d, goodD d = true → G [d] = .ok (.bl (p d))
theorem blsOf_map {α : Type} (p : α → Bool) : ∀ l : List α, blsOf (l.map fun d => D.bl (p d)) = some (l.map p)
  | [] => rfl
  | x :: l => by simp [blsOf, blsOf_map p l]
theorem chars_len (z : Str) : (chars z).length = z.length := by unfold chars; rw [List.length_map, Array.length_toList]; rfl
theorem line_of {n : Nat} (h : n ≤ 1000) : n ≤ sizeLine := Nat.le_trans h (by decide)
theorem short_le {z : Str} (h : shortS z = true) : z.length ≤ 6 := by
  unfold shortS at h
  simp at h
  exact h.2
@[simp] theorem gAll_bls {α : Type} (p : α → Bool) (l : List α) : gAll [.lst (l.map fun d => D.bl (p d))] = .ok (.bl (l.all p)) := by
  show (match blsOf (l.map fun d => D.bl (p d)) with | some bs => Res.ok (D.bl (bs.all id)) | none => .bad) = _
  rw [blsOf_map]
  simp [List.all_map, Function.comp_def]
def chIn (a : Str) : D → Bool
  | .str c => inS c a
  | _ => false
theorem all_chars (z a : Str) : ((chars z).all fun d => chIn a d) = onlyS z a := by
  unfold chars onlyS
  rw [List.all_map]
  rfl
theorem cps_len (z : Str) : z.cps.toList.length = z.length := by rw [Array.length_toList]; rfl
theorem ix0 {z : Str} (c : shortS z = true) : dIx (.str z) (.int 0) = .ok (.str (fstC z)) := by
  have h : 0 < z.length := by unfold shortS at c; simp at c; omega
  have e : atI z.cps.toList 0 = some (z.cps.getD 0 0) := by
    have := atI_nat (xs := z.cps.toList) (j := 0) (v := z.cps.getD 0 0) (by
      have h' : 0 < z.cps.size := h
      rw [Array.getElem?_toList]
      simp [Array.getD, h'])
    exact this
  show (match atI z.cps.toList 0 with | some c => Res.ok (D.str ⟨#[c]⟩) | none => .bad) = _
  rw [e]
  rfl
theorem sl1 (z : Str) : dSl (.str z) (some 1) none = .ok (.str (tailC z)) := rfl
theorem slice_len (z : Str) : (tailC z).length ≤ z.length := by
  unfold tailC
  rw [← cps_len, ← cps_len, slice_tail, List.length_drop]
  omega
def sideD : D → Bool
  | .str z => z == "left" || (z == "right" || z == "none")
  | _ => false
theorem good_str {z : Str} (h : goodD (.str z) = true) : PyData.strOk z = true ∧ z.length ≤ 1000 := by simpa [goodD, goodS] using h
theorem cmp_str {z : Str} (h : PyData.strOk z = true) : cmpD (.str z) = .ok (.str z) := by
  have : SeqAt.shaped (.str z) = true := by simp [SeqAt.shaped, PyData.canLay0, h, PyData.depth]
  simp [cmpD, D.py, this]
theorem eqv_str (a b : Str) : PyData.eqv (.str a) (.str b) = (a == b) := rfl
theorem str_comm (a b : Str) : (a == b) = (b == a) := by
  rw [Bool.eq_iff_iff]
  simp only [beq_iff_eq]
  exact eq_comm
theorem in_sides {z : Str} (h : PyData.strOk z = true) : dIn (.str z) (.tup [.str "left", .str "right", .str "none"]) = .ok (.bl (sideD (.str z))) := by
  have e1 : cmpD (.str "left") = .ok (.str "left") := cmp_str (by decide +kernel)
  have e2 : cmpD (.str "right") = .ok (.str "right") := cmp_str (by decide +kernel)
  have e3 : cmpD (.str "none") = .ok (.str "none") := cmp_str (by decide +kernel)
  show inD (.str z) _ false = _
  simp [inD, cmpDs, cmp_str h, e1, e2, e3, sideD, eqv_str, str_comm z]
@[simp] theorem len_str (z : Str) : gLen [.str z] = .ok (.int z.length) := rfl
@[simp] theorem len_tup (ds : List D) : gLen [.tup ds] = .ok (.int ds.length) := rfl
@[simp] theorem len_lst (ds : List D) : gLen [.lst ds] = .ok (.int ds.length) := rfl
theorem eq_int (i j : Int) : dEq (.int i) (.int j) = .ok (.bl (i == j)) := rfl
theorem ix_ln {ds : List D} {i : Nat} {d : D} (h : ds[i]? = some d) : dIx (.lst ds) (.int i) = .ok d := by
  show (match atI ds i with | some d => Res.ok d | none => .bad) = _
  rw [atI_nat h]
theorem ixl_0 (x : D) (l : List D) : dIx (.lst (x :: l)) (.int 0) = .ok x := ix_ln (i := 0) rfl
theorem filter_nil {α : Type} (p : α → Bool) (l : List α) : (l.filter fun x => !p x).isEmpty = l.all p := by
  induction l with
  | nil => rfl
  | cons x l ih => by_cases c : p x = true <;> simp [List.filter_cons, c, ih]
end K67

namespace K67
open PySem L2 KW PySem.Spec PyProof.Rows
section
variable {P : Program} {w : World} {K : PySem.W.Frag} {mg : Str → Option Value} {base : Heap} {f : Addr} {fd : FuncData}
theorem pr_is_short_text (F : Fun K "is_short_text" "is_short_text" s_is_short_text f fd) (T : Txt K mg) : ∃ G, FnOk P w K mg base CX0 1 f fd ["thing"] (spF K G) ∧ P1 shortD G := by
  refine ⟨_, F.okT (k := 0) sc_is_short_text (fun cdv Ar outer s H E hr => db_one (ds_ret (d_and (d_B c_isA T.z_isinstance (by decide +kernel) (da_cons (dv 0) (da_cons (d_ty T.z_str (T := "str") (by decide +kernel)) da_nil))) (d_one (d_chain o_le o_le d_int (d_B c_len T.z_len (by decide +kernel) (da_cons (dv 0) da_nil)) (d_glo T.g_LONGEST)))))), ?_⟩
  intro d h
  simp [runT, startD, a_str (good_self h)]
  cases d <;> simp [isStrD, shortD, gLen] 
  rename_i z
  unfold shortS
  by_cases c : 1 ≤ z.length
  · have c' : (1 : Int) ≤ z.length := by omega
    simp [c, c']
    omega
  · have c' : ¬ (1 : Int) ≤ z.length := by omega
    simp [c, c']
theorem pr_has_only (F : Fun K "has_only" "has_only" s_has_only f fd) (T : Txt K mg) : ∃ G, FnOk P w K mg base CX0 1 f fd ["text", "allowed"] (spF K G) ∧ ∀ z a, z.length ≤ 1000 → G [.str z, .str a] = .ok (.bl (onlyS z a)) := by
  refine ⟨_, F.okT (k := 0) sc_has_only (fun cdv Ar outer s H E hr => db_one (ds_ret (d_B (c_all rfl) T.z_all (by decide +kernel) (da_cons (DN.de (dn_comp ["mark"] [1] rfl (compOk_of (sc := defScope s_has_only) (N := ["text", "allowed"]) (by decide +kernel)) (di_any (dv 0)) (dg_n (show (["mark", "allowed"] : List Str).Nodup by decide +kernel)) df_nil (d_cmp (o_in (hu100 hr)) (dv 0) (dv 1)))) da_nil)))), ?_⟩
  intro z a hz
  simp [runT, startD]
  rw [show items (.str z) = .ok (chars z) from rfl, Res.bind_ok, gd_pos (by rw [chars_len]; exact line_of hz), compD_map (fun d => D.bl (chIn a d)) (fun d hd => ?_)]
  · simp only [Res.bind_ok, toD_l, gAll_bls, noE_ok, go_ok, outR_rt, all_chars]
  · obtain ⟨c, _, rfl⟩ := List.mem_map.mp hd
    refine ⟨_, rfl, rfl, ?_⟩
    simp [rhoC]
    rfl
theorem pr_is_sign {G_is_short_text : List D → Res D} (c_is_short_text : Callee P w K mg base 1 "is_short_text" ["thing"] (spF K G_is_short_text)) {G_has_only : List D → Res D} (c_has_only : Callee P w K mg base 1 "has_only" ["text", "allowed"] (spF K G_has_only)) (p_short : P1 shortD G_is_short_text) (p_only : ∀ z a, z.length ≤ 1000 → G_has_only [.str z, .str a] = .ok (.bl (onlyS z a))) (F : Fun K "is_sign" "is_sign" s_is_sign f fd) (T : Txt K mg) : ∃ G, FnOk P w K mg base CX0 2 f fd ["thing"] (spF K G) ∧ P1 sgnD G := by
  refine ⟨_, F.okT (k := 1) sc_is_sign (fun cdv Ar outer s H E hr => db_one (ds_ret (d_and (d_fn c_is_short_text hr (da_cons (dv 0) da_nil)) (d_one (d_fn c_has_only hr (da_cons (dv 0) (da_cons (d_glo T.g_IN_SIGNS) da_nil))))))), ?_⟩
  intro d h
  simp [runT, startD, p_short d h]
  cases d <;> simp [shortD, sgnD, sgnS]
  rename_i z
  by_cases c : shortS z = true
  · simp [c, p_only z _ (by have := short_le c; omega)]
  · simp [c]
theorem pr_is_head {G_is_short_text : List D → Res D} (c_is_short_text : Callee P w K mg base 1 "is_short_text" ["thing"] (spF K G_is_short_text)) {G_has_only : List D → Res D} (c_has_only : Callee P w K mg base 1 "has_only" ["text", "allowed"] (spF K G_has_only)) (p_short : P1 shortD G_is_short_text) (p_only : ∀ z a, z.length ≤ 1000 → G_has_only [.str z, .str a] = .ok (.bl (onlyS z a))) (F : Fun K "is_head" "is_head" s_is_head f fd) (T : Txt K mg) : ∃ G, FnOk P w K mg base CX0 2 f fd ["thing"] (spF K G) ∧ P1 hdD G := by
  refine ⟨_, F.okT (k := 1) sc_is_head (fun cdv Ar outer s H E hr => db_one (ds_ret (d_and (d_fn c_is_short_text hr (da_cons (dv 0) da_nil)) (d_and (d_cmp (o_in (hu100 hr)) (d_ix x_ix (dv 0) d_int) (d_glo T.g_GREAT)) (d_one (d_fn c_has_only hr (da_cons (d_sl (dv 0) (do_some d_int) do_none) (da_cons (d_glo T.g_SMALL_AND_FIGURES) da_nil)))))))), ?_⟩
  intro d h
  simp [runT, startD, p_short d h]
  cases d <;> simp [shortD, hdD, hdS]
  rename_i z
  by_cases c : shortS z = true
  · have e2 : (tailC z).length ≤ 1000 := by
      have := slice_len z
      have := short_le c
      omega
    simp [c, ix0 c, asI, sl1, dIn, dInG, p_only _ smallT e2]
    by_cases k : inS (fstC z) greatT = true <;> simp [k]
  · simp [c]
theorem pr_is_side (F : Fun K "is_side" "is_side" s_is_side f fd) (T : Txt K mg) : ∃ G, FnOk P w K mg base CX0 1 f fd ["thing"] (spF K G) ∧ P1 sideD G := by
  refine ⟨_, F.okT (k := 0) sc_is_side (fun cdv Ar outer s H E hr => db_one (ds_ret (d_and (d_B c_isA T.z_isinstance (by decide +kernel) (da_cons (dv 0) (da_cons (d_ty T.z_str (T := "str") (by decide +kernel)) da_nil))) (d_one (d_cmp (o_in (hu100 hr)) (dv 0) (d_glo T.g_SIDES)))))), ?_⟩
  intro d h
  simp [runT, startD, a_str (good_self h)]
  cases d <;> simp [isStrD]
  case str z => rw [in_sides (good_str h).1]; simp
  all_goals rfl
end
end K67

namespace K67
open PySem L2 KW PySem.Spec PyProof.Rows
theorem len0 {α : Type} (l : List α) : (((l.length : Int)) == 0) = l.isEmpty := by
  cases l with
  | nil => rfl
  | cons a l => simp; omega
section
variable {P : Program} {w : World} {K : PySem.W.Frag} {mg : Str → Option Value} {base : Heap} {f : Addr} {fd : FuncData}
theorem pr_law_is_sign (F : Fun K "_law_is_sign" "_law_is_sign" s_law_is_sign f fd) (T : Txt K mg) : ∃ G, FnOk P w K mg base CX0 1 f fd ["_law_word_here"] (spF K G) ∧ ∀ z : Str, G [.str z] = .ok (.bl (sgnS z)) := by
  refine ⟨_, F.okT (k := 0) sc_law_is_sign (fun cdv Ar outer s H E hr => db_cons (ds_n sc_law_is_sign.nd d_str)
    (db_one (ds_ret (d_and (d_chain o_le o_le d_int (d_B c_len T.z_len (by decide +kernel) (da_cons (dv 0) da_nil)) d_int) (d_one (d_cmp (o_eq (hu64 hr)) (d_B c_len T.z_len (by decide +kernel) (da_cons (DN.de (dn_comp ["_law_sign"] [1] rfl (compOk_of (sc := defScope s_law_is_sign) (N := ["_law_word_here", "_law_signs"]) (by decide +kernel)) (di_any (dv 0)) (dg_n (show (["_law_sign", "_law_signs"] : List Str).Nodup by decide +kernel)) (df_one (dt_cmp (o_notin (hu100 hr)) (dv 0) (dv 1))) (dv 0))) da_nil)) d_int)))))), ?_⟩
  intro z
  simp [runT, startD, gLen]
  unfold sgnS shortS
  by_cases c0 : 1 ≤ z.length
  · have c0' : (1 : Int) ≤ z.length := by omega
    by_cases c : z.length ≤ 6
    · have c' : (z.length : Int) ≤ 6 := by omega
      simp [c, c', c0, c0']
      rw [show items (.str z) = .ok (chars z) from rfl, Res.bind_ok, gd_pos (by rw [chars_len]; exact line_of (by omega)), compD_filter (fun d => !chIn signT d) (fun d => d) (fun d hd => ?_)]
      · simp [eq_int, len0, filter_nil, all_chars, gLen]
      · obtain ⟨x, _, rfl⟩ := List.mem_map.mp hd
        exact ⟨_, rfl, by simp [rhoC, dNotIn, dInG, chIn], fun _ => by simp [rhoC]⟩
    · have c' : ¬ (z.length : Int) ≤ 6 := by omega
      simp [c, c', c0, c0']
  · have c0' : ¬ (1 : Int) ≤ z.length := by omega
    simp [c0, c0']
theorem pr_law_is_head (F : Fun K "_law_is_head" "_law_is_head" s_law_is_head f fd) (T : Txt K mg) : ∃ G, FnOk P w K mg base CX0 1 f fd ["_law_word_here"] (spF K G) ∧ ∀ z : Str, G [.str z] = .ok (.bl (hdS z)) := by
  refine ⟨_, F.okT (k := 0) sc_law_is_head (fun cdv Ar outer s H E hr => db_cons (ds_if (dt_w (dw_or (dt_not (dt_chain o_le o_le d_int (d_B c_len T.z_len (by decide +kernel) (da_cons (dv 0) da_nil)) d_int)) (dw_or1 (dt_cmp (o_notin (hu100 hr)) (d_ix x_ix (dv 0) d_int) d_str)))) (db_one (ds_ret d_bl)) db_nil)
    (db_one (ds_ret (d_cmp (o_eq (hu64 hr)) (d_B c_len T.z_len (by decide +kernel) (da_cons (DN.de (dn_comp ["_law_sign"] [] rfl (compOk_of (sc := defScope s_law_is_head) (N := ["_law_word_here"]) (by decide +kernel)) (di_any (d_sl (dv 0) (do_some d_int) do_none)) (dg_n (show (["_law_sign"] : List Str).Nodup by decide +kernel)) (df_one (dt_cmp (o_notin (hu100 hr)) (dv 0) d_str)) (dv 0))) da_nil)) d_int)))), ?_⟩
  intro z
  simp [runT, startD, gLen]
  unfold hdS
  by_cases cs : shortS z = true
  · have hz := short_le cs
    have h1 : (1 : Int) ≤ z.length := by unfold shortS at cs; simp at cs; omega
    have h2 : (z.length : Int) ≤ 6 := by omega
    have hl := slice_len z
    simp [cs, h1, h2, ix0 cs, dNotIn, dInG]
    by_cases k : inS (fstC z) greatT = true
    · simp [k, asI, sl1]
      rw [show items (.str (tailC z)) = .ok (chars (tailC z)) from rfl, Res.bind_ok, gd_pos (by rw [chars_len]; exact line_of (by omega)), compD_filter (fun d => !chIn smallT d) (fun d => d) (fun d hd => ?_)]
      · simp [eq_int, len0, filter_nil, all_chars, gLen]
      · obtain ⟨x, _, rfl⟩ := List.mem_map.mp hd
        exact ⟨_, rfl, by simp [rhoC, dNotIn, dInG, chIn], fun _ => by simp [rhoC]⟩
    · simp [k]
  · simp [cs]
    unfold shortS at cs
    by_cases c0 : 1 ≤ z.length
    · have c0' : (1 : Int) ≤ z.length := by omega
      have c' : ¬ (z.length : Int) ≤ 6 := by
        simp [c0] at cs
        omega
      simp [c0', c']
    · have c0' : ¬ (1 : Int) ≤ z.length := by omega
      simp [c0']
end
end K67

namespace K67
open PySem L2 KW PySem.Spec PyProof.Rows
abbrev dN (n : Nat) : D := .int (n : Int)
theorem intL_len (n : Nat) : (intL 0 n).length = n := by simp [intL]
theorem ix_m {α : Type} {c : α → D} {rs : List α} {i : Nat} (h : i < rs.length) : dIx (.lst (rs.map c)) (.int (i : Int)) = .ok (c rs[i]) := ix_ln (by rw [List.getElem?_map, List.getElem?_eq_getElem h]; rfl)
theorem ix_mem {α : Type} {c : α → D} {rs : List α} {i : Nat} (h : i < rs.length) : ∃ x, x ∈ rs ∧ dIx (.lst (rs.map c)) (.int (i : Int)) = .ok (c x) := ⟨rs[i], List.getElem_mem h, ix_m h⟩
theorem ixl_1 (x y : D) (l : List D) : dIx (.lst (x :: y :: l)) (.int 1) = .ok y := ix_ln (i := 1) rfl
theorem ixl_2 (x y z : D) (l : List D) : dIx (.lst (x :: y :: z :: l)) (.int 2) = .ok z := ix_ln (i := 2) rfl
theorem modI (a : Int) {b : Nat} (h : 0 < b) : ∃ m : Nat, a % (b : Int) = (m : Int) ∧ m < b := by
  have h1 := Int.emod_nonneg a (show (b : Int) ≠ 0 by omega)
  have h2 := Int.emod_lt_of_pos a (show (0 : Int) < (b : Int) by omega)
  exact ⟨(a % b).toNat, by omega, by omega⟩
theorem modZ (a : Int) {b : Int} (h : 0 < b) : ∃ m : Nat, a % b = (m : Int) ∧ (m : Int) < b := by
  have h1 := Int.emod_nonneg a (show b ≠ 0 by omega)
  have h2 := Int.emod_lt_of_pos a h
  exact ⟨(a % b).toNat, by omega, by omega⟩
@[simp] theorem mulX_ii (i j : Int) : dMulX (.int i) (.int j) = gd (CMul i j) (.ok (.int (i * j))) := Eq.trans rfl rfl
@[simp] theorem add_ii (i j : Int) : dAdd (.int i) (.int j) = .ok (.int (i + j)) := Eq.trans rfl rfl
theorem mod_ii {i j : Int} (h : 0 < j) : dMod (.int i) (.int j) = .ok (.int (i % j)) := if_pos h
theorem div_ii {i j : Int} (h : 0 < j) (h2 : j < 2 ^ 64) : dDiv (.int i) (.int j) = .ok (.int (i / j)) := if_pos ⟨h, h2⟩
theorem rng_n {n : Nat} (h : n ≤ 1000) : rng1 [.int (n : Int)] = .ok (intL 0 n) := by
  show gd _ _ = _
  rw [gd_pos (by omega), Int.toNat_natCast]
theorem rng_lit {n : Nat} (j : Int) (e : j = n) (h : n ≤ 1000) : rng1 [.int j] = .ok (intL 0 n) := by rw [e, rng_n h]
theorem bindN {α β : Type} (a : α) (f : α → Res β) : (Res.ok a).bind f = f a := Eq.trans rfl rfl
theorem goN {α : Type} (a : α) (ρ : Rho) (k : α → Out) : (Res.ok a).go ρ k = k a := Eq.trans rfl rfl
theorem thenN (ρ : Rho) (f : Rho → Out) : (Out.nx ρ).andThen f = f ρ := Eq.trans rfl rfl
end K67

namespace K67
open PySem L2 KW PySem.Spec PyProof.Rows
def BL : Str := " "
theorem str_ext {a b : Str} (h : a.cps.toList = b.cps.toList) : a = b := by
  obtain ⟨a⟩ := a
  obtain ⟨b⟩ := b
  congr
  exact Array.ext' h
theorem join_cps (z : Str) (y : Str) (ys : List Str) : (Txt.join z (y :: ys)).cps.toList = y.cps.toList ++ ys.flatMap fun p => z.cps.toList ++ p.cps.toList := by
  have key : ∀ (l : List Str) (acc : Array Nat), (l.foldl (fun acc (p : Str) => acc ++ z.cps ++ p.cps) acc).toList = acc.toList ++ l.flatMap fun p => z.cps.toList ++ p.cps.toList := by
    intro l
    induction l with
    | nil => intro acc; simp
    | cons p l ih => intro acc; rw [List.foldl_cons, ih, List.flatMap_cons]; simp
  show (List.foldl _ _ _ : Array Nat).toList = _
  rw [key]
  rfl
theorem glue_flat (c : Nat) : ∀ (w : List Nat) (ws : List (List Nat)), glue c (w :: ws) = w ++ ws.flatMap fun p => c :: p
  | w, [] => by simp [glue]
  | w, v :: r => by rw [glue, glue_flat c v r]; simp
theorem splitS_join {c : Nat} {ys : List Str} (h : ys ≠ []) (k : ∀ y ∈ ys, c ∉ y.cps.toList) : splitS c (Txt.join ⟨#[c]⟩ ys) = ys := by
  match ys, h with
  | y :: ys, _ =>
    have e : (Txt.join ⟨#[c]⟩ (y :: ys)).cps.toList = glue c ((y :: ys).map fun p => p.cps.toList) := by
      rw [join_cps, List.map_cons, glue_flat, List.flatMap_map]
      rfl
    unfold splitS
    rw [e, splitL_glue c _ (by simp) (fun w hw => by
      obtain ⟨p, hp, rfl⟩ := List.mem_map.mp hw
      exact k p hp), List.map_map]
    refine (List.map_congr_left fun p _ => ?_).trans (List.map_id _)
    exact str_ext (by simp)
theorem strsOf_map : ∀ ss : List Str, strsOf (ss.map D.str) = some ss
  | [] => rfl
  | z :: ss => by simp [strsOf, strsOf_map ss]
theorem sum_le {n : Nat} : ∀ {ws : List Str}, (∀ x ∈ ws, x.length ≤ n) → (ws.map (·.length)).sum ≤ ws.length * n
  | [], _ => by simp
  | w :: ws, h => by
    have h1 := h w (by simp)
    have h2 := sum_le (n := n) (ws := ws) fun x m => h x (List.mem_cons_of_mem _ m)
    rw [List.map_cons, List.sum_cons, List.length_cons, Nat.add_mul]
    omega
theorem join_l {z : Str} {ws : List Str} {n m : Nat} (h : ∀ x ∈ ws, x.length ≤ n) (hz : z.length = 1) (hm : ws.length ≤ m) (hs : m * n + m ≤ 16777216) : joinL z (ws.map D.str) = .ok (.str (Txt.join z ws)) := by
  unfold joinL
  rw [strsOf_map]
  have h1 := sum_le h
  have h2 : ws.length * n ≤ m * n := Nat.mul_le_mul_right n hm
  exact gd_pos (by rw [hz]; omega)
theorem compD_mapL {α : Type} (c h : α → D) {g : D → Rho → Res Rho} {fT : Rho → Res Bool} {fe : Rho → Res D} {ρ : Rho} : ∀ {xs : List α}, (∀ x ∈ xs, ∃ ρ1, g (c x) ρ = .ok ρ1 ∧ fT (frz ρ1) = .ok true ∧ fe ρ1 = .ok (h x)) → compD g fT fe ρ (xs.map c) = .ok (xs.map h)
  | [], _ => rfl
  | d :: ds, k => by
    obtain ⟨ρ1, k1, k2, k3⟩ := k d List.mem_cons_self
    simp [compD, k1, k2, k3, compD_mapL c h fun x hx => k x (List.mem_cons_of_mem _ hx)]
end K67

namespace K67
open PySem L2 KW PySem.Spec PyProof.Rows
theorem pys_strs : ∀ ss : List Str, D.pys (ss.map D.str) = some (ss.map PyData.str)
  | [] => rfl
  | z :: ss => by simp [D.pys, D.py, pys_strs ss]
theorem lay_strs : ∀ {ss : List Str}, (∀ b ∈ ss, PyData.strOk b = true) → PyData.canLayAll0 (ss.map PyData.str) = true
  | [], _ => rfl
  | z :: ss, h => by
    have h1 := h z List.mem_cons_self
    have h2 := lay_strs fun b hb => h b (List.mem_cons_of_mem _ hb)
    simp [PyData.canLayAll0, PyData.canLay0, h1, h2]
theorem dep_strs : ∀ ss : List Str, PyData.depthAll (ss.map PyData.str) ≤ 1
  | [] => by simp [PyData.depthAll]
  | z :: ss => by
    have := dep_strs ss
    simp [PyData.depthAll, PyData.depth]
    omega
theorem eqvAll_self : ∀ as : List Str, PyData.eqvAll (as.map PyData.str) (as.map PyData.str) = true
  | [] => rfl
  | a :: as => by
    show (PyData.eqv (.str a) (.str a) && PyData.eqvAll (as.map PyData.str) (as.map PyData.str)) = _
    rw [eqvAll_self as, eqv_str]
    simp
theorem cmp_strs {ss : List Str} (h : ∀ b ∈ ss, PyData.strOk b = true) : cmpD (.lst (ss.map D.str)) = .ok (.list (ss.map PyData.str)) := by
  have e : (D.lst (ss.map D.str)).py = some (.list (ss.map PyData.str)) := by simp [D.py, pys_strs]
  have s : SeqAt.shaped (.list (ss.map PyData.str)) = true := by
    have d := dep_strs ss
    simp [SeqAt.shaped, PyData.canLay0, lay_strs h, PyData.depth]
    omega
  unfold cmpD
  rw [e]
  simp [s]
theorem ne_self {ss : List Str} (h : ∀ b ∈ ss, PyData.strOk b = true) : dNe (.lst (ss.map D.str)) (.lst (ss.map D.str)) = .ok (.bl false) := by
  unfold dNe
  rw [cmp_strs h]
  show Res.ok (D.bl (!PyData.eqvAll (ss.map PyData.str) (ss.map PyData.str))) = _
  rw [eqvAll_self]
  rfl
theorem cut_1 {α : Type} (x : α) (xs : List α) : cutC (x :: xs) (some 1) none = xs := by
  unfold cutC
  rw [show (some (1 : Int)) = some ((1 : Nat) : Int) from rfl, HT.sIx_nat, HT.sIx_none]
  simp
def marksD : List (Str × Str) := [(":", "is"), ("|", "or"), ("~", "empty")]
def markO (z : Str) : Option Str := (marksD.find? fun p => decide (p.1 = z)).map (·.2)
def markS (z : Str) : Str := (markO z).getD "bad"
def kindS (z : Str) : Str := if hdS z = true then "head" else if sgnS z = true then "sign" else markS z
def firstS (z : Str) : Str := if sideD (.str z) = true then "side" else kindS z
def kindsL : List Str → List Str
  | [] => []
  | z :: ws => firstS z :: ws.map kindS
theorem val_mark (z : Str) : valD (dS2 marksD) (.inr z) = (markO z).map D.str := by
  unfold valD dS2 markO
  rw [List.find?_map]
  have : ((fun p : D × D => eqK p.1 (.inr z)) ∘ fun p : Str × Str => (D.str p.1, D.str p.2)) = fun p : Str × Str => decide (p.1 = z) := by
    funext p
    rfl
  rw [this]
  cases marksD.find? fun p => decide (p.1 = z) <;> rfl
theorem get_mark (z : Str) : gGetG marksD (.str z) (.str "bad") = .ok (.str (markS z)) := by
  show Res.ok ((valD (dS2 marksD) (.inr z)).getD (.str "bad")) = _
  rw [val_mark]
  unfold markS
  cases markO z <;> rfl
@[simp] theorem szD_small {α : Type} {ds : List D} {k : Res α} (h : ds.length ≤ 1000) : szD ds k = k := szD_pos (line_of h)
theorem in_sidesL {z : Str} (h : PyData.strOk z = true) : dIn (.str z) (.lst [.str "left", .str "right", .str "none"]) = .ok (.bl (sideD (.str z))) := by
  have e1 : cmpD (.str "left") = .ok (.str "left") := cmp_str (by decide +kernel)
  have e2 : cmpD (.str "right") = .ok (.str "right") := cmp_str (by decide +kernel)
  have e3 : cmpD (.str "none") = .ok (.str "none") := cmp_str (by decide +kernel)
  show inD (.str z) _ false = _
  simp [inD, cmpDs, cmp_str h, e1, e2, e3, sideD, eqv_str, str_comm z]
theorem good_z {z : Str} (h : goodS z = true) : goodD (.str z) = true := h
theorem kind_ok (z : Str) : PyData.strOk (kindS z) = true ∧ PyData.strOk (firstS z) = true := by
  have h : ∀ y ∈ (["head", "sign", "bad", "is", "or", "empty", "side"] : List Str), PyData.strOk y = true := by decide +kernel
  have m : markS z ∈ (["head", "sign", "bad", "is", "or", "empty", "side"] : List Str) := by
    unfold markS markO marksD
    simp only [List.find?_cons, List.find?_nil]
    split
    · simp
    · split
      · simp
      · split <;> simp
  have k : kindS z ∈ (["head", "sign", "bad", "is", "or", "empty", "side"] : List Str) := by
    unfold kindS
    split
    · simp
    · split
      · simp
      · exact m
  refine ⟨h _ k, h _ ?_⟩
  unfold firstS
  split
  · simp
  · exact k
theorem kinds_ok (ws : List Str) : ∀ b ∈ kindsL ws, PyData.strOk b = true := by
  cases ws with
  | nil => intro b hb; cases hb
  | cons z ws =>
    intro b hb
    rcases List.mem_cons.mp hb with rfl | hb
    · exact (kind_ok z).2
    · obtain ⟨x, _, rfl⟩ := List.mem_map.mp hb
      exact (kind_ok x).1
structure WordsOk (ws : List Str) : Prop where
  ne : ws ≠ []
  g : ∀ x ∈ ws, goodS x = true
  no : ∀ x ∈ ws, 32 ∉ x.cps.toList
  l : ws.length ≤ 10
theorem words_split {ws : List Str} (r : WordsOk ws) : splitD 32 (.str (Txt.join BL ws)) = .ok (.l (ws.map D.str)) := by
  have h1 := glued_len BL ws
  have h2 := sum_le (n := 1000) (ws := ws) fun x m => (good_str (z := x) (r.g x m)).2
  have h3 := r.l
  rw [show BL.length = 1 from rfl] at h1
  have h4 : ws.length * 1000 ≤ 10 * 1000 := Nat.mul_le_mul_right _ h3
  show gd _ _ = _
  rw [gd_pos (by rw [show sizeLine = 16777216 from rfl]; omega)]
  have := splitS_join (c := 32) r.ne fun y m => r.no y m
  rw [show BL = ⟨#[32]⟩ from rfl, this]
section
variable {P : Program} {w : World} {K : PySem.W.Frag} {mg : Str → Option Value} {base : Heap} {f : Addr} {fd : FuncData}
theorem pr_kind_of {G_is_head : List D → Res D} (c_is_head : Callee P w K mg base 2 "is_head" ["thing"] (spF K G_is_head)) {G_is_sign : List D → Res D} (c_is_sign : Callee P w K mg base 2 "is_sign" ["thing"] (spF K G_is_sign)) (dk : DctG P w K mg "KIND_BY_MARK" marksD) (p_head : P1 hdD G_is_head) (p_sign : P1 sgnD G_is_sign) (F : Fun K "kind_of" "kind_of" s_kind_of f fd) (T : Txt K mg) : ∃ G, FnOk P w K mg base CX0 3 f fd ["word"] (spF K G) ∧ ∀ z : Str, goodS z = true → G [.str z] = .ok (.str (kindS z)) := by
  refine ⟨_, F.okT (k := 2) sc_kind_of (fun cdv Ar outer s H E hr => db_cons (ds_if (dt_val (d_fn c_is_head hr (da_cons (dv 0) da_nil))) (db_one (ds_ret d_str)) db_nil)
    (db_one (ds_ret (d_ife (dt_val (d_fn c_is_sign hr (da_cons (dv 0) da_nil))) d_str (d_getG (hu_of hr) dk (dv 0) d_str))))), ?_⟩
  intro z h
  have h1 := p_head _ (good_z h)
  have h2 := p_sign _ (good_z h)
  simp [runT, startD, h1, h2, hdD, sgnD, kindS, get_mark]
  by_cases a : hdS z = true
  · simp [a]
  · by_cases b : sgnS z = true <;> simp [a, b, h2, sgnD, get_mark]
theorem pr_kinds_of {G_is_side : List D → Res D} (c_is_side : Callee P w K mg base 1 "is_side" ["thing"] (spF K G_is_side)) {G_kind_of : List D → Res D} (c_kind_of : Callee P w K mg base 3 "kind_of" ["word"] (spF K G_kind_of)) (p_side : P1 sideD G_is_side) (p_kind : ∀ z : Str, goodS z = true → G_kind_of [.str z] = .ok (.str (kindS z))) (F : Fun K "kinds_of" "kinds_of" s_kinds_of f fd) (T : Txt K mg) : ∃ G, FnOk P w K mg base (CXe P w) 4 f fd ["row"] (spN K G) ∧ ∀ ws : List Str, WordsOk ws → G [.str (Txt.join BL ws)] = .ok ((kindsL ws).map D.str) := by
  refine ⟨_, F.okN (k := 3) sc_kinds_of (fun cdv Ar outer s H E hr hq => dr_cons (ds_n sc_kinds_of.nd (DN.de (dn_split (c := 32) (dv 0))))
    (dr_cons (ds_n sc_kinds_of.nd (d_ife (dt_val (d_fn c_is_side hr (da_cons (d_ix x_ix (dv 1) d_int) da_nil))) d_str (d_fn c_kind_of hr (da_cons (d_ix x_ix (dv 1) d_int) da_nil))))
    (dr_ret (dn_cat (d_lst (da_cons (dv 2) da_nil)) (DN.de (dn_comp ["word"] [] rfl (compOk_of (sc := defScope s_kinds_of) (N := ["row", "words", "first"]) (by decide +kernel)) (di_any (d_sl (dv 1) (do_some d_int) do_none)) (dg_n (show (["word"] : List Str).Nodup by decide +kernel)) df_nil (d_fn c_kind_of hr (da_cons (dv 0) da_nil)))))))), ?_⟩
  intro ws r
  match ws, r with
  | [], r => exact absurd rfl r.ne
  | z :: ws, r =>
    have hz := r.g z List.mem_cons_self
    have h1 := p_side _ (good_z hz)
    have h2 := p_kind z hz
    have hl := r.l
    rw [List.length_cons] at hl
    have hs : dSl (.lst (D.str z :: ws.map D.str)) (some 1) none = .ok (.lst (ws.map D.str)) := by
      show Res.ok (D.lst (cutC _ _ _)) = _
      rw [cut_1]
    have hi : ∀ l : List D, items (.lst l) = .ok l := fun l => rfl
    have hc : ∀ {g fT fe ρ}, (∀ x ∈ ws, ∃ ρ1, g (D.str x) ρ = .ok ρ1 ∧ fT (frz ρ1) = .ok true ∧ fe ρ1 = .ok (D.str (kindS x))) → compD g fT fe ρ (ws.map D.str) = .ok (ws.map fun x => D.str (kindS x)) := fun k => compD_mapL D.str (fun x => D.str (kindS x)) k
    have e1 : (if sideD (.str z) = true then Res.ok (D.str "side") else Res.ok (D.str (kindS z))) = .ok (.str (firstS z)) := by
      unfold firstS
      split <;> rfl
    simp [L2.runN, startD, thenR, retN, words_split r, ixl_0, h1, h2, hs, asI, hi, e1]
    rw [gd_pos (line_of (by omega)), hc (fun x hx => ⟨_, rfl, rfl, by simp [rhoC, p_kind x (r.g x (List.mem_cons_of_mem _ hx))]⟩)]
    simp [kindsL, szD_small, catD, Function.comp_def]
    rw [gd_pos (line_of (by omega))]
theorem pr_law_kind {G_law_is_head : List D → Res D} (c__law_is_head : Callee P w K mg base 1 "_law_is_head" ["_law_word_here"] (spF K G_law_is_head)) {G_law_is_sign : List D → Res D} (c__law_is_sign : Callee P w K mg base 1 "_law_is_sign" ["_law_word_here"] (spF K G_law_is_sign)) (p_head : ∀ z : Str, G_law_is_head [.str z] = .ok (.bl (hdS z))) (p_sign : ∀ z : Str, G_law_is_sign [.str z] = .ok (.bl (sgnS z))) (F : Fun K "_law_kind" "_law_kind" s_law_kind f fd) (T : Txt K mg) : ∃ G, FnOk P w K mg base CX0 2 f fd ["_law_word_here", "_law_at"] (spF K G) ∧ ∀ (z : Str) (n : Nat), goodS z = true → G [.str z, dN n] = .ok (.str (if n = 0 then firstS z else kindS z)) := by
  refine ⟨_, F.okT (k := 1) sc_law_kind (fun cdv Ar outer s H E hr => db_cons (ds_if (dt_w (dw_and (dt_cmp (o_eq (hu64 hr)) (dv 1) d_int) (dw_and1 (dt_cmp (o_in (hu100 hr)) (dv 0) (d_lst (da_cons d_str (da_cons d_str (da_cons d_str da_nil)))))))) (db_one (ds_ret d_str)) db_nil)
    (db_cons (ds_if (dt_val (d_fn c__law_is_head hr (da_cons (dv 0) da_nil))) (db_one (ds_ret d_str)) db_nil)
    (db_cons (ds_if (dt_val (d_fn c__law_is_sign hr (da_cons (dv 0) da_nil))) (db_one (ds_ret d_str)) db_nil)
    (db_cons (ds_n sc_law_kind.nd (d_disp [(":", "is"), ("|", "or"), ("~", "empty")] (pps_cons pe_str pe_str (pps_cons pe_str pe_str (pps_cons pe_str pe_str pps_nil)))))
    (db_cons (ds_if (dt_cmp (o_inW (hu200 hr)) (dv 0) (dv 2)) (db_one (ds_ret (d_ixK (hu_of hr) (dv 2) (dv 0)))) db_nil)
    (db_one (ds_ret d_str))))))), ?_⟩
  intro z n h
  have h1 := p_head z
  have h2 := p_sign z
  have h3 := in_sidesL (good_str (z := z) h).1
  have e0 : dEq (dN n) (.int 0) = .ok (.bl (decide (n = 0))) := by
    rw [eq_int]
    congr 2
    by_cases c : n = 0
    · subst c; rfl
    · simp [c]
  have e4 : dInA w false (.str z) (.dct (dS2 marksD)) = .ok (.bl (markO z).isSome) := by
    rw [dInA_dct]
    show Res.ok (D.bl (valD (dS2 marksD) (.inr z)).isSome) = _
    rw [val_mark]
    cases markO z <;> rfl
  have e5 : gIxK (.dct (dS2 marksD)) (.str z) = (match markO z with | some y => .ok (.str y) | none => .bad) := by
    show (match valD (dS2 marksD) (.inr z) with | some d => Res.ok d | none => .bad) = _
    rw [val_mark]
    cases markO z <;> rfl
  have e6 : dS2 [(":", "is"), ("|", "or"), ("~", "empty")] = dS2 marksD := rfl
  simp [runT, startD, h1, h2, h3, e0, e4, e5, e6]
  by_cases c : n = 0
  · subst c
    by_cases s : sideD (.str z) = true
    · simp [s, firstS]
    · simp [s, firstS, kindS, markS]
      by_cases a : hdS z = true
      · simp [a, h1]
      · by_cases b : sgnS z = true
        · simp [a, b, h1, h2]
        · cases q : markO z <;> simp [a, b, h1, h2, e4, e5, q]
  · simp [c, kindS, markS]
    by_cases a : hdS z = true
    · simp [a, h1]
    · by_cases b : sgnS z = true
      · simp [a, b, h1, h2]
      · cases q : markO z <;> simp [a, b, h1, h2, e4, e5, q]
theorem pr_law_stir (F : Fun K "_law_stir" "_law_stir" s_law_stir f fd) (T : Txt K mg) : ∃ G, FnOk P w K mg base CX0 1 f fd ["_law_cell_here", "_law_k"] (spF K G) ∧ ∀ (c : Int) (k : Nat), k ≤ 100 → ∃ n : Int, G [.int c, dN k] = .ok (.int n) := by
  refine ⟨_, F.okT (k := 0) sc_law_stir (fun cdv Ar outer s H E hr => db_cons (ds_n sc_law_stir.nd (d_op o_mod (d_op o_add (d_op o_add (d_op o_mulX (d_op o_mod (dv 0) d_int) d_int) (d_op o_mulX d_int (dv 1))) d_int) d_int))
    (db_cons (ds_n sc_law_stir.nd (d_op o_mod (d_op o_mulX (dv 2) (dv 2)) d_int))
    (db_one (ds_ret (d_op o_mod (d_op o_add (d_op o_add (d_op o_mulX (dv 2) (dv 2)) (d_op o_mulX d_int (dv 2))) d_int) d_int))))), ?_⟩
  intro c k hk
  obtain ⟨m, e, hm⟩ := modZ c (b := 2147483647) (by omega)
  obtain ⟨m2, e2, hm2⟩ := modZ ((m : Int) * 48271 + 69621 * (k : Int) + 7) (b := 2147483647) (by omega)
  obtain ⟨m3, e3, hm3⟩ := modZ ((m2 : Int) * m2) (b := 2147483629) (by omega)
  have c1 : CMul (m : Int) 48271 := .inr ⟨by omega, by omega⟩
  have c2 : CMul 69621 (k : Int) := .inl ⟨by omega, by omega⟩
  have c3 : CMul (m2 : Int) m2 := .inr ⟨by omega, by omega⟩
  have c4 : CMul (m3 : Int) m3 := .inr ⟨by omega, by omega⟩
  have c5 : CMul 16807 (m3 : Int) := .inl ⟨by omega, by omega⟩
  refine ⟨((m3 : Int) * m3 + 16807 * m3 + 11) % 2147483587, ?_⟩
  have r1 : dMod (.int c) (.int 2147483647) = .ok (.int m) := by rw [mod_ii (by omega), e]
  have r2 : dMod (.int ((m : Int) * 48271 + 69621 * (k : Int) + 7)) (.int 2147483647) = .ok (.int m2) := by rw [mod_ii (by omega), e2]
  have r3 : dMod (.int ((m2 : Int) * m2)) (.int 2147483629) = .ok (.int m3) := by rw [mod_ii (by omega), e3]
  have r4 : dMod (.int ((m3 : Int) * m3 + 16807 * m3 + 11)) (.int 2147483587) = .ok (.int (((m3 : Int) * m3 + 16807 * m3 + 11) % 2147483587)) := mod_ii (by omega)
  have s1 : dMulX (.int m) (.int 48271) = .ok (.int (m * 48271)) := by rw [mulX_ii, gd_pos c1]
  have s2 : dMulX (.int 69621) (.int k) = .ok (.int (69621 * k)) := by rw [mulX_ii, gd_pos c2]
  have s3 : dMulX (.int m2) (.int m2) = .ok (.int (m2 * m2)) := by rw [mulX_ii, gd_pos c3]
  have s4 : dMulX (.int m3) (.int m3) = .ok (.int (m3 * m3)) := by rw [mulX_ii, gd_pos c4]
  have s5 : dMulX (.int 16807) (.int m3) = .ok (.int (16807 * m3)) := by rw [mulX_ii, gd_pos c5]
  simp [runT, startD, r1, r2, r3, r4, s1, s2, s3, s4, s5, -dI_ii, -mulX_ii, -Res.bind_ok, -L2.go_ok, -Out.then_nx, bindN, goN, thenN]
theorem pr_law_stream (F : Fun K "_law_stream" "_law_stream" s_law_stream f fd) (T : Txt K mg) : ∃ G, FnOk P w K mg base (CXe P w) 1 f fd ["_law_cell_here"] (spN K G) ∧ ∀ c : Int, G [.int c] = .ok [.int (c - 1000000000000000000), .int c, dN 0] := by
  refine ⟨_, F.okN (k := 0) sc_law_stream (fun cdv Ar outer s H E hr hq => dr_ret (dn_lst (da_cons (d_op o_sub (dv 0) (d_op o_pow d_int d_int)) (da_cons (dv 0) (da_cons d_int da_nil))))), ?_⟩
  intro c
  have cp : CPow 10 18 := by decide
  have r0 : dPow (.int 10) (.int 18) = .ok (.int 1000000000000000000) := by
    show gd _ _ = _
    rw [gd_pos cp]
    rfl
  simp [L2.runN, startD, retN, r0, -dI_ii]
end
end K67

namespace K67
open PySem L2 KW PySem.Spec PyProof.Rows
@[simp] theorem toD_p (a : Addr) (o : OD) : (OD.p a o).toD = o.toD := rfl
@[simp] theorem getP_zero (a : Addr) (ds : List D) (ρ : Rho) : getP (some (.own (.p a (.l ds))) :: ρ) 0 = .ok (a, ds) := rfl
abbrev stm (a c : Int) (k : Nat) : OD := .l [.int a, .int c, dN k]
def Draw (G : List Sl → Res (D × List Sl)) : Prop := ∀ (a c : Int) (k b : Nat), 0 < b → b < 1000 → k < 100 → ∃ (m : Nat) (a' : Int), m < b ∧ G [.own (stm a c k), .val (dN b)] = .ok (dN m, [.own (stm a' c (k + 1)), .val (dN b)])
section
variable {P : Program} {w : World} {K : PySem.W.Frag} {mg : Str → Option Value} {base : Heap} {f : Addr} {fd : FuncData}
theorem pr_law_draw {G_law_stir : List D → Res D} (c__law_stir : Callee P w K mg base 1 "_law_stir" ["_law_cell_here", "_law_k"] (spF K G_law_stir)) (p_stir : ∀ (c : Int) (k : Nat), k ≤ 100 → ∃ n : Int, G_law_stir [.int c, dN k] = .ok (.int n)) (F : Fun K "_law_draw" "_law_draw" s_law_draw f fd) (T : Txt K mg) : ∃ G, FnOk P w K mg base CX0 2 f fd ["_law_left", "_law_many"] (spM K G) ∧ Draw G := by
  refine ⟨_, F.okM (k := 1) sc_law_draw (fun cdv Ar outer s H E hr => dm_cons (ds_setiP 0 d_int (d_op o_add (d_ix x_ix (dv 0) d_int) d_int))
    (dm_if (dt_cmp o_ge (d_ix x_ix (dv 0) d_int) (d_op o_pow d_int d_int)) (dm_cons (ds_n sc_law_draw.nd (DE.flat (d_op o_mod (d_ix x_ix (dv 0) d_int) (dv 1))))
      (dm_cons (ds_setiP 0 d_int (d_op o_div (d_ix x_ix (dv 0) d_int) (dv 1)))
      (dm_ret (x_pure (dv 2)))))
    (dm_ret (x_pure (DE.flat (d_op o_mod (d_op o_div (d_fn c__law_stir hr (da_cons (d_ix x_ix (dv 0) d_int) (da_cons (d_ix x_ix (dv 0) d_int) da_nil))) d_int) (dv 1))))))), ?_⟩
  intro a c k b hb hb2 hk
  have cp : CPow 10 18 := by decide
  have r0 : dPow (.int 10) (.int 18) = .ok (.int 1000000000000000000) := by
    show gd _ _ = _
    rw [gd_pos cp]
    rfl
  have hb' : (0 : Int) < b := by omega
  by_cases hc : (1000000000000000000 : Int) ≤ c
  · obtain ⟨m, e, hm⟩ := modI a (b := b) hb
    have r1 : dMod (.int a) (.int b) = .ok (.int m) := by rw [mod_ii hb', e]
    have r2 : dDiv (.int a) (.int b) = .ok (.int (a / b)) := by rw [div_ii hb' (by omega)]
    refine ⟨m, a / b, hm, gM_eq fun A => ?_⟩
    simp [runM, pinS, unS, ixl_0, ixl_1, ixl_2, setP, ixN, flatD, flatC, hc, r0, r1, r2, -dI_ii]
  · obtain ⟨t, et⟩ := p_stir c (k + 1) (by omega)
    obtain ⟨m, e, hm⟩ := modI (t / 8) (b := b) hb
    have r1 : dMod (.int (t / 8)) (.int b) = .ok (.int m) := by rw [mod_ii hb', e]
    have r2 : dDiv (.int t) (.int 8) = .ok (.int (t / 8)) := by rw [div_ii (by omega) (by omega)]
    have et : G_law_stir [.int c, .int ((k : Int) + 1)] = .ok (.int t) := et
    refine ⟨m, a, hm, gM_eq fun A => ?_⟩
    simp [runM, pinS, unS, ixl_0, ixl_1, ixl_2, setP, ixN, flatD, flatC, hc, r0, et, r1, r2, -dI_ii]
end
end K67

namespace K67
open PySem L2 KW PySem.Spec PyProof.Rows
def WORDS : List Str := ["left", "right", "none", "E", "Rule", "Ab1", "A00000", "Abcdefg", "AB", "aB", "a", "0", "+", "id", "<=", "~", ":", "|", "::", "||", "~~", "$", "", "abcdef", "abcdefg", "lefty", "Left", "_", "a:", "{", "#", "z9"]
def CHARS : Str := "abcdefghijklmnopqrstuvwxyz0123456789+-*/()[]=<>,;.!?^&ABCXYZ:|~$_@#'"
structure Wd (z : Str) : Prop where
  g : goodS z = true
  no : 32 ∉ z.cps.toList
  l : z.length ≤ 8
theorem words_ok : ∀ x ∈ WORDS, goodS x = true ∧ 32 ∉ x.cps.toList ∧ x.length ≤ 8 := by decide +kernel
theorem wd_word {x : Str} (h : x ∈ WORDS) : Wd x := let ⟨a, b, c⟩ := words_ok x h; ⟨a, b, c⟩
theorem chars_ok : ∀ c ∈ CHARS.cps.toList, c < 0x110000 ∧ c ≠ 32 := by decide +kernel
theorem chars_n : CHARS.cps.toList.length = 68 := by decide +kernel
def Ch (d : D) : Prop := ∃ c ∈ CHARS.cps.toList, d = .str ⟨#[c]⟩
theorem chs_strs : ∀ {ds : List D}, (∀ d ∈ ds, Ch d) → ∃ cs : List Nat, (∀ c ∈ cs, c ∈ CHARS.cps.toList) ∧ ds = (cs.map fun c => (⟨#[c]⟩ : Str)).map D.str
  | [], _ => ⟨[], fun _ h => (nomatch h), rfl⟩
  | d :: ds, h => by
    obtain ⟨c, hc, rfl⟩ := h d List.mem_cons_self
    obtain ⟨cs, h1, rfl⟩ := chs_strs fun x hx => h x (List.mem_cons_of_mem _ hx)
    exact ⟨c :: cs, fun x hx => by
      rcases List.mem_cons.mp hx with rfl | hx
      · exact hc
      · exact h1 x hx, rfl⟩
theorem join_cs : ∀ cs : List Nat, (Txt.join ("" : Str) (cs.map fun c => (⟨#[c]⟩ : Str))).cps.toList = cs
  | [] => by decide +kernel
  | c :: cs => by
    rw [List.map_cons, join_cps, List.flatMap_map]
    have e : ("" : Str).cps.toList = [] := by decide +kernel
    simp [e]
theorem chs_join {ds : List D} (h : ∀ d ∈ ds, Ch d) (hl : ds.length ≤ 7) : ∃ z, Wd z ∧ joinL "" ds = .ok (.str z) := by
  obtain ⟨cs, hc, rfl⟩ := chs_strs h
  have hl : cs.length ≤ 7 := by simpa using hl
  have e := join_cs cs
  have ln : (Txt.join ("" : Str) (cs.map fun c => (⟨#[c]⟩ : Str))).length = cs.length := by
    rw [← cps_len, e]
  refine ⟨Txt.join "" (cs.map fun c => (⟨#[c]⟩ : Str)), ⟨?_, ?_, by omega⟩, ?_⟩
  · unfold goodS
    rw [ln]
    have : PyData.strOk (Txt.join ("" : Str) (cs.map fun c => (⟨#[c]⟩ : Str))) = true := by
      unfold PyData.strOk
      rw [← Array.all_toList, e, List.all_eq_true]
      intro c m
      simpa using (chars_ok c (hc c m)).1
    rw [this]
    simp
    omega
  · rw [e]
    intro m
    exact (chars_ok 32 (hc 32 m)).2 rfl
  · unfold joinL
    rw [strsOf_map]
    refine gd_pos ?_
    have := sum_le (n := 1) (ws := cs.map fun c => (⟨#[c]⟩ : Str)) (fun x m => by
      obtain ⟨c, _, rfl⟩ := List.mem_map.mp m
      exact Nat.le_refl 1)
    simp only [List.length_map] at this ⊢
    rw [show ("" : Str).length = 0 from rfl]
    omega
theorem thenMN (ρ : Rho) (g : Rho → OutM) : thenM (.nx ρ) g = g ρ := Eq.trans rfl rfl
theorem gmN {α : Type} (a : α) (k : α → OutM) : (Res.ok a).gm k = k a := Eq.trans rfl rfl
theorem skolem {α β : Type} [Nonempty β] {P : α → Prop} {Q : α → β → Prop} (h : ∀ x, P x → ∃ y, Q x y) : ∃ f : α → β, ∀ x, P x → Q x (f x) := by
  classical
  refine ⟨fun x => if hx : P x then (h x hx).choose else Classical.choice inferInstance, fun x hx => ?_⟩
  dsimp only
  rw [dif_pos hx]
  exact (h x hx).choose_spec
@[simp] theorem add_ll {xs ys : List D} (h : xs.length + ys.length ≤ 1000) : dAdd (.lst xs) (.lst ys) = .ok (.lst (xs ++ ys)) := gd_pos (line_of h)
abbrev DF1 := Int × Int × Nat × Nat → Nat × Int
def goD (D1 : DF1) (c : Int) (b : Nat) : Nat → Int → Nat → List Nat × Int
  | 0, a, _ => ([], a)
  | n + 1, a, k => ((D1 (a, c, k, b)).1 :: (goD D1 c b n (D1 (a, c, k, b)).2 (k + 1)).1, (goD D1 c b n (D1 (a, c, k, b)).2 (k + 1)).2)
theorem goD_len (D1 : DF1) (c : Int) (b : Nat) : ∀ (n : Nat) (a : Int) (k : Nat), (goD D1 c b n a k).1.length = n
  | 0, _, _ => rfl
  | n + 1, a, k => by simp [goD, goD_len D1 c b n]
theorem goD_lt {D1 : DF1} {c : Int} {b : Nat} (h : ∀ a k, k < 100 → (D1 (a, c, k, b)).1 < b) : ∀ (n : Nat) (a : Int) (k : Nat), k + n ≤ 100 → ∀ m ∈ (goD D1 c b n a k).1, m < b
  | 0, _, _, _, m, hm => (nomatch hm)
  | n + 1, a, k, hk, m, hm => by
    rcases List.mem_cons.mp hm with rfl | hm
    · exact h a k (by omega)
    · exact goD_lt h n _ (k + 1) (by omega) m hm
def chD (m : Nat) : D := .str ⟨#[CHARS.cps.toList.getD m 0]⟩
theorem ch_ix2 {m : Nat} (h : m < 68) : dIx (.str CHARS) (dN m) = .ok (chD m) := by
  have h' : m < CHARS.cps.toList.length := by rw [chars_n]; exact h
  show (match atI CHARS.cps.toList (m : Int) with | some c => Res.ok (D.str ⟨#[c]⟩) | none => .bad) = _
  rw [atI_nat (List.getElem?_eq_getElem h')]
  unfold chD
  rw [List.getD_eq_getElem?_getD, List.getElem?_eq_getElem h']
  rfl
theorem chD_ch {m : Nat} (h : m < 68) : Ch (chD m) := by
  have h' : m < CHARS.cps.toList.length := by rw [chars_n]; exact h
  refine ⟨CHARS.cps.toList[m], List.getElem_mem h', ?_⟩
  unfold chD
  rw [List.getD_eq_getElem?_getD, List.getElem?_eq_getElem h']
  rfl
theorem compX_goD {A : Addr} {D1 : DF1} {c : Int} {fe : Rho → Res (D × Rho)} {x1 x2 : Option Sl} (hfe : ∀ d a k, k < 100 → fe [some (.val d), some (.own (.p A (stm a c k))), some (.val (.str CHARS))] = .ok (chD (D1 (a, c, k, 68)).1, [some (.val d), some (.own (.p A (stm (D1 (a, c, k, 68)).2 c (k + 1)))), some (.val (.str CHARS))])) :
    ∀ (ds : List D) (a : Int) (k : Nat), k + ds.length ≤ 100 → compX 1 [0, 3] 0 fe ds [some (.own (.p A (stm a c k))), x1, x2, some (.val (.str CHARS))] = .ok ((goD D1 c 68 ds.length a k).1.map chD, [some (.own (.p A (stm (goD D1 c 68 ds.length a k).2 c (k + ds.length)))), x1, x2, some (.val (.str CHARS))])
  | [], a, k, _ => by simp [compX, goD]
  | d :: ds, a, k, h => by
    rw [List.length_cons] at h
    have e1 := hfe d a k (by omega)
    have e2 := compX_goD (x1 := x1) (x2 := x2) hfe ds (D1 (a, c, k, 68)).2 (k + 1) (by omega)
    have e3 : (rhoC 1 [0, 3] [some (.own (.p A (stm a c k))), x1, x2, some (.val (.str CHARS))]).set 0 (some (.val d)) = [some (.val d), some (.own (.p A (stm a c k))), some (.val (.str CHARS))] := rfl
    have e4 : backC 1 [0, 3] [some (.val d), some (.own (.p A (stm (D1 (a, c, k, 68)).2 c (k + 1)))), some (.val (.str CHARS))] [some (.own (.p A (stm a c k))), x1, x2, some (.val (.str CHARS))] = [some (.own (.p A (stm (D1 (a, c, k, 68)).2 c (k + 1)))), x1, x2, some (.val (.str CHARS))] := rfl
    rw [compX, e3, e1, Res.bind_ok]
    dsimp only
    rw [e4, e2, List.length_cons, goD, show k + 1 + ds.length = k + (ds.length + 1) by omega]
    rfl
theorem rng_1 (n : Nat) (h : n < 999) : rng1 [.int (1 + (n : Int))] = .ok (intL 0 (n + 1)) := rng_lit (n := n + 1) _ (by omega) (by omega)
def Word (G : List Sl → Res (D × List Sl)) : Prop := ∀ (a c : Int) (k : Nat), k ≤ 90 → ∃ (z : Str) (a' : Int) (k' : Nat), k' ≤ k + 9 ∧ Wd z ∧ G [.own (stm a c k)] = .ok (.str z, [.own (stm a' c k')])
theorem ix_words {m : Nat} (h : m < 32) : ∃ x ∈ WORDS, dIx (.lst ([.str "left", .str "right", .str "none", .str "E", .str "Rule", .str "Ab1", .str "A00000", .str "Abcdefg", .str "AB", .str "aB", .str "a", .str "0", .str "+", .str "id", .str "<=", .str "~", .str ":", .str "|", .str "::", .str "||", .str "~~", .str "$", .str "", .str "abcdef", .str "abcdefg", .str "lefty", .str "Left", .str "_", .str "a:", .str "{", .str "#", .str "z9"])) (dN m) = .ok (.str x) := ix_mem (c := D.str) (rs := WORDS) (i := m) (by show m < 32; exact h)
section
variable {P : Program} {w : World} {K : PySem.W.Frag} {mg : Str → Option Value} {base : Heap} {f : Addr} {fd : FuncData}
theorem pr_law_word {G_law_draw : List Sl → Res (D × List Sl)} (c__law_draw : Callee P w K mg base 2 "_law_draw" ["_law_left", "_law_many"] (spM K G_law_draw)) (p_draw : Draw G_law_draw) (F : Fun K "_law_word" "_law_word" s_law_word f fd) (T : Txt K mg) : ∃ G, FnOk P w K mg base CX0 3 f fd ["_law_left"] (spM K G) ∧ Word G := by
  refine ⟨_, F.okM (k := 2) sc_law_word (fun cdv Ar outer s H E hr => dm_cons (ds_n sc_law_word.nd (d_lst (da_cons d_str (da_cons d_str (da_cons d_str (da_cons d_str (da_cons d_str (da_cons d_str (da_cons d_str (da_cons d_str (da_cons d_str (da_cons d_str (da_cons d_str (da_cons d_str (da_cons d_str (da_cons d_str da_nil))))))))))))))))
    (dm_cons (ds_n sc_law_word.nd (d_op o_add (dv 1) (d_lst (da_cons d_str (da_cons d_str (da_cons d_str (da_cons d_str (da_cons d_str (da_cons d_str (da_cons d_str (da_cons d_str (da_cons d_str (da_cons d_str (da_cons d_str (da_cons d_str (da_cons d_str (da_cons d_str da_nil)))))))))))))))))
    (dm_cons (ds_n sc_law_word.nd (d_op o_add (dv 1) (d_lst (da_cons d_str (da_cons d_str (da_cons d_str (da_cons d_str da_nil)))))))
    (dm_cons (dsx_n sc_law_word.nd (x_fn c__law_draw hr (xa_own 0 (xa_cons (x_pure d_int) xa_nil))))
    (dm_if (dt_cmp o_lt (dv 2) d_int) (dm_ret (x_pure (d_ix x_ix (dv 1) (dv 2))))
    (dm_cons (ds_n sc_law_word.nd d_str)
    (dm_ret (x_join (DXN.de (xn_comp ["_law_k"] [0, 3] rfl (compOk_of (sc := defScope s_law_word) (N := ["_law_left", "_law_some", "_law_number", "_law_signs"]) (by decide +kernel)) (xi_range1 T.z_range (xa_cons (x_op o_add (x_pure d_int) (x_fn c__law_draw hr (xa_own 0 (xa_cons (x_pure d_int) xa_nil)))) xa_nil)) (dg_n (show (["_law_k", "_law_left", "_law_signs"] : List Str).Nodup by decide +kernel)) (x_ixX x_ix (x_pure (dv 2)) (x_fn c__law_draw hr (xa_own 1 (xa_cons (x_pure (d_B c_len T.z_len (by decide +kernel) (da_cons (dv 2) da_nil))) xa_nil)))))))))))))), ?_⟩
  intro a c k hk
  obtain ⟨D1, hD⟩ := skolem (α := Int × Int × Nat × Nat) (β := Nat × Int) (P := fun x => 0 < x.2.2.2 ∧ x.2.2.2 < 1000 ∧ x.2.2.1 < 100) (Q := fun x y => y.1 < x.2.2.2 ∧ G_law_draw [.own (stm x.1 x.2.1 x.2.2.1), .val (dN x.2.2.2)] = .ok (dN y.1, [.own (stm y.2 x.2.1 (x.2.2.1 + 1)), .val (dN x.2.2.2)])) (fun x h => by
    obtain ⟨m, a', h1, h2⟩ := p_draw x.1 x.2.1 x.2.2.1 x.2.2.2 h.1 h.2.1 h.2.2
    exact ⟨(m, a'), h1, h2⟩)
  have hd : ∀ (a : Int) (k b : Nat), 0 < b → b < 1000 → k < 100 → (D1 (a, c, k, b)).1 < b ∧ G_law_draw [.own (stm a c k), .val (dN b)] = .ok (dN (D1 (a, c, k, b)).1, [.own (stm (D1 (a, c, k, b)).2 c (k + 1)), .val (dN b)]) := fun a k b h1 h2 h3 => hD (a, c, k, b) ⟨h1, h2, h3⟩
  obtain ⟨hm, e1⟩ := hd a k 40 (by omega) (by omega) (by omega)
  generalize D1 (a, c, k, 40) = r1 at hm e1
  obtain ⟨m, a1⟩ := r1
  have e1 : G_law_draw [.own (stm a c k), .val (.int 40)] = .ok (dN m, [.own (stm a1 c (k + 1)), .val (.int 40)]) := e1
  dsimp only at hm
  by_cases h : m < 32
  · obtain ⟨x, hx, ex⟩ := ix_words h
    have h' : (m : Int) < 32 := by omega
    refine ⟨x, a1, k + 1, by omega, wd_word hx, gM_eq fun A => ?_⟩
    simp [runM, pinS, unS, szD_small, isOwnR, slOf, slAll, agO, unp, putB, repO, e1, h', ex, -dI_ii, -mulX_ii, -Res.bind_ok, -L2.go_ok, -Out.then_nx, bindN, goN, thenN, -thenM_nx, -gm_ok, thenMN, gmN]
  · have h' : ¬ (m : Int) < 32 := by omega
    obtain ⟨hn, e2⟩ := hd a1 (k + 1) 7 (by omega) (by omega) (by omega)
    generalize D1 (a1, c, k + 1, 7) = r2 at hn e2
    obtain ⟨n, a2⟩ := r2
    have e2 : G_law_draw [.own (stm a1 c (k + 1)), .val (.int 7)] = .ok (dN n, [.own (stm a2 c (k + 1 + 1)), .val (.int 7)]) := e2
    dsimp only at hn
    have hch : ∀ x ∈ (goD D1 c 68 (n + 1) a2 (k + 1 + 1)).1, x < 68 := goD_lt (fun a k hk => (hd a k 68 (by omega) (by omega) hk).1) (n + 1) a2 (k + 1 + 1) (by omega)
    obtain ⟨z, hz, ez⟩ := chs_join (ds := (goD D1 c 68 (n + 1) a2 (k + 1 + 1)).1.map chD) (fun d hd => by
      obtain ⟨x, hx, rfl⟩ := List.mem_map.mp hd
      exact chD_ch (hch x hx)) (by rw [List.length_map, goD_len]; omega)
    refine ⟨z, (goD D1 c 68 (n + 1) a2 (k + 1 + 1)).2, k + 1 + 1 + (n + 1), by omega, hz, gM_eq fun A => ?_⟩
    have el : (D.str "abcdefghijklmnopqrstuvwxyz0123456789+-*/()[]=<>,;.!?^&ABCXYZ:|~$_@#'") = .str CHARS := rfl
    have hsz : n + 1 ≤ sizeLine := line_of (by omega)
    simp only [el]
    simp [runM, pinS, unS, szD_small, isOwnR, slOf, slAll, agO, unp, putB, repO, e1, e2, h', agv, rng_1 n (by omega), intL_len, hsz, -dI_ii, -mulX_ii, -Res.bind_ok, -L2.go_ok, -Out.then_nx, bindN, goN, thenN, -thenM_nx, -gm_ok, thenMN, gmN]
    rw [compX_goD (D1 := D1) (c := c) (fun d a k hk => ?_) (intL 0 (n + 1)) a2 (k + 1 + 1) (by rw [intL_len]; omega), intL_len]
    · simp [joinD, ez, -dI_ii, -mulX_ii, -Res.bind_ok, -L2.go_ok, -Out.then_nx, bindN, goN, thenN, -thenM_nx, -gm_ok, thenMN, gmN]
    · obtain ⟨h1, h2⟩ := hd a k 68 (by omega) (by omega) hk
      have h2 : G_law_draw [.own (stm a c k), .val (.int 68)] = .ok (dN (D1 (a, c, k, 68)).1, [.own (stm (D1 (a, c, k, 68)).2 c (k + 1)), .val (.int 68)]) := h2
      have h3 : gLen [.str CHARS] = .ok (.int 68) := by
        rw [len_str, show CHARS.length = 68 by decide +kernel]
        rfl
      simp [isOwnR, slOf, slAll, agO, unp, putB, repO, h2, h3, ch_ix2 h1, -len_str, -dI_ii, -mulX_ii, -Res.bind_ok, -L2.go_ok, -Out.then_nx, bindN, goN, thenN, -thenM_nx, -gm_ok, thenMN, gmN]
end
end K67

namespace K67
open PySem L2 KW PySem.Spec PyProof.Rows
theorem cut_n {α : Type} (xs : List α) (n : Nat) : cutC xs none (some (n : Int)) = xs.take n := by
  unfold cutC
  rw [HT.sIx_none, HT.sIx_nat]
  simp [List.take_eq_take_min]
abbrev scr (ns : List Int) : D := .lst (ns.map D.int)
theorem compX_w {D2 : Int × Int × Nat → Str × Int × Nat} {c : Int} {fe : Rho → Res (D × Rho)} {x0 x1 x3 x4 x5 : Option Sl} (hfe : ∀ d a k, k ≤ 90 → fe [some (.val d), some (.own (stm a c k))] = .ok (.str (D2 (a, c, k)).1, [some (.val d), some (.own (stm (D2 (a, c, k)).2.1 c (D2 (a, c, k)).2.2))]))
    (hw : ∀ a k, k ≤ 90 → Wd (D2 (a, c, k)).1 ∧ (D2 (a, c, k)).2.2 ≤ k + 9) :
    ∀ (ds : List D) (a : Int) (k : Nat), k + 9 * ds.length ≤ 99 → ∃ (ws : List Str) (a' : Int) (k' : Nat), compX 1 [2] 0 fe ds [x0, x1, some (.own (stm a c k)), x3, x4, x5] = .ok (ws.map D.str, [x0, x1, some (.own (stm a' c k')), x3, x4, x5]) ∧ ws.length = ds.length ∧ ∀ z ∈ ws, Wd z
  | [], a, k, _ => ⟨[], a, k, rfl, rfl, fun _ h => (nomatch h)⟩
  | d :: ds, a, k, h => by
    rw [List.length_cons] at h
    have e1 := hfe d a k (by omega)
    obtain ⟨h1, h2⟩ := hw a k (by omega)
    obtain ⟨ws, a', k', e2, hl, hz⟩ := compX_w (x0 := x0) (x1 := x1) (x3 := x3) (x4 := x4) (x5 := x5) hfe hw ds (D2 (a, c, k)).2.1 (D2 (a, c, k)).2.2 (by omega)
    have e3 : (rhoC 1 [2] [x0, x1, some (.own (stm a c k)), x3, x4, x5]).set 0 (some (.val d)) = [some (.val d), some (.own (stm a c k))] := rfl
    have e4 : backC 1 [2] [some (.val d), some (.own (stm (D2 (a, c, k)).2.1 c (D2 (a, c, k)).2.2))] [x0, x1, some (.own (stm a c k)), x3, x4, x5] = [x0, x1, some (.own (stm (D2 (a, c, k)).2.1 c (D2 (a, c, k)).2.2)), x3, x4, x5] := rfl
    refine ⟨(D2 (a, c, k)).1 :: ws, a', k', ?_, by simp [hl], fun z hz' => ?_⟩
    · rw [compX, e3, e1, Res.bind_ok]
      dsimp only
      rw [e4, e2]
      rfl
    · rcases List.mem_cons.mp hz' with rfl | hz'
      · exact h1
      · exact hz z hz'
theorem due_list {g : D → Rho → Res Rho} {fT : Rho → Res Bool} {fe : Rho → Res D} {ρ : Rho} : ∀ (ws : List Str) (j : Nat), (∀ (x : Str) (i : Nat), x ∈ ws → ∃ ρ1, g (.tup [.int (i : Nat), .str x]) ρ = .ok ρ1 ∧ fT (frz ρ1) = .ok true ∧ fe ρ1 = .ok (.str (if i = 0 then firstS x else kindS x))) →
    compD g fT fe ρ (((ws.map D.str).zipIdx j).map fun p => .tup [.int (p.2 : Nat), p.1]) = .ok ((ws.zipIdx j).map fun p => .str (if p.2 = 0 then firstS p.1 else kindS p.1))
  | [], _, _ => rfl
  | x :: ws, j, h => by
    obtain ⟨ρ1, e1, e2, e3⟩ := h x j List.mem_cons_self
    have ih := due_list (g := g) (fT := fT) (fe := fe) (ρ := ρ) ws (j + 1) fun y i hy => h y i (List.mem_cons_of_mem _ hy)
    simp only [List.map_cons, List.zipIdx_cons, compD, e1, e2, e3, noE_ok, Res.bind_ok, ih, if_true]
theorem due_kinds (ws : List Str) : ((ws.zipIdx 0).map fun p => D.str (if p.2 = 0 then firstS p.1 else kindS p.1)) = (kindsL ws).map D.str := by
  have key : ∀ (l : List Str) (j : Nat), ((l.zipIdx (j + 1)).map fun p => D.str (if p.2 = 0 then firstS p.1 else kindS p.1)) = l.map fun x => D.str (kindS x) := by
    intro l
    induction l with
    | nil => intro j; rfl
    | cons x l ih => intro j; simp only [List.zipIdx_cons, List.map_cons, ih (j + 1)]; simp
  cases ws with
  | nil => rfl
  | cons x ws => simp only [List.zipIdx_cons, List.map_cons, key ws 0, kindsL]; simp [Function.comp_def]
theorem forD_all {g : D → Rho → Res Rho} {tb : Rho → Out} (S : Rho → Prop) (P : D → Prop) (step : ∀ d ρ, P d → S ρ → ∃ ρ1 ρ2, g d ρ = .ok ρ1 ∧ tb ρ1 = .nx ρ2 ∧ S ρ2) : ∀ (ds : List D) (ρ : Rho), (∀ d ∈ ds, P d) → S ρ → ∃ ρ', forD g tb ds ρ = .nx ρ' ∧ S ρ'
  | [], ρ, _, h => ⟨ρ, rfl, h⟩
  | d :: ds, ρ, hp, h => by
    obtain ⟨ρ1, ρ2, e1, e2, h2⟩ := step d ρ (hp d List.mem_cons_self) h
    obtain ⟨ρ', e3, h3⟩ := forD_all S P step ds ρ2 (fun x hx => hp x (List.mem_cons_of_mem _ hx)) h2
    exact ⟨ρ', by simp [forD, e1, e2, e3], h3⟩
theorem forD_ok {g : D → Rho → Res Rho} {tb : Rho → Out} {ds : List D} {ρ : Rho} (S : Rho → Prop) (P : D → Prop) (hp : ∀ d ∈ ds, P d) (h0 : S ρ) (step : ∀ d ρ, P d → S ρ → ∃ ρ1 ρ2, g d ρ = .ok ρ1 ∧ tb ρ1 = .nx ρ2 ∧ S ρ2) : ∃ ρ', forD g tb ds ρ = .nx ρ' :=
  let ⟨ρ', e, _⟩ := forD_all S P step ds ρ hp h0
  ⟨ρ', e⟩
theorem joinD_w {ws : List Str} (h : ∀ z ∈ ws, Wd z) (hl : ws.length ≤ 8) : joinD " " (.lst (ws.map D.str)) = .ok (.str (Txt.join BL ws)) := join_l (n := 8) (m := 8) (fun x m => (h x m).l) rfl hl (by decide)
theorem words_of {ws : List Str} (h : ∀ z ∈ ws, Wd z) (hl : ws.length ≤ 8) (hn : ws ≠ []) : WordsOk ws := ⟨hn, fun x m => (h x m).g, fun x m => (h x m).no, by omega⟩
theorem w_0 : WordsOk [("" : Str)] := ⟨by simp, by decide +kernel, by decide +kernel, by simp⟩
theorem w_1 : WordsOk [("" : Str), ""] := ⟨by simp, by decide +kernel, by decide +kernel, by simp⟩
theorem j_0 : Txt.join BL [("" : Str)] = "" := by decide +kernel
theorem j_1 : Txt.join BL [("" : Str), ""] = " " := by decide +kernel
theorem k_0 : kindsL [("" : Str)] = (["bad"] : List Str) := by decide +kernel
theorem k_1 : kindsL [("" : Str), ""] = (["bad", "bad"] : List Str) := by decide +kernel
section
variable {P : Program} {w : World} {K : PySem.W.Frag} {mg : Str → Option Value} {base : Heap} {f : Addr} {fd : FuncData}
theorem pr_law {G_law_stream : List D → Res (List D)} (cn__law_stream : CalleeN P w K mg base 1 "_law_stream" ["_law_cell_here"] G_law_stream) {G_kinds_of : List D → Res (List D)} (cn_kinds_of : CalleeN P w K mg base 4 "kinds_of" ["row"] G_kinds_of) {G_law_word : List Sl → Res (D × List Sl)} (c__law_word : Callee P w K mg base 3 "_law_word" ["_law_left"] (spM K G_law_word)) {G_law_kind : List D → Res D} (c__law_kind : Callee P w K mg base 2 "_law_kind" ["_law_word_here", "_law_at"] (spF K G_law_kind)) {G_law_draw : List Sl → Res (D × List Sl)} (c__law_draw : Callee P w K mg base 2 "_law_draw" ["_law_left", "_law_many"] (spM K G_law_draw)) (p_kinds : ∀ ws : List Str, WordsOk ws → G_kinds_of [.str (Txt.join BL ws)] = .ok ((kindsL ws).map D.str)) (p_stream : ∀ c : Int, G_law_stream [.int c] = .ok [.int (c - 1000000000000000000), .int c, dN 0]) (p_draw : Draw G_law_draw) (p_word : Word G_law_word) (p_kind : ∀ (z : Str) (n : Nat), goodS z = true → G_law_kind [.str z, dN n] = .ok (.str (if n = 0 then firstS z else kindS z))) (F : Fun K "law" "law" s_law f fd) (T : Txt K mg) : ∃ G, FnOk P w K mg base (CXe P w) 5 f fd ["_law_script"] (spX K G) ∧ ∀ ns : List Int, G [scr ns] = .ok (.bl true) := by
  refine ⟨_, F.okTX (k := 4) sc_law (fun cdv Ar outer s H E hr hq => db_cons (ds_if (dt_w (dw_or (dt_cmp (o_ne (hu64 hr)) (d_fnX hq cn_kinds_of.cx hr (da_cons d_str da_nil)) (d_lst (da_cons d_str da_nil))) (dw_or1 (dt_cmp (o_ne (hu64 hr)) (d_fnX hq cn_kinds_of.cx hr (da_cons d_str da_nil)) (d_lst (da_cons d_str (da_cons d_str da_nil))))))) (db_one (ds_ret d_bl)) db_nil)
    (db_cons (ds_for rfl (di_any (d_op o_add (d_sl (dv 0) do_none (do_some d_int)) (d_lst (da_cons d_int (da_cons d_int da_nil))))) (dg_n sc_law.nd)
    (db_cons (ds_own sc_law.nd (dn_fn hq cn__law_stream hr (da_cons (dv 1) da_nil)))
      (db_cons (dsx_comp ["_law_k"] [2] rfl (compOk_of (sc := defScope s_law) (N := ["_law_script", "_law_cell_here", "_law_left", "_law_words", "_law_due", "_law_told"]) (by decide +kernel)) sc_law.nd (xi_range1 T.z_range (xa_cons (x_op o_add (x_pure d_int) (x_fn c__law_draw hr (xa_own 2 (xa_cons (x_pure d_int) xa_nil)))) xa_nil)) (dg_n (show (["_law_k", "_law_left"] : List Str).Nodup by decide +kernel)) (x_fn c__law_word hr (xa_own 1 xa_nil)))
      (DB.fix (db_cons (ds_compV ["_law_at", "_law_word_here"] [] rfl (compOk_of (sc := defScope s_law) (N := ["_law_script", "_law_cell_here", "_law_left", "_law_words", "_law_due", "_law_told"]) (by decide +kernel)) sc_law.nd (di_enum T.z_enumerate (da_cons (dv 3) da_nil)) (dg_tup (n := 2) rfl (dgs_cons (dg_n (show (["_law_at", "_law_word_here"] : List Str).Nodup by decide +kernel)) (dgs_cons (dg_n (show (["_law_at", "_law_word_here"] : List Str).Nodup by decide +kernel)) dgs_nil))) df_nil (d_fn c__law_kind hr (da_cons (dv 1) (da_cons (dv 0) da_nil))))
      (db_cons (ds_own sc_law.nd (dn_fn hq cn_kinds_of hr (da_cons (d_join (dv 3)) da_nil)))
      (db_cons (ds_if (dt_w (dw_or (dt_not (dt_val (d_B c_isA T.z_isinstance (by decide +kernel) (da_cons (dv 5) (da_cons (d_ty T.z_list (T := "list") (by decide +kernel)) da_nil))))) (dw_or1 (dt_cmp (o_ne (hu64 hr)) (dv 5) (dv 4))))) (db_one (ds_ret d_bl)) db_nil)
      (db_cons (ds_app 5 d_str)
      (db_one (ds_if (dt_cmp (o_ne (hu64 hr)) (d_fnX hq cn_kinds_of.cx hr (da_cons (d_join (dv 3)) da_nil)) (dv 4)) (db_one (ds_ret d_bl)) db_nil))))))))) hq.ps)
    (db_one (ds_ret d_bl)))), ?_⟩
  intro ns
  have q0 := p_kinds _ w_0
  have q1 := p_kinds _ w_1
  rw [j_0, k_0] at q0
  rw [j_1, k_1] at q1
  have n0 : dNe (.lst [.str "bad"]) (.lst [.str "bad"]) = .ok (.bl false) := ne_self (ss := (["bad"] : List Str)) (by decide +kernel)
  have n1 : dNe (.lst [.str "bad", .str "bad"]) (.lst [.str "bad", .str "bad"]) = .ok (.bl false) := ne_self (ss := (["bad", "bad"] : List Str)) (by decide +kernel)
  have q0 : asLs G_kinds_of [.str ""] = .ok (.lst [.str "bad"]) := by unfold asLs; rw [q0]; rfl
  have q1 : asLs G_kinds_of [.str " "] = .ok (.lst [.str "bad", .str "bad"]) := by unfold asLs; rw [q1]; rfl
  have hcut : dSl (scr ns) none (some 60) = .ok (.lst ((ns.map D.int).take 60)) := by
    show Res.ok (D.lst (cutC _ _ _)) = _
    rw [show (some (60 : Int)) = some ((60 : Nat) : Int) from rfl, cut_n]
  obtain ⟨l, hadd, hp⟩ : ∃ l, dAdd (.lst ((ns.map D.int).take 60)) (.lst [.int 0, .int 7]) = .ok (.lst l) ∧ ∀ d ∈ l, ∃ c : Int, d = .int c := by
    refine ⟨_, add_ll (by rw [List.length_take]; show min 60 _ + 2 ≤ 1000; omega), fun d hd => ?_⟩
    rcases List.mem_append.mp hd with hd | hd
    · obtain ⟨c, _, rfl⟩ := List.mem_map.mp (List.mem_of_mem_take hd)
      exact ⟨c, rfl⟩
    · simp at hd
      rcases hd with rfl | rfl
      · exact ⟨0, rfl⟩
      · exact ⟨7, rfl⟩
  have hit : ∀ l : List D, items (.lst l) = .ok l := fun l => rfl
  simp [runX, startD, q0, q1, n0, n1, asI, hcut, hadd, hit, -dI_ii, -mulX_ii, -Res.bind_ok, -L2.go_ok, -Out.then_nx, bindN, goN, thenN]
  generalize hI : forD _ _ _ _ = o
  have q : ∃ ρ', o = .nx ρ' := by
    rw [← hI]
    refine forD_ok (fun ρ => ∃ x1 x2 x3 x4 x5, ρ = [some (.val (scr ns)), x1, x2, x3, x4, x5]) (fun d => ∃ c : Int, d = .int c) hp ⟨_, _, _, _, _, rfl⟩ ?_
    rintro d ρ ⟨c, rfl⟩ ⟨x1, x2, x3, x4, x5, rfl⟩
    obtain ⟨m, a1, hm, e1⟩ := p_draw (c - 1000000000000000000) c 0 8 (by omega) (by omega) (by omega)
    have e1 : G_law_draw [.own (stm (c - 1000000000000000000) c 0), .val (.int 8)] = .ok (dN m, [.own (stm a1 c 1), .val (.int 8)]) := e1
    have hsz : m + 1 ≤ sizeLine := line_of (by omega)
    obtain ⟨D2, hD⟩ := skolem (α := Int × Int × Nat) (β := Str × Int × Nat) (P := fun x => x.2.2 ≤ 90) (Q := fun x y => y.2.2 ≤ x.2.2 + 9 ∧ Wd y.1 ∧ G_law_word [.own (stm x.1 x.2.1 x.2.2)] = .ok (.str y.1, [.own (stm y.2.1 x.2.1 y.2.2)])) (fun x h => by
      obtain ⟨z, a', k', h1, h2, h3⟩ := p_word x.1 x.2.1 x.2.2 h
      exact ⟨(z, a', k'), h1, h2, h3⟩)
    obtain ⟨ws, a2, k2, ew, hl, hw⟩ := compX_w (D2 := D2) (c := c) (fe := fun ρ => (if isOwnR ρ 1 = true then Res.ok ([Ag.o 1], ρ) else Res.bad).bind fun r => (noE (slOf r.snd r.fst)).bind fun sl => (noE (G_law_word sl)).bind fun u => Res.ok (u.fst, putB r.fst u.snd r.snd)) (x0 := some (.val (scr ns))) (x1 := some (.val (.int c))) (x3 := x3) (x4 := x4) (x5 := x5) (fun d a k hk => by
      obtain ⟨_, _, h3⟩ := hD (a, c, k) hk
      dsimp only at h3
      simp [isOwnR, slOf, slAll, agO, unp, putB, repO, h3]) (fun a k hk => ⟨(hD (a, c, k) hk).2.1, (hD (a, c, k) hk).1⟩) (intL 0 (m + 1)) a1 1 (by rw [intL_len]; omega)
    rw [intL_len] at hl
    simp only [isOwnR, slOf] at ew
    have hw8 : ws.length ≤ 8 := by omega
    have hj := joinD_w hw hw8
    have wk := words_of hw hw8 (by intro e; rw [e] at hl; simp at hl)
    have hk := p_kinds ws wk
    have hk2 : asLs G_kinds_of [.str (Txt.join BL ws)] = .ok (.lst ((kindsL ws).map D.str)) := by unfold asLs; rw [hk]; rfl
    have hne := ne_self (kinds_ok ws)
    have hen : enum1 [.lst (ws.map D.str)] = .ok (((ws.map D.str).zipIdx 0).map fun p => .tup [.int (p.2 : Nat), p.1]) := rfl
    have hel : ws.length ≤ sizeLine := line_of (by omega)
    have hfz : frz [x4, x5] = [x4.map frzS, x5.map frzS] := rfl
    have hkl : (kindsL ws).length < sizeLine := Nat.lt_of_le_of_lt (show (kindsL ws).length ≤ 1000 by
      cases ws with
      | nil => simp [kindsL]
      | cons x l => simp [kindsL]; simp at hw8; omega) (by decide)
    have his : gIsA [.lst ((kindsL ws).map D.str), .ty "list"] = .ok (.bl true) := rfl
    refine ⟨_, [some (.val (scr ns)), some (.val (.int c)), some (.val (.lst [.int a2, .int c, dN k2])), some (.val (.lst (ws.map D.str))), some (.val (.lst ((kindsL ws).map D.str))), some (.own (.l ((kindsL ws).map D.str ++ [.str "bad"])))], rfl, ?_, ⟨_, _, _, _, _, rfl⟩⟩
    simp [p_stream, -dI_ii, -mulX_ii, -Res.bind_ok, -L2.go_ok, -Out.then_nx, bindN, goN, thenN]
    simp [isOwnR, slOf, slAll, agO, unp, putB, repO, e1, agv, rng_1 m (by omega), intL_len, hsz, ew, hen, hfz, -dI_ii, -mulX_ii, -Res.bind_ok, -L2.go_ok, -Out.then_nx, bindN, goN, thenN]
    rw [gd_pos hel, due_list ws 0 (fun x i hx => ⟨_, rfl, rfl, by simp [rhoC, p_kind x i (hw x hx).g]⟩), due_kinds]
    simp [hj, hk, hk2, his, hne, hkl, -dI_ii, -mulX_ii, -Res.bind_ok, -L2.go_ok, -Out.then_nx, bindN, goN, thenN]
  obtain ⟨ρ', rfl⟩ := q
  simp
end
end K67

namespace K67
open PySem L2 KW PySem.Spec PyProof.Rows
def noLst (K : PySem.W.Frag) : Bool := K.all fun p => match p.2.cls with
  | .type T => !(T == "list")
  | _ => true
theorem noLst_at {K : PySem.W.Frag} (h : noLst K = true) {a : Addr} {o : Obj} (e : K.lookup a = some o) : o.cls ≠ .type "list" := fun z => by
  have hm : (a, o) ∈ K := by
    unfold noLst at h
    clear h
    induction K with
    | nil => cases e
    | cons p K ih =>
      obtain ⟨b, u⟩ := p
      rw [List.lookup_cons] at e
      split at e
      · rename_i q
        cases e
        rw [beq_iff_eq.mp q]
        exact List.mem_cons_self
      · exact List.mem_cons_of_mem _ (ih e)
  have := List.all_eq_true.mp h _ hm
  simp only [z] at this
  simp at this
theorem rps_ints {K : PySem.W.Frag} {F : Hp} : ∀ ns : List Int, Rps K F (ns.map V.int) (ns.map D.int)
  | [] => .nil
  | n :: ns => .cons (.int n) (rps_ints ns)
def spLaw (K : PySem.W.Frag) : Sp := fun vs H Q _ => ∃ (a : Addr) (ns : List Int), vs = [.ref a] ∧ SqL K H a (ns.map V.int) ∧ ∀ H', Q (.bl true) H'
theorem law_imp {P : Program} {w : World} {K : PySem.W.Frag} {mg : Str → Option Value} {base : Heap} {k : Nat} {f : Addr} {fd : FuncData} {ps : List Str} {G : List D → Res D} (nl : noLst K = true) (h : FnOk P w K mg base (CXe P w) k f fd ps (spX K G)) (p : ∀ ns : List Int, G [scr ns] = .ok (.bl true)) :
    FnOk P w K mg base (CXe P w) k f fd ps (spLaw K) := h.imp fun vs H Q E ⟨a, ns, e, hs, q⟩ => by
  subst e
  rcases hs with hs | ⟨o, its, n, e1, e2, _⟩
  · refine ⟨H, [scr ns], Same.refl H, .cons (.lst hs (rps_ints ns)) .nil, ?_⟩
    rw [p ns]
    intro v F' H' st pv
    cases pv
    exact q H'
  · exact absurd e2 (noLst_at nl e1)
def AtF (K : PySem.W.Frag) (x : Str) (st : Stmt) : Prop := ∃ f oc od kV dc pm an cd ct sl, PySem.W.nsIn K mainGlobals x = some (some (.ref f)) ∧ K.lookup f = some ⟨oc, od, .func (PySem.W.fnOf x x (defArgs st) (defBody st) (defScope st) .none kV dc pm an cd ct), sl⟩ ∧ PySem.W.codeIn K cd x = true ∧ PySem.W.keepIn K (.ref f) = true
section
variable {P : Program} {w : World} {K : PySem.W.Frag} {h : Heap} {mg : Str → Option Value} {base : Heap} {f C : Addr} {fd : FuncData} {x q fl m : Str} {st : Stmt} {k : Nat} {ps : List Str} {p1 p2 p3 p4 p5 : Str}
theorem AtF.go (a : AtF K x st) (X : K.In h) (G : h.Ns mainGlobals mg) : ∃ f fd, Fun K x x st f fd ∧ mg x = some (.ref f) ∧ PySem.W.keepIn K (.ref f) = true := by
  obtain ⟨f, oc, od, kV, dc, pm, an, cd, ct, sl, h1, h2, h3, h4⟩ := a
  exact ⟨f, _, fun_mk h2 h3 h4, PySem.W.mg_of X G h1, h4⟩
theorem dct_mk {a : Addr} {k1 k2 k3 v1 v2 v3 : Str} {t1 t2 t3 u1 u2 u3 : Tok} {ep : Nat} (h : PySem.W.nsIn K mainGlobals x = some (some (.ref a))) (l : K.lookup a = some ⟨.type "dict", none, .dict #[⟨PyData.keyHash w.params k1, .str k1 t1, .str v1 u1⟩, ⟨PyData.keyHash w.params k2, .str k2 t2, .str v2 u2⟩, ⟨PyData.keyHash w.params k3, .str k3 t3, .str v3 u3⟩] ep, #[]⟩) (hs : (a == sysModules) = false)
    (nd : ([k1, k2, k3] : List Str).Nodup) {hp : Heap} (X : K.In hp) (G : hp.Ns mainGlobals mg) : DctG P w K mg x [(k1, v1), (k2, v2), (k3, v3)] := by
  refine ⟨a, PySem.W.mg_of X G h, hs, fun h2 X2 => ⟨[(.inr k1, .str v1 u1), (.inr k2, .str v2 u2), (.inr k3, .str v3 u3)], .cons ⟨rfl, ⟨_, rfl⟩⟩ (.cons ⟨rfl, ⟨_, rfl⟩⟩ (.cons ⟨rfl, ⟨_, rfl⟩⟩ .nil)), _, _, _, X2 _ _ l, ⟨rfl, rfl, rfl⟩, rfl, ?_, ?_, ?_⟩⟩
  · intro e he
    simp only [List.mem_toArray, List.mem_cons, List.not_mem_nil, or_false] at he
    rcases he with rfl | rfl | rfl
    · exact ⟨.inr k1, mixKind_str P w k1 t1, rfl⟩
    · exact ⟨.inr k2, mixKind_str P w k2 t2, rfl⟩
    · exact ⟨.inr k3, mixKind_str P w k3 t3, rfl⟩
  · exact .cons (mixKind_str P w k1 t1) rfl (.cons (mixKind_str P w k2 t2) rfl (.cons (mixKind_str P w k3 t3) rfl .nil))
  · simp only [List.map_cons, List.map_nil]
    rw [List.nodup_iff_pairwise_ne] at nd ⊢
    show List.Pairwise _ (([k1, k2, k3] : List Str).map (Sum.inr : Str → Key))
    rw [List.pairwise_map]
    exact nd.imp fun h e => h (Sum.inr.inj e)
abbrev bA (x q : Str) (st : Stmt) (us : List Value) (l : List (Str × Value)) : Prop := ∀ (kV doc pm : Value) (an : Option Addr) (cdv ct : Value), bindArgs (PySem.W.fnOf x q (defArgs st) (defBody st) (defScope st) .none kV doc pm an cdv ct) ⟨us, []⟩ = pure l
theorem _root_.L2.Fun.b1 (F : Fun K x q st f fd) (e : ∀ a, bA x q st [a] [(p1, a)]) : Binds K fd [p1] [] := F.binds fun kV doc pm an cdv ct us hl => match us, hl with | [a], _ => e a kV doc pm an cdv ct
theorem _root_.L2.Fun.b2 (F : Fun K x q st f fd) (e : ∀ a b, bA x q st [a, b] [(p1, a), (p2, b)]) : Binds K fd [p1, p2] [] := F.binds fun kV doc pm an cdv ct us hl => match us, hl with | [a, b], _ => e a b kV doc pm an cdv ct
theorem _root_.L2.Fun.b3 (F : Fun K x q st f fd) (e : ∀ a b c, bA x q st [a, b, c] [(p1, a), (p2, b), (p3, c)]) : Binds K fd [p1, p2, p3] [] := F.binds fun kV doc pm an cdv ct us hl => match us, hl with | [a, b, c], _ => e a b c kV doc pm an cdv ct
theorem _root_.L2.Fun.b4 (F : Fun K x q st f fd) (e : ∀ a b c d, bA x q st [a, b, c, d] [(p1, a), (p2, b), (p3, c), (p4, d)]) : Binds K fd [p1, p2, p3, p4] [] := F.binds fun kV doc pm an cdv ct us hl => match us, hl with | [a, b, c, d], _ => e a b c d kV doc pm an cdv ct
theorem _root_.L2.Fun.b5 (F : Fun K x q st f fd) (e : ∀ a b c d g, bA x q st [a, b, c, d, g] [(p1, a), (p2, b), (p3, c), (p4, d), (p5, g)]) : Binds K fd [p1, p2, p3, p4, p5] [] := F.binds fun kV doc pm an cdv ct us hl => match us, hl with | [a, b, c, d, g], _ => e a b c d g kV doc pm an cdv ct
theorem mkC {g : List D → Res D} (H : FnOk P w K mg base CX0 k f fd ps (spF K g)) (b : Binds K fd ps []) (kp : PySem.W.keepIn K (.ref f) = true) (a : mg x = some (.ref f)) : Callee P w K mg base k x ps (spF K g) := ⟨f, fd, H, b, kp, a⟩
theorem mkN {g : List D → Res (List D)} (H : FnOk P w K mg base (CXe P w) k f fd ps (spN K g)) (b : Binds K fd ps []) (kp : PySem.W.keepIn K (.ref f) = true) (a : mg x = some (.ref f)) : CalleeN P w K mg base k x ps g := ⟨f, fd, H, b, kp, a⟩
theorem mkW {g : List Sl → Res (D × List Sl)} (H : FnOk P w K mg base CX0 k f fd ps (spM K g)) (b : Binds K fd ps []) (kp : PySem.W.keepIn K (.ref f) = true) (a : mg x = some (.ref f)) : Callee P w K mg base k x ps (spM K g) := ⟨f, fd, H, b, kp, a⟩
end
set_option maxHeartbeats 0 in
theorem all_mk {l : PySem.W.OpenLaw} {w : World} {K : PySem.W.Frag} {h : Heap} {mg : Str → Option Value} {fa aS aD fl : Addr} (X : K.In h) (G : h.Ns mainGlobals mg) (hfa : mg "law" = some (.ref fa)) {odS odl anl : Option Addr} {slS sll : Array (Option Value)} {ocl kVl dcl pml cdl ctl : Value} {nS nD : Nat} {tLONGEST tIN_SIGNS tGREAT tSMALL_AND_FIGURES ts1 ts2 ts3 d1 d2 d3 e1 e2 e3 : Tok}
    (h0 : AtF K "is_short_text" s_is_short_text) (h1 : AtF K "has_only" s_has_only) (h2 : AtF K "is_sign" s_is_sign) (h3 : AtF K "is_head" s_is_head) (h4 : AtF K "is_side" s_is_side) (h5 : AtF K "kind_of" s_kind_of) (h6 : AtF K "kinds_of" s_kinds_of) (h7 : AtF K "_law_stir" s_law_stir) (h8 : AtF K "_law_stream" s_law_stream) (h9 : AtF K "_law_draw" s_law_draw) (h10 : AtF K "_law_is_sign" s_law_is_sign) (h11 : AtF K "_law_is_head" s_law_is_head) (h12 : AtF K "_law_word" s_law_word) (h13 : AtF K "_law_kind" s_law_kind) (nl : noLst K = true) (gSI : PySem.W.nsIn K mainGlobals "SIDES" = some (some (.ref aS))) (lS : K.lookup aS = some ⟨.type "tuple", odS, .seq #[.str "left" ts1, .str "right" ts2, .str "none" ts3] nS, slS⟩) (gLONGEST : PySem.W.nsIn K mainGlobals "LONGEST" = some (some (.int 6 tLONGEST))) (gIN_SIGNS : PySem.W.nsIn K mainGlobals "IN_SIGNS" = some (some (.str "abcdefghijklmnopqrstuvwxyz0123456789+-*/()[]=<>,;.!?^&" tIN_SIGNS))) (gGREAT : PySem.W.nsIn K mainGlobals "GREAT" = some (some (.str "ABCDEFGHIJKLMNOPQRSTUVWXYZ" tGREAT))) (gSMALL_AND_FIGURES : PySem.W.nsIn K mainGlobals "SMALL_AND_FIGURES" = some (some (.str "abcdefghijklmnopqrstuvwxyz0123456789" tSMALL_AND_FIGURES))) (gD : PySem.W.nsIn K mainGlobals "KIND_BY_MARK" = some (some (.ref aD))) (lD : K.lookup aD = some ⟨.type "dict", none, .dict #[⟨PyData.keyHash w.params ":", .str ":" d1, .str "is" e1⟩, ⟨PyData.keyHash w.params "|", .str "|" d2, .str "or" e2⟩, ⟨PyData.keyHash w.params "~", .str "~" d3, .str "empty" e3⟩] nD, #[]⟩) (sD : (aD == sysModules) = false) (zz : ∀ x ∈ (["isinstance", "str", "list", "len", "all", "range", "enumerate"] : List Str), PySem.W.nsIn K mainGlobals x = some none) (al : PySem.W.nsIn K mainGlobals "law" = some (some (.ref fl))) (ll : K.lookup fl = some ⟨ocl, odl, .func (PySem.W.fnOf "law" "law" (defArgs s_law) (defBody s_law) (defScope s_law) .none kVl dcl pml anl cdl ctl), sll⟩) (cl : PySem.W.codeIn K cdl "law" = true) (kl : PySem.W.keepIn K (.ref fl) = true)
    : ∃ fd : FuncData, (∀ (s : Shared) (v : Value), BindsTo s fd ⟨[v], []⟩ [("_law_script", v)]) ∧ ∀ base : Heap, K.In base → base.Ns mainGlobals mg → FnOk l.prog w K mg base (CXe l.prog w) 5 fa fd ["_law_script"] (spLaw K) := by
  cases hfa.symm.trans (PySem.W.mg_of X G al)
  have T : Txt K mg := { z_isinstance := PySem.W.mg_none_of X G (zz _ (by decide)), z_str := PySem.W.mg_none_of X G (zz _ (by decide)), z_list := PySem.W.mg_none_of X G (zz _ (by decide)), z_len := PySem.W.mg_none_of X G (zz _ (by decide)), z_all := PySem.W.mg_none_of X G (zz _ (by decide)), z_range := PySem.W.mg_none_of X G (zz _ (by decide)), z_enumerate := PySem.W.mg_none_of X G (zz _ (by decide)), g_SIDES := ⟨.ref aS, ⟨_, PySem.W.mg_of X G gSI, rfl⟩, fun F => .tup (xs := [.str "left", .str "right", .str "none"]) (.inr ⟨_, _, _, lS, rfl, rfl, (show 3 ≤ sizeLine by decide), .cons ⟨_, rfl⟩ (.cons ⟨_, rfl⟩ (.cons ⟨_, rfl⟩ .nil))⟩) (.cons (.str (by decide +kernel)) (.cons (.str (by decide +kernel)) (.cons (.str (by decide +kernel)) .nil)))⟩, g_LONGEST := ⟨.int _, ⟨_, PySem.W.mg_of X G gLONGEST, ⟨_, rfl⟩⟩, fun F => .int _⟩, g_IN_SIGNS := ⟨.str _, ⟨_, PySem.W.mg_of X G gIN_SIGNS, ⟨_, rfl⟩⟩, fun F => .str (by decide +kernel)⟩, g_GREAT := ⟨.str _, ⟨_, PySem.W.mg_of X G gGREAT, ⟨_, rfl⟩⟩, fun F => .str (by decide +kernel)⟩, g_SMALL_AND_FIGURES := ⟨.str _, ⟨_, PySem.W.mg_of X G gSMALL_AND_FIGURES, ⟨_, rfl⟩⟩, fun F => .str (by decide +kernel)⟩ }
  have dk : DctG l.prog w K mg "KIND_BY_MARK" marksD := dct_mk gD lD sD (by decide +kernel) X G
  obtain ⟨_, _, F0, a0, k0⟩ := h0.go X G
  obtain ⟨_, _, F1, a1, k1⟩ := h1.go X G
  obtain ⟨_, _, F2, a2, k2⟩ := h2.go X G
  obtain ⟨_, _, F3, a3, k3⟩ := h3.go X G
  obtain ⟨_, _, F4, a4, k4⟩ := h4.go X G
  obtain ⟨_, _, F5, a5, k5⟩ := h5.go X G
  obtain ⟨_, _, F6, a6, k6⟩ := h6.go X G
  obtain ⟨_, _, F7, a7, k7⟩ := h7.go X G
  obtain ⟨_, _, F8, a8, k8⟩ := h8.go X G
  obtain ⟨_, _, F9, a9, k9⟩ := h9.go X G
  obtain ⟨_, _, F10, a10, k10⟩ := h10.go X G
  obtain ⟨_, _, F11, a11, k11⟩ := h11.go X G
  obtain ⟨_, _, F12, a12, k12⟩ := h12.go X G
  obtain ⟨_, _, F13, a13, k13⟩ := h13.go X G
  have F14 := fun_mk (st := s_law) ll cl kl
  refine ⟨PySem.W.fnOf "law" "law" (defArgs s_law) (defBody s_law) (defScope s_law) .none kVl dcl pml anl cdl ctl, fun s v => .of_eq rfl, fun base _ _ => ?_⟩
  obtain ⟨_, H, p8⟩ := pr_law_stream (P := l.prog) (w := w) (base := base)  F8 T
  have C8 := mkN H (F8.b1 fun _ _ _ _ _ _ _ => rfl) k8 a8
  obtain ⟨_, H, p4⟩ := pr_is_side (P := l.prog) (w := w) (base := base)  F4 T
  have C4 := mkC H (F4.b1 fun _ _ _ _ _ _ _ => rfl) k4 a4
  obtain ⟨_, H, p0⟩ := pr_is_short_text (P := l.prog) (w := w) (base := base)  F0 T
  have C0 := mkC H (F0.b1 fun _ _ _ _ _ _ _ => rfl) k0 a0
  obtain ⟨_, H, p1⟩ := pr_has_only (P := l.prog) (w := w) (base := base)  F1 T
  have C1 := mkC H (F1.b2 fun _ _ _ _ _ _ _ _ => rfl) k1 a1
  obtain ⟨_, H, p3⟩ := pr_is_head (P := l.prog) (w := w) (base := base) C0 C1 p0 p1 F3 T
  have C3 := mkC H (F3.b1 fun _ _ _ _ _ _ _ => rfl) k3 a3
  obtain ⟨_, H, p2⟩ := pr_is_sign (P := l.prog) (w := w) (base := base) C0 C1 p0 p1 F2 T
  have C2 := mkC H (F2.b1 fun _ _ _ _ _ _ _ => rfl) k2 a2
  obtain ⟨_, H, p5⟩ := pr_kind_of (P := l.prog) (w := w) (base := base) C3 C2 dk p3 p2 F5 T
  have C5 := mkC H (F5.b1 fun _ _ _ _ _ _ _ => rfl) k5 a5
  obtain ⟨_, H, p6⟩ := pr_kinds_of (P := l.prog) (w := w) (base := base) C4 C5 p4 p5 F6 T
  have C6 := mkN H (F6.b1 fun _ _ _ _ _ _ _ => rfl) k6 a6
  obtain ⟨_, H, p7⟩ := pr_law_stir (P := l.prog) (w := w) (base := base)  F7 T
  have C7 := mkC H (F7.b2 fun _ _ _ _ _ _ _ _ => rfl) k7 a7
  obtain ⟨_, H, p9⟩ := pr_law_draw (P := l.prog) (w := w) (base := base) C7 p7 F9 T
  have C9 := mkW H (F9.b2 fun _ _ _ _ _ _ _ _ => rfl) k9 a9
  obtain ⟨_, H, p12⟩ := pr_law_word (P := l.prog) (w := w) (base := base) C9 p9 F12 T
  have C12 := mkW H (F12.b1 fun _ _ _ _ _ _ _ => rfl) k12 a12
  obtain ⟨_, H, p11⟩ := pr_law_is_head (P := l.prog) (w := w) (base := base)  F11 T
  have C11 := mkC H (F11.b1 fun _ _ _ _ _ _ _ => rfl) k11 a11
  obtain ⟨_, H, p10⟩ := pr_law_is_sign (P := l.prog) (w := w) (base := base)  F10 T
  have C10 := mkC H (F10.b1 fun _ _ _ _ _ _ _ => rfl) k10 a10
  obtain ⟨_, H, p13⟩ := pr_law_kind (P := l.prog) (w := w) (base := base) C11 C10 p11 p10 F13 T
  have C13 := mkC H (F13.b2 fun _ _ _ _ _ _ _ _ => rfl) k13 a13
  obtain ⟨_, H, p14⟩ := pr_law (P := l.prog) (w := w) (base := base) C8 C6 C12 C13 C9 p6 p8 p9 p12 p13 F14 T
  exact law_imp nl H p14
theorem walk {l : PySem.W.OpenLaw} {q : Program} {loose : List Str} {XP : (Str → Option Value) → Heap → Prop} {YP : World → Heap → Prop} {d : DefRec} {K : Params → PySem.W.Frag} (hn : l.most = some 63) (hdf : d.params.defaults = [])
    (hY : ∀ (w : World) (h : Heap), YP w h → (K w.params).In h)
    (F : ∀ (w : World) (mg : Str → Option Value) (fa : Addr) (h : Heap), (K w.params).In h → h.Ns mainGlobals mg → mg d.name = some (.ref fa) →
      ∃ fd : FuncData, (∀ (s : Shared) (u : Value), BindsTo s fd ⟨[u], []⟩ [("_law_script", u)]) ∧ ∀ base : Heap, (K w.params).In base → base.Ns mainGlobals mg → FnOk l.prog w (K w.params) mg base (CXe l.prog w) 5 fa fd ["_law_script"] (spLaw (K w.params))) :
    PySem.W.WalkO q loose XP YP l.row.toRowW d [] (fun f vs => PySem.call f vs) :=
  L2.walk_of (n := 63) (k := 5) (x := "_law_script") (CX := fun w => CXe l.prog w) (sp := fun w => spLaw (K w.params)) hn (by decide) hdf ⟨rfl, by decide, by decide⟩ hY F (fun _ H a ns hl hO hS => ⟨a, ns, rfl, hS, fun _ => rfl⟩) fun _ _ _ _ _ ⟨_, _, _, _, _, _, _, _, _, _, _, z⟩ => z
end K67

open PySem PySem.W PyProof.Rows
set_option maxRecDepth 100000 in
set_option maxHeartbeats 0 in
theorem PySem.Challenge.cw_rulestable_k67_kinds_of_words_holds : PySem.Challenge.rw_rulestable_k67_kinds_of_words.Holds := by
  w_on; o_law; k_head; (case hw => w_witness2)
  k_fill
  refine K67.walk (l := PySem.Challenge.rw_rulestable_k67_kinds_of_words) rfl rfl (fun w h Y => PySem.W.kIn_of Y) ?F
  case F =>
    intro w mg fa h KX G hmg
    refine' K67.all_mk KX G hmg ?h0 ?h1 ?h2 ?h3 ?h4 ?h5 ?h6 ?h7 ?h8 ?h9 ?h10 ?h11 ?h12 ?h13 ?h14 ?h15 ?h16 ?h17 ?h18 ?h19 ?h20 ?h21 ?h22 ?h23 ?h24 ?h25 ?h26 ?h27 ?h28
    case h0 | h1 | h2 | h3 | h4 | h5 | h6 | h7 | h8 | h9 | h10 | h11 | h12 | h13 => exact ⟨_, _, _, _, _, _, _, _, _, _, by k_is, by k_is, by k_is, by k_is⟩
    case h14 => kernel_rfl
    case h15 | h16 | h17 | h18 | h19 | h20 | h21 | h22 => k_is
    case h23 => rfl
    case h24 => intro x hx; simp only [List.mem_cons, List.not_mem_nil, or_false] at hx; rcases hx with rfl | rfl | rfl | rfl | rfl | rfl | rfl <;> k_is
    case h25 | h26 | h27 | h28 => k_is
