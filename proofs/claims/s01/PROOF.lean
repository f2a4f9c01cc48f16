import PyProof.Rows.All
import Wide.All
import OpenK.AllK
import Wide.FinOn
import PyProof.EqAt
import PyProof.EqKinds
import PyProof.TupleCall
import KE.BitLaws
import Open.SpecLaws
import KE.OsHead
import KE.OsGo
import KE.KLam
import KE.KNestM
import KE.KSortTupG
import KE.KSortKey
import KE.KSortTupUse
import PySem.Challenge.RW_energyturns_s01_answers
section
set_option Elab.async false
set_option linter.all false
set_option maxRecDepth 100000
namespace L2
open PySem PySem.Spec PyProof.Rows
/-- a key: an int or a str -/
abbrev Key := Sum Int Str
def keyIs : Key → Value → Bool
  | .inl k, v => Value.isInt k v
  | .inr x, v => Value.isStrOf x v
def keyH (w : World) : Key → Int
  | .inl k => hashInt k
  | .inr x => hashStr w x
theorem keyIs_shape : ∀ {k : Key} {v : Value}, keyIs k v = true → (∃ i t, k = Sum.inl i ∧ v = Value.int i t) ∨ (∃ x t, k = Sum.inr x ∧ v = Value.str x t)
  | .inl i, v, h => by
    obtain ⟨t, e⟩ := Value.isInt_shape (k := i) (v := v) h
    exact .inl ⟨i, t, rfl, e⟩
  | .inr x, v, h => by
    obtain ⟨t, e⟩ := Value.isStrOf_shape (x := x) (v := v) h
    exact .inr ⟨x, t, rfl, e⟩
theorem keyIs_int (i : Int) (t : Tok) : keyIs (.inl i) (.int i t) = true := by simp [keyIs, Value.isInt]
theorem keyIs_str (x : Str) (t : Tok) : keyIs (.inr x) (.str x t) = true := by simp [keyIs, Value.isStrOf]
theorem key_ll (a b : Int) : decide ((Sum.inl a : Key) = Sum.inl b) = (a == b) := by
  by_cases e : a = b
  · subst e; simp
  · have h : ¬ (Sum.inl a : Key) = Sum.inl b := fun q => e (Sum.inl.inj q)
    rw [decide_eq_false h]
    exact (beq_eq_false_iff_ne.mpr e).symm
theorem key_rr (a b : Str) : decide ((Sum.inr a : Key) = Sum.inr b) = decide (a = b) := by
  by_cases e : a = b
  · subst e; simp
  · have h : ¬ (Sum.inr a : Key) = Sum.inr b := fun q => e (Sum.inr.inj q)
    rw [decide_eq_false h, decide_eq_false e]
theorem key_lr (a : Int) (b : Str) : decide ((Sum.inl a : Key) = Sum.inr b) = false := decide_eq_false (fun q => nomatch q)
theorem key_rl (a : Str) (b : Int) : decide ((Sum.inr a : Key) = Sum.inl b) = false := decide_eq_false (fun q => nomatch q)
def mixKind (prog : Program) (w : World) : PySem.KeyKind prog w Key where
  is := keyIs
  hash := keyH w
  inj := fun v a b ha hb => by
    rcases keyIs_shape ha with ⟨i, t, rfl, rfl⟩ | ⟨x, t, rfl, rfl⟩
    · rcases keyIs_shape hb with ⟨j, u, rfl, e⟩ | ⟨y, u, rfl, e⟩
      · injection e with e1 _; rw [e1]
      · exact nomatch e
    · rcases keyIs_shape hb with ⟨j, u, rfl, e⟩ | ⟨y, u, rfl, e⟩
      · exact nomatch e
      · injection e with e1 _; rw [e1]
  byValue := fun k v h => by
    rcases keyIs_shape h with ⟨i, t, rfl, rfl⟩ | ⟨x, t, rfl, rfl⟩ <;> rfl
  pyHash := fun hv h => by
    rcases keyIs_shape hv with ⟨i, t, rfl, rfl⟩ | ⟨x, t, rfl, rfl⟩
    · exact wpAny_pyHash_int h
    · exact wpAny_pyHash_str h
  eqBool := fun hu hv h => by
    rcases keyIs_shape hu with ⟨i, t, rfl, rfl⟩ | ⟨x, t, rfl, rfl⟩
    · rcases keyIs_shape hv with ⟨j, u, rfl, rfl⟩ | ⟨y, u, rfl, rfl⟩
      · rw [key_ll] at h; exact wpAny_eqBool_int h
      · rw [key_lr] at h; exact SeqAt.EqAt.int_str i t y u _ _ _ _ h
    · rcases keyIs_shape hv with ⟨j, u, rfl, rfl⟩ | ⟨y, u, rfl, rfl⟩
      · rw [key_rl] at h; exact SeqAt.EqAt.str_int x t j u _ _ _ _ h
      · rw [key_rr] at h; exact wpAny_eqBool_str h
  «strs» := fun k x t v h => by
    rcases keyIs_shape h with ⟨i, u, rfl, e⟩ | ⟨y, u, rfl, e⟩
    · exact nomatch e
    · injection e with e1 _
      subst e1
      cases v <;> rfl
theorem mixKind_int (prog : Program) (w : World) (i : Int) (t : Tok) : (mixKind prog w).is (.inl i) (.int i t) = true := keyIs_int i t
theorem mixKind_str (prog : Program) (w : World) (x : Str) (t : Tok) : (mixKind prog w).is (.inr x) (.str x t) = true := keyIs_str x t
end L2
namespace L2
open PySem PySem.Spec PyProof.Rows
/-- a value, without the heap -/
inductive V where
  | non | bl (b : Bool) | int (i : Int) | str (x : Str) | byt (b : Array UInt8) | flt (b : UInt64) | ref (a : Addr) | ty (n : String)
  deriving DecidableEq
def RelV : V → Value → Prop
  | .non, u => u = Value.none
  | .bl b, u => u = Value.bool b
  | .int i, u => ∃ t, u = Value.int i t
  | .str x, u => ∃ t, u = Value.str x t
  | .byt b, u => ∃ t, u = Value.bytes b t
  | .flt b, u => ∃ t, u = Value.float b t
  | .ref a, u => u = Value.ref a
  | .ty n, u => u = Value.type n
abbrev Vals : List V → List Value → Prop := Paired RelV
theorem Vals.length {xs : List V} {us : List Value} (r : Vals xs us) : xs.length = us.length := Paired.length r
theorem Vals.get : ∀ {xs : List V} {us : List Value} {i : Nat} {x : V}, Vals xs us → xs[i]? = some x → ∃ u, us[i]? = some u ∧ RelV x u
  | _, _, _, _, .nil, e => by simp at e
  | _, _, 0, _, .cons r _, e => by simp at e; subst e; exact ⟨_, rfl, r⟩
  | _, _, i + 1, x, .cons _ t, e => by
    obtain ⟨u, h1, h2⟩ := Vals.get (i := i) (x := x) t (by simpa using e)
    exact ⟨u, by simpa using h1, h2⟩
theorem Vals.append : ∀ {xs ys : List V} {us ws : List Value}, Vals xs us → Vals ys ws → Vals (xs ++ ys) (us ++ ws)
  | _, _, _, _, .nil, s => s
  | _, _, _, _, .cons r t, s => .cons r (Vals.append t s)
theorem Vals.take : ∀ {xs : List V} {us : List Value} (n : Nat), Vals xs us → Vals (xs.take n) (us.take n)
  | _, _, 0, _ => .nil
  | _, _, _ + 1, .nil => .nil
  | _, _, n + 1, .cons r t => .cons r (Vals.take n t)
theorem Vals.drop : ∀ {xs : List V} {us : List Value} (n : Nat), Vals xs us → Vals (xs.drop n) (us.drop n)
  | _, _, 0, r => r
  | _, _, _ + 1, .nil => .nil
  | _, _, n + 1, .cons _ t => Vals.drop n t
def RelO : Option V → Option Value → Prop
  | some v, some u => RelV v u
  | none, none => True
  | _, _ => False
def KV {κ : Type} : List (κ × V) → List (κ × Value) → Prop := Paired fun (p : κ × V) (q : κ × Value) => p.1 = q.1 ∧ RelV p.2 q.2
/-- a key of a dict (00_mix): an int or a text -/
def kV : Key → V
  | .inl i => .int i
  | .inr x => .str x
/-- what stands at a tracked address -/
inductive HO where
  /-- a list -/
  | lst (xs : List V)
  /-- a tuple (never changes) -/
  | tup (xs : List V)
  /-- a dict whose keys are ints and texts; one whose keys are tuples of ints and texts (the empty one is both) -/
  | dK (kvs : List (Key × V)) | dT (kvs : List (List Key × V))
  /-- a set of ints: its members, its size -/
  | set (S : Int → Bool) (n : Nat)
  /-- an instance of the class at C, its dict at dx, its attributes -/
  | ins (C dx : Addr) (fs : List (Str × V))
  /-- the dict of the instance at x -/
  | own (x : Addr)
  /-- the dict of an exception -/
  | xd (fs : List (Str × V))
  /-- a bound method, f of x -/
  | met (f x : Addr)
  /-- a range object lo, lo + 1, .. below hi -/
  | rng (lo hi : Int)
  /-- a thing that is known to the object (the script; a dict while a loop walks it): read, never written while it is so -/
  | frz (o : Obj) (u : HO)
  /-- a code object's table -/
  | tbl (ps : Array Value)
  /-- any other thing, by what is true of its one object (a def of one's own: SetO a S n := HO.ext fun h => ..) -/
  | ext (φ : Heap → Prop)
abbrev Hp := Addr → Option HO
def upd (H : Hp) (a : Addr) (o : HO) : Hp := fun b => if b = a then some o else H b
theorem upd_same {H : Hp} {a : Addr} {o : HO} : upd H a o a = some o := by unfold upd; rw [if_pos rfl]
theorem upd_ne {H : Hp} {a b : Addr} {o : HO} (h : b ≠ a) : upd H a o b = H b := by unfold upd; rw [if_neg h]
/-- two objects of different content stand apart -/
theorem ne_of {H : Hp} {a b : Addr} {o u : HO} (h : H a = some o) (h' : H b = some u) (d : o ≠ u) : a ≠ b := by
  intro e; subst e; rw [h] at h'; exact d (Option.some.inj h')
theorem ne_of_none {H : Hp} {a b : Addr} {o : HO} (h : H a = some o) (h' : H b = none) : a ≠ b := by
  intro e; subst e; rw [h] at h'; cases h'
section
variable (P : Program) (w : World)
def ObjOk (H : Hp) (h : Heap) (a : Addr) : HO → Prop
  | .lst xs => xs.length ≤ sizeLine ∧ ∃ (its : List Value) (n : Nat), Vals xs its ∧ h.get? a = some { cls := .type "list", data := .seq its.toArray n }
  | .tup xs => xs.length ≤ sizeLine ∧ ∃ its : List Value, Vals xs its ∧ IsTup h a its.toArray
  | .dK kvs => kvs.length ≤ sizeLine ∧ (a == sysModules) = false ∧ ∃ vs, KV kvs vs ∧ h.DictOf (mixKind P w) a vs
  | .dT kvs => kvs.length ≤ sizeLine ∧ (a == sysModules) = false ∧ ∃ xs : List (List Key × Addr × Value),
      Paired (fun (p : List Key × V) (q : List Key × Addr × Value) => p.1 = q.1 ∧ H q.2.1 = some (.tup (p.1.map kV)) ∧ RelV p.2 q.2.2) kvs xs ∧
      ∃ o es ep, h.get? a = some o ∧ o.ExactDict ∧ o.data = .dict es ep ∧ es.toList = xs.map (entryOfKey (tupleKind (mixKind P w))) ∧ (xs.map (·.1)).Nodup
  | .set S n => h.SetOf (intKind P w) a S n
  | .ins C dx fs => H dx = some (.own a) ∧ fs.length ≤ 1000 ∧ dx ≠ a ∧ h.get? a = some (PySem.W.instObj C dx) ∧
      ∃ mA, h.Ns1 dx mA ∧ (∀ f, RelO (fs.lookup f) (mA f)) ∧ PySem.Within mA (fs.map (·.1))
  | .own _ => ∃ o, h.get? a = some o
  | .xd fs => ∃ mA, h.Ns1 a mA ∧ ∀ f, RelO (fs.lookup f) (mA f)
  | .rng lo hi => ∃ t u v, h.get? a = some { cls := .type "range", data := .fields #[.int lo t, .int hi u, .int 1 v] }
  | .frz o u => h.get? a = some o ∧ ObjOk H h a u
  | .tbl ps => h.get? a = some { cls := .none, data := .fields ps }
  | .met f x => h.get? a = some (PySem.W.methodObj (.ref f) (.ref x))
  | .ext φ => φ h ∧ (∃ o, h.get? a = some o) ∧ ∀ h1 h2 : Heap, φ h1 → (∀ o, h1.get? a = some o → h2.get? a = some o) → φ h2
/-- the abstract heap is held -/
def HOk (H : Hp) (h : Heap) : Prop := ∀ a o, H a = some o → ObjOk P w H h a o
end
section
variable {P : Program} {w : World} {H H' : Hp} {h h' : Heap} {a : Addr} {o : HO}
theorem ObjOk.lt (x : ObjOk P w H h a o) : a < h.objs.size := by
  cases o with
  | lst xs => obtain ⟨_, _, _, _, e⟩ := x; exact Heap.lt_size e
  | tup xs => obtain ⟨_, _, _, p⟩ := x; exact p.lt
  | dK kvs => obtain ⟨_, _, _, _, o, _, _, e, _⟩ := x; exact Heap.lt_size e
  | dT kvs => obtain ⟨_, _, _, _, o, _, _, e, _⟩ := x; exact Heap.lt_size e
  | set S n => obtain ⟨o, _, _, _, e, _⟩ := x; exact Heap.lt_size e
  | ins C dx fs => obtain ⟨_, _, _, e, _⟩ := x; exact Heap.lt_size e
  | own y => obtain ⟨_, e⟩ := x; exact Heap.lt_size e
  | xd fs => obtain ⟨_, ⟨_, _, _, e, _⟩, _⟩ := x; exact Heap.lt_size e
  | rng lo hi => obtain ⟨_, _, _, e⟩ := x; exact Heap.lt_size e
  | frz ob u => obtain ⟨e, _⟩ := x; exact Heap.lt_size e
  | tbl ps => exact Heap.lt_size (show h.get? a = some _ from x)
  | met f y => exact Heap.lt_size (show h.get? a = some _ from x)
  | ext φ => obtain ⟨_, ⟨_, e⟩, _⟩ := x; exact Heap.lt_size e
theorem Paired.mapP {α β : Type} {F G : α → β → Prop} : ∀ {l₁ : List α} {l₂ : List β}, Paired F l₁ l₂ → (∀ a b, F a b → G a b) → Paired G l₁ l₂
  | _, _, .nil, _ => .nil
  | _, _, .cons r t, f => .cons (f _ _ r) (Paired.mapP t f)
/-- what an object's description leans on: its own object, its own dict, the tuples -/
theorem ObjOk.stay (x : ObjOk P w H h a o) (k : ∀ b u, (b = a ∨ H b = some (.own a)) → h.get? b = some u → h'.get? b = some u)
    (ho : ∀ b, H b = some (.own a) → H' b = some (.own a)) (ht : ∀ b xs, H b = some (.tup xs) → H' b = some (.tup xs)) : ObjOk P w H' h' a o := by
  induction o with
  | lst xs => obtain ⟨z, its, n, r, e⟩ := x; exact ⟨z, its, n, r, k _ _ (.inl rfl) e⟩
  | tup xs => obtain ⟨z, its, r, ob, e, c⟩ := x; exact ⟨z, its, r, ob, k _ _ (.inl rfl) e, c⟩
  | dK kvs => obtain ⟨z, y, vs, r, ob, es, ep, e, c⟩ := x; exact ⟨z, y, vs, r, ob, es, ep, k _ _ (.inl rfl) e, c⟩
  | dT kvs =>
    obtain ⟨z, y, xs, r, ob, es, ep, e, c⟩ := x
    exact ⟨z, y, xs, Paired.mapP r fun p q z => ⟨z.1, ht _ _ z.2.1, z.2.2⟩, ob, es, ep, k _ _ (.inl rfl) e, c⟩
  | set S n => obtain ⟨ob, es, ep, t, e, c⟩ := x; exact ⟨ob, es, ep, t, k _ _ (.inl rfl) e, c⟩
  | ins C dx fs =>
    obtain ⟨d, z, ne, e, mA, ⟨od, es, ep, e2, c⟩, r⟩ := x
    exact ⟨ho _ d, z, ne, k _ _ (.inl rfl) e, mA, ⟨od, es, ep, k _ _ (.inr d) e2, c⟩, r⟩
  | own y => obtain ⟨ob, e⟩ := x; exact ⟨ob, k _ _ (.inl rfl) e⟩
  | xd fs => obtain ⟨mA, ⟨od, es, ep, e, c⟩, r⟩ := x; exact ⟨mA, ⟨od, es, ep, k _ _ (.inl rfl) e, c⟩, r⟩
  | rng lo hi => obtain ⟨t, u, v, e⟩ := x; exact ⟨t, u, v, k _ _ (.inl rfl) e⟩
  | frz ob u ih => obtain ⟨e, q⟩ := x; exact ⟨k _ _ (.inl rfl) e, ih q⟩
  | tbl ps =>
    have e : h.get? a = some { cls := .none, data := .fields ps } := x
    show h'.get? a = some { cls := .none, data := .fields ps }
    exact k a _ (.inl rfl) e
  | met f y =>
    have e : h.get? a = some (PySem.W.methodObj (.ref f) (.ref y)) := x
    show h'.get? a = some (PySem.W.methodObj (.ref f) (.ref y))
    exact k a _ (.inl rfl) e
  | ext φ => obtain ⟨p, ⟨o, e⟩, st⟩ := x; exact ⟨st _ _ p fun o q => k _ _ (.inl rfl) q, ⟨o, k _ _ (.inl rfl) e⟩, st⟩
theorem HOk.lt (x : HOk P w H h) (e : H a = some o) : a < h.objs.size := (x a o e).lt
theorem HOk.fresh (x : HOk P w H h) (e : h.objs.size ≤ a) : H a = none := by
  cases q : H a with
  | none => rfl
  | some u => exact absurd (Nat.lt_of_lt_of_le (x.lt q) e) (Nat.lt_irrefl _)
/-- every object of the heap is kept -/
theorem HOk.kept (x : HOk P w H h) (k : ∀ b u, h.get? b = some u → h'.get? b = some u) : HOk P w H h' := fun a o e =>
  (x a o e).stay (fun b u _ q => k b u q) (fun _ q => q) fun _ _ q => q
/-- a new object is laid and tracked -/
theorem HOk.laid (x : HOk P w H h) (k : ∀ b u, h.get? b = some u → h'.get? b = some u) (hp : h.objs.size ≤ a) (new : ObjOk P w (upd H a o) h' a o) : HOk P w (upd H a o) h' := fun b u e => by
  have hn := x.fresh hp
  by_cases hb : b = a
  · subst hb; rw [upd_same] at e; cases e; exact new
  · rw [upd_ne hb] at e
    exact (x b u e).stay (fun c v _ q => k c v q) (fun c q => by rw [upd_ne (ne_of_none q hn)]; exact q) fun c xs q => by rw [upd_ne (ne_of_none q hn)]; exact q
end
/-- what may be read as u: it is u, or a known u -/
def Rd (H : Hp) (a : Addr) (u : HO) : Prop := H a = some u ∨ ∃ o, H a = some (.frz o u)
theorem Rd.ok {P : Program} {w : World} {H : Hp} {h : Heap} {a : Addr} {u : HO} (r : Rd H a u) (x : HOk P w H h) : ObjOk P w H h a u := by
  rcases r with r | ⟨o, r⟩
  · exact x a u r
  · obtain ⟨_, q⟩ := x a _ r
    exact q
/-- what may be written -/
def Mut : Option HO → Prop
  | some (.lst _) => True
  | some (.dK _) => True
  | some (.dT _) => True
  | some (.set _ _) => True
  | some (.ins _ _ _) => True
  | some (.ext _) => True
  | _ => False
section
variable {P : Program} {w : World} {H : Hp} {h h' : Heap} {x e : Addr} {o' : HO}
/-- the object at e is changed: x itself, or the dict of the instance x -/
theorem HOk.write (ok : HOk P w H h) (mu : Mut (H x)) (he : e = x ∨ H e = some (.own x)) (k : ∀ b u, b ≠ e → h.get? b = some u → h'.get? b = some u) (heo : ∃ u, h'.get? e = some u)
    (new : ObjOk P w (upd H x o') h' x o') : HOk P w (upd H x o') h' := fun b u q => by
  have nown : ∀ c y, H c = some (.own y) → c ≠ x := fun c y r z => by subst z; rw [r] at mu; exact mu
  have ntup : ∀ c xs, H c = some (.tup xs) → c ≠ x := fun c xs r z => by subst z; rw [r] at mu; exact mu
  by_cases hb : b = x
  · subst hb; rw [upd_same] at q; cases q; exact new
  · rw [upd_ne hb] at q
    by_cases hbe : b = e
    · have q' : H b = some (.own x) := by
        rcases he with z | z
        · exact absurd (hbe.trans z) hb
        · rw [hbe]; exact z
      rw [q] at q'; cases q'
      obtain ⟨v, hv⟩ := heo
      exact ⟨v, by rw [hbe]; exact hv⟩
    · refine (ok b u q).stay (fun c v hc r => k c v ?_ r) (fun c r => by rw [upd_ne (nown c b r)]; exact r) fun c xs r => by rw [upd_ne (ntup c xs r)]; exact r
      rcases hc with rfl | hc
      · exact hbe
      · rintro rfl
        rcases he with z | z
        · exact nown c b hc z
        · rw [hc] at z; cases z; exact hb rfl
end
structure Un (fs ex : List Addr) (H H' : Hp) (h h' : Heap) : Prop where
  keep : ∀ b o, h.get? b = some o → H b = none → b ∉ fs → b ∉ ex → h'.get? b = some o
  slot : ∀ b o, h.get? b = some o → H b = none → b ∈ fs → b ∉ ex → ∃ sl, h'.get? b = some { o with slots := sl }
  free : ∀ b o, h.get? b = some o → H b = none → b ∉ ex → H' b = none
  there : ∀ b o, h.get? b = some o → b ∉ ex → ∃ o', h'.get? b = some o'
  tups : ∀ b xs, H b = some (.tup xs) → H' b = some (.tup xs)
  frzs : ∀ b o u, H b = some (.frz o u) → H' b = some (.frz o u)
  tbls : ∀ b ps, H b = some (.tbl ps) → ∃ more, H' b = some (.tbl (ps ++ more))
section
variable {fs fs' ex ex' : List Addr} {H H1 H2 : Hp} {h h1 h2 h' : Heap} {a x e : Addr} {o : HO}
theorem Un.any (u : Un fs ex H H1 h h1) {b : Addr} {ob : Obj} (q : h.get? b = some ob) (n : H b = none) (hx : b ∉ ex) : ∃ sl, h1.get? b = some { ob with slots := sl } := by
  by_cases hb : b ∈ fs
  · exact u.slot b ob q n hb hx
  · exact ⟨ob.slots, u.keep b ob q n hb hx⟩
theorem Un.kept (k : ∀ b u, h.get? b = some u → h'.get? b = some u) : Un fs ex H H h h' :=
  ⟨fun b ob q _ _ _ => k b ob q, fun b ob q _ _ _ => ⟨ob.slots, k b ob q⟩, fun _ _ _ n _ => n, fun b ob q _ => ⟨ob, k b ob q⟩, fun _ _ q => q, fun _ _ _ q => q, fun _ ps q => ⟨#[], by rw [q]; simp⟩⟩
theorem Un.refl : Un fs ex H H h h := Un.kept fun _ _ q => q
theorem Un.laid (k : ∀ b u, h.get? b = some u → h'.get? b = some u) (hp : h.objs.size ≤ a) (hn : H a = none) : Un fs ex H (upd H a o) h h' where
  keep := fun b u q _ _ _ => k b u q
  slot := fun b u q _ _ _ => ⟨u.slots, k b u q⟩
  free := fun b u q n _ => by rw [upd_ne (Nat.ne_of_lt (Nat.lt_of_lt_of_le (Heap.lt_size q) hp))]; exact n
  there := fun b u q _ => ⟨u, k b u q⟩
  tups := fun b xs q => by rw [upd_ne (ne_of_none q hn)]; exact q
  frzs := fun b u xs q => by rw [upd_ne (ne_of_none q hn)]; exact q
  tbls := fun b ps q => ⟨#[], by rw [upd_ne (ne_of_none q hn), q]; simp⟩
theorem Un.write (mu : Mut (H x)) (he : e = x ∨ H e = some (.own x)) (k : ∀ b u, b ≠ e → h.get? b = some u → h'.get? b = some u) (heo : ∃ u, h'.get? e = some u) : Un fs ex H (upd H x o) h h' := by
  have hx : ∀ b, H b = none → b ≠ x := fun b n z => by subst z; rw [n] at mu; exact mu
  have hb : ∀ b, H b = none → b ≠ e := fun b n z => by
    subst z
    rcases he with r | r
    · exact hx b n r
    · rw [n] at r; cases r
  have hm : ∀ b u, H b = some u → ¬ Mut (some u) → b ≠ x := fun b u q nm z => by subst z; rw [q] at mu; exact nm mu
  refine ⟨fun b u q n _ _ => k b u (hb b n) q, fun b u q n _ _ => ⟨u.slots, k b u (hb b n) q⟩, fun b u q n _ => by rw [upd_ne (hx b n)]; exact n, fun b u q _ => ?_,
    fun b xs q => by rw [upd_ne (hm b _ q fun z => z)]; exact q, fun b u xs q => by rw [upd_ne (hm b _ q fun z => z)]; exact q, fun b ps q => ⟨#[], by rw [upd_ne (hm b _ q fun z => z), q]; simp⟩⟩
  by_cases hbe : b = e
  · subst hbe; exact heo
  · exact ⟨u, k b u hbe q⟩
end
def trk (h : Heap) (H : Hp) : List Addr := (List.range h.objs.size).filter fun a => (H a).isSome
def hidT (h : Heap) (H : Hp) : Heap := PySem.W.hideAll h (trk h H)
theorem hidT_size (h : Heap) (H : Hp) : (hidT h H).objs.size = h.objs.size := PySem.W.hideAll_size _ _
theorem hidT_get {h : Heap} {H : Hp} {b : Addr} {o : Obj} (e : h.get? b = some o) (n : H b = none) : (hidT h H).get? b = some o :=
  PySem.W.hideAll_get _ e fun hm => by
    have q : (H b).isSome = true := (List.mem_filter.mp hm).2
    rw [n] at q; simp at q
theorem of_hidT {h : Heap} {H : Hp} {b : Addr} {o : Obj} (e : (hidT h H).get? b = some o) : h.get? b = some o ∧ H b = none := by
  have e' : h.get? b = some o := PySem.W.of_hideAll (trk h H) e
  refine ⟨e', ?_⟩
  cases q : H b with
  | none => rfl
  | some x =>
    have hm : b ∈ trk h H := List.mem_filter.mpr ⟨List.mem_range.mpr (Heap.lt_size e'), by simp [q]⟩
    have z : (hidT h H).get? b = none := PySem.W.hideAll_none (trk h H) hm
    rw [z] at e; cases e
end L2
namespace L2
open PySem PySem.Spec PyProof.Rows
/-- the module's facts, over the base: the heap at the law's entry without what is tracked there -/
structure Mod (K : PySem.W.Frag) (mg : Str → Option Value) (base : Heap) : Prop where
  kin : K.In base
  glob : base.Ns mainGlobals mg
  blt : ∃ mb, base.Ns builtinsNs mb ∧ ∀ x : Str, x ≠ "__name__" → mb x = bootBuiltins x
  nolimit : base.NoLimit
/-- the context: a def's body (or a comprehension's block) running. base: fixed through the whole law; s₀, H₀: the entry; outer: the frames whose slots others may change (a def's callers); stack: all frames that run;
   ex: iterators that were made ahead of the entry and are walked here (a comprehension's); fn: the names whose cells were made at the entry (a def: all; a comprehension's block: its own); calm: not within an except suite; pn: pins that every state bears; xe: what is wanted of an exception that leaves the code -/
structure Cx where
  prog : Program
  w : World
  K : PySem.W.Frag
  mg : Str → Option Value
  base : Heap
  A : Around
  N : List Str
  s_0 : Shared
  H_0 : Hp
  env : Env
  outer : List Env
  stack : List Env
  ex : List Addr
  fn : Str → Bool
  calm : Bool
  pn : List (Addr × Obj)
  xe : Value → Shared → Prop
/-- the callers' frames -/
def frs (l : List Env) : List Addr := l.filterMap (·.frame)
abbrev Cx.fs (X : Cx) : List Addr := frs X.outer
def Vis (sc : Scope) (x : Str) : Prop := sc.names.lookup x = some .local ∨ sc.names.lookup x = some .cell ∨ sc.names.lookup x = some .free
def Loc (sc : Scope) (x : Str) : Prop := sc.names.lookup x = some .local ∨ sc.names.lookup x = some .cell
def Look (env : Env) (h : Heap) (m : Str → Option Value) (x : Str) (u : Value) : Prop :=
  (env.kindOf x = some .local ∧ m x = some u) ∨ ((env.kindOf x = some .cell ∨ env.kindOf x = some .free) ∧ ∃ c, env.cells.lookup x = some c ∧ h.IsCell c (some u))
structure Cx.Ok (X : Cx) : Prop where
  mod : Mod X.K X.mg X.base
  kind : X.env.scope.kind = .function
  glob : X.env.globals = mainGlobals
  blt : X.env.builtins = builtinsNs
  above : X.s_0.heap.objs.size ≤ X.env.locals
  inj : ∀ x y c, X.env.cells.lookup x = some c → X.env.cells.lookup y = some c → x = y
  has : ∀ x, (X.env.kindOf x = some .cell ∨ X.env.kindOf x = some .free) → ∃ c, X.env.cells.lookup x = some c
  cab : ∀ x c, X.fn x = true → X.env.cells.lookup x = some c → X.s_0.heap.objs.size ≤ c
  hd : X.calm = true → X.A.handled = none
  frames : X.A.frames = some X.stack
  stk : X.stack = X.outer ∨ (X.stack = X.env :: X.outer ∧ X.env.frame = some X.env.locals)
  exf : ∀ b ∈ X.ex, b ≠ X.env.locals ∧ ∀ x c, X.env.cells.lookup x = some c → c ≠ b
  bs : ∀ b o, X.base.get? b = some o → X.s_0.heap.get? b = some o ∧ X.H_0 b = none
  bsz : X.base.objs.size ≤ X.s_0.heap.objs.size
  noex : ∀ b o, X.base.get? b = some o → b ∉ X.ex
  exfs : ∀ b ∈ X.ex, b ∉ X.fs
  funs : X.s_0.heap.FunFrames X.base X.outer
  frf : ∀ b ∈ X.fs, X.H_0 b = none
structure Inv (X : Cx) (pins : List (Addr × Obj)) (σ : List (Option V)) (H : Hp) (s : Shared) : Prop where
  ok : X.Ok
  os : s.os = X.s_0.os
  bare : AllBare s.gens
  base : Un X.fs X.ex X.H_0 H X.s_0.heap s.heap
  loc : ∃ m, s.heap.Ns X.env.locals m ∧ ∀ (i : Nat) (x : Str) (v : V), X.N[i]? = some x → σ[i]? = some (some v) → Vis X.env.scope x → ∃ u, RelV v u ∧ Look X.env s.heap m x u
  cell : ∀ x c, X.env.cells.lookup x = some c → ∃ v, s.heap.IsCell c v
  free : H X.env.locals = none
  freeC : ∀ x c, X.env.cells.lookup x = some c → H c = none
  pin : ∀ p ∈ X.pn ++ pins, s.heap.get? p.1 = some p.2 ∧ H p.1 = none ∧ p.1 ≠ X.env.locals ∧ p.1 ∉ X.fs ∧ ∀ v, p.2.data ≠ .cell v
  hok : HOk X.prog X.w H s.heap
  len : σ.length = X.N.length
section
variable {X : Cx} {pins : List (Addr × Obj)} {σ : List (Option V)} {H H' : Hp} {s : Shared} {h' : Heap}
theorem Cx.Ok.nofr (ok : X.Ok) {b : Addr} {o : Obj} (e : X.base.get? b = some o) : b ∉ X.fs := fun hb => by
  have := (ok.funs.mem hb).1
  rw [e] at this; cases this
theorem Inv.bs (I : Inv X pins σ H s) : ∀ b o, X.base.get? b = some o → s.heap.get? b = some o ∧ H b = none := fun b o e =>
  ⟨I.base.keep b o (I.ok.bs b o e).1 (I.ok.bs b o e).2 (I.ok.nofr e) (I.ok.noex b o e), I.base.free b o (I.ok.bs b o e).1 (I.ok.bs b o e).2 (I.ok.noex b o e)⟩
theorem Inv.bk (I : Inv X pins σ H s) : ∀ b o, X.base.get? b = some o → s.heap.get? b = some o := fun b o e => (I.bs b o e).1
theorem Inv.mod (I : Inv X pins σ H s) : Mod X.K X.mg X.base := I.ok.mod
theorem Inv.kIn (I : Inv X pins σ H s) : X.K.In s.heap := I.ok.mod.kin.keeps I.bk
/-- the frame over the base: for OpenK's rules (K.In X.base is I.mod.kin) -/
theorem Inv.fr (I : Inv X pins σ H s) : ∃ m, Fr X.base X.env.locals s.heap m :=
  let ⟨m, hn, _⟩ := I.loc
  ⟨m, hn, I.bk, Nat.le_trans I.ok.bsz I.ok.above⟩
theorem Inv.lt (I : Inv X pins σ H s) : X.env.locals < s.heap.objs.size := let ⟨_, hn, _⟩ := I.loc; hn.lt
theorem Inv.sz (I : Inv X pins σ H s) : X.s_0.heap.objs.size ≤ s.heap.objs.size := Nat.le_trans I.ok.above (Nat.le_of_lt I.lt)
theorem Inv.nofs (I : Inv X pins σ H s) {a : Addr} (h : s.heap.objs.size ≤ a) : a ∉ X.fs := fun hb => by
  obtain ⟨_, o, ho, _⟩ := I.ok.funs.mem hb
  exact absurd (Nat.lt_of_lt_of_le (Heap.lt_size ho) (Nat.le_trans I.sz h)) (Nat.lt_irrefl _)
theorem Inv.cne (I : Inv X pins σ H s) : ∀ x c, X.env.cells.lookup x = some c → c ≠ X.env.locals := fun x c e z => by
  obtain ⟨v, o, ho, hd⟩ := I.cell x c e
  obtain ⟨m, ⟨o', es, ep, ho', hd', _⟩, _⟩ := I.loc
  rw [z, ho'] at ho; cases ho; rw [hd'] at hd; cases hd
theorem Inv.funs (I : Inv X pins σ H s) : s.heap.FunFrames X.base X.outer := by
  have all : ∀ (l : List Env), (∀ b ∈ frs l, b ∈ X.fs) → X.s_0.heap.FunFrames X.base l → s.heap.FunFrames X.base l := by
    intro l
    induction l with
    | nil => intro _ _; trivial
    | cons env r ih =>
      intro hs hl
      obtain ⟨hk, ⟨L, o, hf, hn, ho, hd⟩, hr⟩ := hl
      have hL : L ∈ X.fs := hs L (by unfold frs; rw [List.filterMap_cons, hf]; exact List.mem_cons_self)
      obtain ⟨sl, e⟩ := I.base.slot L o ho (I.ok.frf L hL) hL fun z => I.ok.exfs L z hL
      exact ⟨hk, ⟨L, _, hf, hn, e, hd⟩, ih (fun b hb => hs b (by unfold frs; rw [List.filterMap_cons, hf]; exact List.mem_cons_of_mem _ hb)) hr⟩
  exact all X.outer (fun _ hb => hb) I.ok.funs
/-- the frames that run, for a call -/
theorem Inv.stack (I : Inv X pins σ H s) : s.heap.FunFrames X.base X.stack := by
  rcases I.ok.stk with e | ⟨e, hf⟩
  · rw [e]; exact I.funs
  · rw [e]
    obtain ⟨m, hn, _⟩ := I.loc
    refine .cons (by rw [I.ok.kind]; decide) hf hn ?_ I.funs
    exact Heap.get?_none_of_le (Nat.le_trans I.ok.bsz I.ok.above)
theorem Inv.stkSub (I : Inv X pins σ H s) : ∀ b ∈ frs X.stack, b ∈ X.env.locals :: X.fs := fun b hb => by
  rcases I.ok.stk with e | ⟨e, hf⟩
  · rw [e] at hb; exact List.mem_cons_of_mem _ hb
  · rw [e] at hb
    unfold frs at hb
    rw [List.filterMap_cons, hf] at hb
    exact hb
theorem Inv.stkFree (I : Inv X pins σ H s) : ∀ b ∈ frs X.stack, H b = none := fun b hb => by
  rcases List.mem_cons.mp (I.stkSub b hb) with e | hb
  · rw [e]; exact I.free
  · obtain ⟨_, o, ho, _⟩ := I.ok.funs.mem hb
    exact I.base.free b o ho (I.ok.frf b hb) fun z => I.ok.exfs b z hb
/-- THE STEP: the untracked objects but the frame and the records at ch are kept (the callers' frames up to slots), the frame's map is kept, the new abstract heap is held -/
theorem Inv.step {g' : Array GenState} {t' : Nat} {d' : Drawn} {ch : List Addr} (I : Inv X pins σ H s)
    (hch : ∀ b ∈ ch, (b ∈ X.ex ∨ X.s_0.heap.objs.size ≤ b) ∧ b ≠ X.env.locals ∧ (∀ x c, X.env.cells.lookup x = some c → c ≠ b) ∧ ∀ p ∈ X.pn ++ pins, p.1 ≠ b)
    (keep : ∀ b o, b ≠ X.env.locals → b ∉ X.fs → b ∉ ch → s.heap.get? b = some o → H b = none → h'.get? b = some o)
    (slot : ∀ b o, b ≠ X.env.locals → b ∈ X.fs → b ∉ ch → s.heap.get? b = some o → H b = none → ∃ sl, h'.get? b = some { o with slots := sl }) (free : ∀ b o, b ∉ ch → s.heap.get? b = some o → H b = none → H' b = none)
    (there : ∀ b o, b ∉ ch → s.heap.get? b = some o → ∃ o', h'.get? b = some o')
    (tups : ∀ b xs, H b = some (.tup xs) → H' b = some (.tup xs)) (frzs : ∀ b o u, H b = some (.frz o u) → H' b = some (.frz o u)) (tbls : ∀ b ps, H b = some (.tbl ps) → ∃ more, H' b = some (.tbl (ps ++ more)))
    (ns : ∀ m, s.heap.Ns X.env.locals m → h'.Ns X.env.locals m) (hok : HOk X.prog X.w H' h') (hg : AllBare g') :
    Inv X pins σ H' { s with heap := h', gens := g', drawn := d', toks := t' } := by
  have neL : ∀ b o, X.s_0.heap.get? b = some o → b ≠ X.env.locals := fun b o e => Nat.ne_of_lt (Nat.lt_of_lt_of_le (Heap.lt_size e) I.ok.above)
  have neC : ∀ b o, X.s_0.heap.get? b = some o → b ∉ X.ex → b ∉ ch := fun b o e hx hb => by
    rcases (hch b hb).1 with z | z
    · exact hx z
    · exact absurd (Nat.lt_of_lt_of_le (Heap.lt_size e) z) (Nat.lt_irrefl _)
  have cellK : ∀ x c, X.env.cells.lookup x = some c → ∀ v, s.heap.IsCell c v → h'.IsCell c v := fun x c e v ⟨o, ho, hd⟩ => by
    have nch : c ∉ ch := fun z => (hch c z).2.2.1 x c e rfl
    by_cases hc : c ∈ X.fs
    · obtain ⟨sl, q⟩ := slot c o (I.cne x c e) hc nch ho (I.freeC x c e)
      exact ⟨_, q, hd⟩
    · exact ⟨o, keep c o (I.cne x c e) hc nch ho (I.freeC x c e), hd⟩
  refine ⟨I.ok, I.os, hg, ⟨fun b o e n hb hx => ?_, fun b o e n hb hx => ?_, fun b o e n hx => ?_, fun b o e hx => ?_, fun b xs e => tups b xs (I.base.tups b xs e), fun b o xs e => frzs b o xs (I.base.frzs b o xs e), fun b ps e => ?_⟩, ?_, fun x c e => ?_, ?_, fun x c e => ?_, fun p hp => ?_, hok, I.len⟩
  · exact keep b o (neL b o e) hb (neC b o e hx) (I.base.keep b o e n hb hx) (I.base.free b o e n hx)
  · obtain ⟨sl, e1⟩ := I.base.slot b o e n hb hx
    obtain ⟨sl', e2⟩ := slot b _ (neL b o e) hb (neC b o e hx) e1 (I.base.free b o e n hx)
    exact ⟨sl', e2⟩
  · obtain ⟨o', e1⟩ := I.base.there b o e hx
    exact free b o' (neC b o e hx) e1 (I.base.free b o e n hx)
  · obtain ⟨o', e1⟩ := I.base.there b o e hx
    exact there b o' (neC b o e hx) e1
  · obtain ⟨m1, e1⟩ := I.base.tbls b ps e
    obtain ⟨m2, e2⟩ := tbls b _ e1
    exact ⟨m1 ++ m2, by rw [e2, Array.append_assoc]⟩
  · obtain ⟨m, hn, hl⟩ := I.loc
    refine ⟨m, ns m hn, fun i x v e1 e2 e3 => ?_⟩
    obtain ⟨u, r, l⟩ := hl i x v e1 e2 e3
    refine ⟨u, r, ?_⟩
    rcases l with l | ⟨k, c, e, z⟩
    · exact .inl l
    · exact .inr ⟨k, c, e, cellK x c e _ z⟩
  · obtain ⟨v, z⟩ := I.cell x c e
    exact ⟨v, cellK x c e v z⟩
  · obtain ⟨m, ⟨o, _, _, ho, _⟩, _⟩ := I.loc
    exact free _ o (fun z => (hch _ z).2.1 rfl) ho I.free
  · obtain ⟨v, o, ho, hd⟩ := I.cell x c e
    exact free c o (fun z => (hch c z).2.2.1 x c e rfl) ho (I.freeC x c e)
  · obtain ⟨e, n, ne, nf, d⟩ := I.pin p hp
    have nch : p.1 ∉ ch := fun z => (hch p.1 z).2.2.2 p hp rfl
    exact ⟨keep p.1 p.2 ne nf nch e n, free p.1 p.2 nch e n, ne, nf, d⟩
/-- .. where the frame's own object is kept too -/
theorem Inv.un {t' : Nat} (I : Inv X pins σ H s) (u : Un X.fs [] H H' s.heap h') (hok : HOk X.prog X.w H' h') : Inv X pins σ H' { s with heap := h', toks := t' } := by
  obtain ⟨m, ⟨o, es, ep, ho, r⟩, _⟩ := id I.loc
  obtain ⟨sl, hL⟩ := u.any ho I.free (by simp)
  exact I.step (g' := s.gens) (d' := s.drawn) (ch := []) (fun _ z => nomatch z) (fun b o _ hb _ e n => u.keep b o e n hb (by simp)) (fun b o _ hb _ e n => u.slot b o e n hb (by simp)) (fun b o _ e n => u.free b o e n (by simp)) (fun b o _ e => u.there b o e (by simp)) u.tups u.frzs u.tbls (fun m' hm => by
    obtain ⟨o', es', ep', ho', r'⟩ := hm
    rw [ho] at ho'; cases ho'
    exact ⟨_, es', ep', hL, r'⟩) hok I.bare
/-- behind a call (or a comprehension's block): the slots of this frame may have changed too, the records at ch may have turned -/
theorem Inv.call {g' : Array GenState} {t' : Nat} {d' : Drawn} {ch : List Addr} (I : Inv X pins σ H s) (u : Un (frs X.stack) ch H H' s.heap h') (hok : HOk X.prog X.w H' h') (hg : AllBare g')
    (hch : ∀ b ∈ ch, (b ∈ X.ex ∨ X.s_0.heap.objs.size ≤ b) ∧ b ≠ X.env.locals ∧ (∀ x c, X.env.cells.lookup x = some c → c ≠ b) ∧ ∀ p ∈ X.pn ++ pins, p.1 ≠ b) :
    Inv X pins σ H' { s with heap := h', gens := g', drawn := d', toks := t' } := by
  obtain ⟨m, ⟨o, es, ep, ho, r⟩, _⟩ := id I.loc
  obtain ⟨sl, hL⟩ := u.any ho I.free fun z => (hch _ z).2.1 rfl
  exact I.step (ch := ch) hch (fun b o hL hb hc e n => u.keep b o e n (fun z => (List.mem_cons.mp (I.stkSub b z)).elim hL hb) hc) (fun b o _ _ hc e n => u.any e n hc) (fun b o hc e n => u.free b o e n hc) (fun b o hc e => u.there b o e hc) u.tups u.frzs u.tbls (fun m' hm => by
    obtain ⟨o', es', ep', ho', r'⟩ := hm
    rw [ho] at ho'; cases ho'
    exact ⟨_, es', ep', hL, r'⟩) hok hg
/-- an untracked record of ours (an iterator) has turned -/
theorem Inv.turned {t' : Nat} {it : Addr} (I : Inv X pins σ H s) (k : ∀ b o, b ≠ it → s.heap.get? b = some o → h'.get? b = some o) (hn : H it = none) (hL : it ≠ X.env.locals)
    (h1 : it ∈ X.ex ∨ X.s_0.heap.objs.size ≤ it) (h2 : ∀ x c, X.env.cells.lookup x = some c → c ≠ it) (h3 : ∀ p ∈ X.pn ++ pins, p.1 ≠ it) : Inv X pins σ H { s with heap := h', toks := t' } := by
  have nit : ∀ b u, H b = some u → b ≠ it := fun b u e z => by rw [z, hn] at e; cases e
  refine I.step (g' := s.gens) (d' := s.drawn) (ch := [it]) (fun b hb => ?_) (fun b o _ _ hc e _ => k b o (fun z => hc (by simp [z])) e) (fun b o _ _ hc e _ => ⟨o.slots, k b o (fun z => hc (by simp [z])) e⟩) (fun _ _ _ _ n => n)
    (fun b o hc e => ⟨o, k b o (fun z => hc (by simp [z])) e⟩) (fun _ _ e => e) (fun _ _ _ e => e) (fun b ps e => ⟨#[], by rw [e]; simp⟩) (fun m hm => ?_) (fun b u e => ?_) I.bare
  · have e : b = it := by simpa using hb
    subst e
    exact ⟨h1, hL, h2, h3⟩
  · obtain ⟨o, es, ep, ho, r⟩ := hm
    exact ⟨o, es, ep, k _ o (Ne.symm hL) ho, r⟩
  · refine (I.hok b u e).stay (fun c v hc q => k c v ?_ q) (fun _ q => q) fun _ _ q => q
    rcases hc with z | z
    · rw [z]; exact nit b u e
    · exact nit c _ z
theorem Inv.tok (I : Inv X pins σ H s) (t : Nat) : Inv X pins σ H { s with toks := t } := I.un (h' := s.heap) (t' := t) Un.refl I.hok
/-- all objects kept -/
theorem Inv.kept {t' : Nat} (I : Inv X pins σ H s) (k : ∀ b u, s.heap.get? b = some u → h'.get? b = some u) : Inv X pins σ H { s with heap := h', toks := t' } := I.un (Un.kept k) (I.hok.kept k)
/-- a new object laid and tracked -/
theorem Inv.laid {a : Addr} {o : HO} {t' : Nat} (I : Inv X pins σ H s) (k : ∀ b u, s.heap.get? b = some u → h'.get? b = some u) (hp : s.heap.objs.size ≤ a) (new : ObjOk X.prog X.w (upd H a o) h' a o) :
    Inv X pins σ (upd H a o) { s with heap := h', toks := t' } := I.un (Un.laid k hp (I.hok.fresh hp)) (I.hok.laid k hp new)
/-- an object written -/
theorem Inv.write {x e : Addr} {o : HO} {t' : Nat} (I : Inv X pins σ H s) (mu : Mut (H x)) (he : e = x ∨ H e = some (.own x)) (k : ∀ b u, b ≠ e → s.heap.get? b = some u → h'.get? b = some u) (heo : ∃ u, h'.get? e = some u)
    (new : ObjOk X.prog X.w (upd H x o) h' x o) : Inv X pins σ (upd H x o) { s with heap := h', toks := t' } := I.un (Un.write mu he k heo) (I.hok.write mu he k heo new)
/-- forgetting slots, pins -/
theorem Inv.weak {σ' : List (Option V)} (I : Inv X pins σ H s) (hl : σ'.length = σ.length) (w : ∀ (i : Nat) v, σ'[i]? = some (some v) → σ[i]? = some (some v)) : Inv X pins σ' H s :=
  ⟨I.ok, I.os, I.bare, I.base, let ⟨m, hn, hl'⟩ := I.loc; ⟨m, hn, fun i x v e1 e2 e3 => hl' i x v e1 (w i v e2) e3⟩, I.cell, I.free, I.freeC, I.pin, I.hok, hl.trans I.len⟩
theorem Inv.pins_of {pins' : List (Addr × Obj)} (I : Inv X pins σ H s) (h : ∀ p ∈ pins', s.heap.get? p.1 = some p.2 ∧ H p.1 = none ∧ p.1 ≠ X.env.locals ∧ p.1 ∉ X.fs ∧ ∀ v, p.2.data ≠ .cell v) : Inv X pins' σ H s :=
  ⟨I.ok, I.os, I.bare, I.base, I.loc, I.cell, I.free, I.freeC, fun p hp => (List.mem_append.mp hp).elim (fun z => I.pin p (List.mem_append_left _ z)) (h p), I.hok, I.len⟩
theorem nodup_ix {N : List Str} (hN : N.Nodup) {i j : Nat} {x : Str} (a : N[i]? = some x) (b : N[j]? = some x) : i = j := by
  obtain ⟨h1, e1⟩ := List.getElem?_eq_some_iff.mp a
  obtain ⟨h2, e2⟩ := List.getElem?_eq_some_iff.mp b
  exact (List.getElem_inj hN).mp (e1.trans e2.symm)
/-- a name is stored; what changed -/
theorem store_ok2 {M : Model} {A : Around} {E : Value → Shared → Prop} {i : Nat} {x : Str} {v : V} {u : Value} {Q : Unit → Shared → Prop} (I : Inv X pins σ H s) (hN : X.N.Nodup) (hi : X.N[i]? = some x) (hx : Loc X.env.scope x) (r : RelV v u)
    (h : ∀ s', Inv X pins (σ.set i (some v)) H s' → (∃ a, Heap.SameBut a s.heap s'.heap ∧ (a = X.env.locals ∨ X.env.cells.lookup x = some a)) → Q () s') (hf : X.fn x = true ∨ X.env.scope.names.lookup x = some .local := by first | exact .inl rfl | exact .inr rfl | assumption) : wpAny M A (storeName X.env x u) Q E s := by
  obtain ⟨m, hn, hl⟩ := id I.loc
  have hcls : (X.env.scope.kind == .class || (X.env.scope.kind == .module && X.env.locals != X.env.globals)) = false := by rw [I.ok.kind]; rfl
  have hiσ : i < σ.length := by rw [I.len]; exact (List.getElem?_eq_some_iff.mp hi).1
  have cne := I.cne
  have tracked : ∀ {a : Addr} {h' : Heap}, (∃ o, s.heap.get? a = some o ∧ H a = none) → Heap.SameBut a s.heap h' → HOk X.prog X.w H h' := fun {a h'} ha hs b ob e => by
    obtain ⟨_, _, hfree⟩ := ha
    refine (I.hok b ob e).stay (fun c w' hc q => (hs.2 c ?_).trans q) (fun _ q => q) fun _ _ q => q
    rintro rfl
    rcases hc with rfl | hc
    · rw [hfree] at e; cases e
    · rw [hfree] at hc; cases hc
  rcases hx with hk | hk
  · refine wpAny_storeName_local hk hn (fun h' hn' hs => ?_) hcls
    obtain ⟨oL, _, _, hoL, _⟩ := id hn
    refine h _ ⟨I.ok, I.os, I.bare, ⟨fun b o e n hb hx => ?_, fun b o e n hb hx => ?_, I.base.free, fun b o e hx => ?_, I.base.tups, I.base.frzs, I.base.tbls⟩, ⟨_, hn', fun j y v' e1 e2 e3 => ?_⟩, fun y c e => ?_, I.free, I.freeC, fun p hp => ?_, tracked ⟨oL, hoL, I.free⟩ hs, by simpa using I.len⟩ ⟨_, hs, .inl rfl⟩
    · exact (hs.2 b (Nat.ne_of_lt (Nat.lt_of_lt_of_le (Heap.lt_size e) I.ok.above))).trans (I.base.keep b o e n hb hx)
    · obtain ⟨sl, e1⟩ := I.base.slot b o e n hb hx
      exact ⟨sl, (hs.2 b (Nat.ne_of_lt (Nat.lt_of_lt_of_le (Heap.lt_size e) I.ok.above))).trans e1⟩
    · obtain ⟨o', e1⟩ := I.base.there b o e hx
      exact ⟨o', (hs.2 b (Nat.ne_of_lt (Nat.lt_of_lt_of_le (Heap.lt_size e) I.ok.above))).trans e1⟩
    · by_cases hj : j = i
      · subst hj
        rw [hi] at e1; cases e1
        rw [List.getElem?_set_self hiσ] at e2
        cases e2
        exact ⟨u, r, .inl ⟨hk, by simp⟩⟩
      · rw [List.getElem?_set_ne (Ne.symm hj)] at e2
        obtain ⟨u', r', q⟩ := hl j y v' e1 e2 e3
        refine ⟨u', r', ?_⟩
        rcases q with ⟨k, e⟩ | ⟨k, c, e, z⟩
        · refine .inl ⟨k, ?_⟩
          have : y ≠ x := fun e => hj (nodup_ix hN e1 (e ▸ hi))
          simp [this, e]
        · exact .inr ⟨k, c, e, z.sameBut hs (cne y c e)⟩
    · obtain ⟨w', z⟩ := I.cell y c e
      exact ⟨w', z.sameBut hs (cne y c e)⟩
    · obtain ⟨e, n, ne, nf, d⟩ := I.pin p hp
      exact ⟨(hs.2 p.1 ne).trans e, n, ne, nf, d⟩
  · have hfn : X.fn x = true := by
      rcases hf with z | z
      · exact z
      · rw [z] at hk; cases hk
    obtain ⟨c, hc⟩ := I.ok.has x (.inl hk)
    obtain ⟨w', z⟩ := I.cell x c hc
    refine wpAny_storeName_cell I.ok.kind hk hc z (fun h' hc' hs => ?_)
    obtain ⟨oc, hoc, hocd⟩ := id z
    refine h { s with heap := h' } ⟨I.ok, I.os, I.bare, ⟨fun b o e n hb hx => ?_, fun b o e n hb hx => ?_, I.base.free, fun b o e hx => ?_, I.base.tups, I.base.frzs, I.base.tbls⟩, ⟨m, hn.sameBut hs (Ne.symm (cne x c hc)), fun j y v' e1 e2 e3 => ?_⟩, fun y c' e => ?_, I.free, I.freeC, fun p hp => ?_, tracked ⟨oc, hoc, I.freeC x c hc⟩ hs, by simpa using I.len⟩ ⟨c, hs, .inr hc⟩
    · exact (hs.2 b (Nat.ne_of_lt (Nat.lt_of_lt_of_le (Heap.lt_size e) (I.ok.cab x c hfn hc)))).trans (I.base.keep b o e n hb hx)
    · obtain ⟨sl, e1⟩ := I.base.slot b o e n hb hx
      exact ⟨sl, (hs.2 b (Nat.ne_of_lt (Nat.lt_of_lt_of_le (Heap.lt_size e) (I.ok.cab x c hfn hc)))).trans e1⟩
    · obtain ⟨o', e1⟩ := I.base.there b o e hx
      exact ⟨o', (hs.2 b (Nat.ne_of_lt (Nat.lt_of_lt_of_le (Heap.lt_size e) (I.ok.cab x c hfn hc)))).trans e1⟩
    · by_cases hj : j = i
      · subst hj
        rw [hi] at e1; cases e1
        rw [List.getElem?_set_self hiσ] at e2
        cases e2
        exact ⟨u, r, .inr ⟨.inl hk, c, hc, hc'⟩⟩
      · rw [List.getElem?_set_ne (Ne.symm hj)] at e2
        obtain ⟨u', r', q⟩ := hl j y v' e1 e2 e3
        refine ⟨u', r', ?_⟩
        rcases q with q | ⟨k, c', e, z'⟩
        · exact .inl q
        · refine .inr ⟨k, c', e, z'.sameBut hs ?_⟩
          rintro rfl
          exact hj (nodup_ix hN e1 (I.ok.inj _ _ _ e hc ▸ hi))
    · by_cases hcc : c' = c
      · subst hcc; exact ⟨_, hc'⟩
      · obtain ⟨w2, z2⟩ := I.cell y c' e
        exact ⟨w2, z2.sameBut hs hcc⟩
    · obtain ⟨e, n, ne, nf, d⟩ := I.pin p hp
      refine ⟨(hs.2 p.1 ?_).trans e, n, ne, nf, d⟩
      intro q
      rw [q, hoc] at e
      have q' : oc = p.2 := Option.some.inj e
      exact d w' (by rw [← q']; exact hocd)
theorem store_ok {M : Model} {A : Around} {E : Value → Shared → Prop} {i : Nat} {x : Str} {v : V} {u : Value} {Q : Unit → Shared → Prop} (I : Inv X pins σ H s) (hN : X.N.Nodup) (hi : X.N[i]? = some x) (hx : Loc X.env.scope x) (r : RelV v u)
    (h : ∀ s', Inv X pins (σ.set i (some v)) H s' → Q () s') (hf : X.fn x = true ∨ X.env.scope.names.lookup x = some .local := by first | exact .inl rfl | exact .inr rfl | assumption) : wpAny M A (storeName X.env x u) Q E s :=
  store_ok2 I hN hi hx r (fun s' I' _ => h s' I') hf
/-- behind a call or a block, the state as it is -/
theorem Inv.call' {s' : Shared} {ch : List Addr} (I : Inv X pins σ H s) (ho : s'.os = s.os) (u : Un (frs X.stack) ch H H' s.heap s'.heap) (hok : HOk X.prog X.w H' s'.heap) (hg : AllBare s'.gens)
    (hch : ∀ b ∈ ch, (b ∈ X.ex ∨ X.s_0.heap.objs.size ≤ b) ∧ b ≠ X.env.locals ∧ (∀ x c, X.env.cells.lookup x = some c → c ≠ b) ∧ ∀ p ∈ X.pn ++ pins, p.1 ≠ b) : Inv X pins σ H' s' := by
  obtain ⟨h', g', d', t', o'⟩ := s'
  have e : o' = s.os := ho
  subst e
  exact I.call (g' := g') (t' := t') (d' := d') u hok hg hch
end
/-- an exception: its class, its own dict's address (where it has one), the abstract heap behind it -/
abbrev XK := Value → Option Addr → Hp → Prop
abbrev St := List (Option V)
abbrev VK := V → Hp → Prop
/-- an expression's reading; a test's; an argument list's -/
abbrev TE := St → Hp → VK → Prop
abbrev TT := St → Hp → (Bool → Hp → Prop) → Prop
abbrev TA := St → Hp → (List V → Hp → Prop) → Prop
/-- what is wanted behind a statement -/
structure Ends where
  nx : St → Hp → Prop
  rt : VK
  bk : St → Hp → Prop := fun _ _ => False
  ct : St → Hp → Prop := fun _ _ => False
abbrev TS := Ends → St → Hp → Prop
def EP (X : Cx) (pins : List (Addr × Obj)) (σ : St) (Q : VK) (u : Value) (s' : Shared) : Prop := ∃ v H', Inv X pins σ H' s' ∧ RelV v u ∧ Q v H'
def TP (X : Cx) (pins : List (Addr × Obj)) (σ : St) (Q : Bool → Hp → Prop) (b : Bool) (s' : Shared) : Prop := ∃ H', Inv X pins σ H' s' ∧ Q b H'
def AP (X : Cx) (pins : List (Addr × Obj)) (σ : St) (Q : List V → Hp → Prop) (us : List Value) (s' : Shared) : Prop := ∃ vs H', Inv X pins σ H' s' ∧ Vals vs us ∧ Q vs H'
def SP (X : Cx) (pins : List (Addr × Obj)) (D : Ends) (f : Flow) (s' : Shared) : Prop :=
  match f with
  | .next => ∃ σ' H', Inv X pins σ' H' s' ∧ D.nx σ' H'
  | .brk => ∃ σ' H', Inv X pins σ' H' s' ∧ D.bk σ' H'
  | .cont => ∃ σ' H', Inv X pins σ' H' s' ∧ D.ct σ' H'
  | .ret u => ∃ v σ' H', Inv X pins σ' H' s' ∧ RelV v u ∧ D.rt v H'
def PE (X : Cx) (e : Expr) (t : TE) : Prop :=
  ∀ (pins : List (Addr × Obj)) (s : Shared) (σ : St) (H : Hp) (Q : VK), Inv X pins σ H s → t σ H Q → wpAny (model X.prog X.w) X.A (eval e X.env) (EP X pins σ Q) X.xe s
def PT (X : Cx) (e : Expr) (t : TT) : Prop :=
  ∀ (pins : List (Addr × Obj)) (s : Shared) (σ : St) (H : Hp) (Q : Bool → Hp → Prop), Inv X pins σ H s → t σ H Q → wpAny (model X.prog X.w) X.A (isTrue e X.env (eval e X.env)) (TP X pins σ Q) X.xe s
/-- a test whatever its 'whole' is (and, or) -/
def PW (X : Cx) (e : Expr) (t : TT) : Prop :=
  ∀ (whole : Sem Value) (pins : List (Addr × Obj)) (s : Shared) (σ : St) (H : Hp) (Q : Bool → Hp → Prop), Inv X pins σ H s → t σ H Q → wpAny (model X.prog X.w) X.A (isTrue e X.env whole) (TP X pins σ Q) X.xe s
theorem PW.pt {X : Cx} {e : Expr} {t : TT} (h : PW X e t) : PT X e t := h _
/-- an argument list (no star), from the left -/
def PA (X : Cx) (es : List Expr) (t : TA) : Prop :=
  ∀ (pos : Pos) (pins : List (Addr × Obj)) (s : Shared) (σ : St) (H : Hp) (Q : List V → Hp → Prop), Inv X pins σ H s → t σ H Q → wpAny (model X.prog X.w) X.A (spliced (backTo pos (starEach es X.env))) (AP X pins σ Q) X.xe s
def PS (X : Cx) (st : Stmt) (t : TS) : Prop :=
  ∀ (pins : List (Addr × Obj)) (s : Shared) (σ : St) (H : Hp) (D : Ends), Inv X pins σ H s → t D σ H → wpAny (model X.prog X.w) X.A (exec st X.env) (SP X pins D) X.xe s
def PSs (X : Cx) (st : List Stmt) (t : TS) : Prop :=
  ∀ (pins : List (Addr × Obj)) (s : Shared) (σ : St) (H : Hp) (D : Ends), Inv X pins σ H s → t D σ H → wpAny (model X.prog X.w) X.A (execs st X.env) (SP X pins D) X.xe s
/-- weaken the end -/
theorem thn {α : Type} {t : Sem α} {Q Q' : α → Shared → Prop} {M : Model} {A : Around} {E : Value → Shared → Prop} {s : Shared} (h : wpAny M A t Q E s) (hQ : ∀ a s, Q a s → Q' a s) : wpAny M A t Q' E s := wpAny_mono h hQ fun _ _ x => x
end L2
namespace L2
open PySem PySem.Spec PyProof.Rows
section
variable {X : Cx}
/-- two expressions in a row -/
theorem bin {a b : Expr} {ta tb : TE} (ha : PE X a ta) (hb : PE X b tb) {pins : List (Addr × Obj)} {s : Shared} {σ : St} {H : Hp} {R : V → V → Hp → Prop} (I : Inv X pins σ H s) (h : ta σ H fun x H1 => tb σ H1 fun y H2 => R x y H2)
    {α : Type} {Q : α → Shared → Prop} {f : Value → Value → Sem α}
    (hf : ∀ v u s2 x y H2, Inv X pins σ H2 s2 → RelV x v → RelV y u → R x y H2 → wpAny (model X.prog X.w) X.A (f v u) Q X.xe s2) :
    wpAny (model X.prog X.w) X.A (eval a X.env) (fun v s₁ => wpAny (model X.prog X.w) X.A (eval b X.env) (fun u s₂ => wpAny (model X.prog X.w) X.A (f v u) Q X.xe s₂) X.xe s₁) X.xe s := by
  refine thn (ha pins s σ H _ I h) fun v s1 ⟨x, H1, I1, r1, q1⟩ => ?_
  refine thn (hb pins s1 σ H1 _ I1 q1) fun u s2 ⟨y, H2, I2, r2, q2⟩ => ?_
  exact hf v u s2 x y H2 I2 r1 r2 q2
def tVar (i : Nat) : TE := fun σ H Q => ∃ v, σ[i]? = some (some v) ∧ Q v H
def tC (v : V) : TE := fun _ H Q => Q v H
theorem pe_var {i : Nat} {x : Str} {pos : Pos} (hN : X.N[i]? = some x) (hv : Vis X.env.scope x) (hd : (x == ("__debug__" : Str)) = false := by decide) (hcd : (x == ("__classdict__" : Str)) = false := by decide) : PE X (.Name x pos) (tVar i) := by
  intro pins s σ H Q I h
  obtain ⟨v, e, h⟩ := h
  obtain ⟨m, hn, hl⟩ := I.loc
  obtain ⟨u, r, l⟩ := hl i x v hN e hv
  have fin : EP X pins σ Q u s := ⟨v, H, I, r, h⟩
  rcases l with ⟨hk, hm⟩ | ⟨hk, c, hc, hcell⟩
  · exact wpAny_Name (wpAny_loadName_local I.ok.kind hk hn hm fin) hd
  · rcases hk with hk | hk
    · exact wpAny_Name (wpAny_loadName_cell I.ok.kind hk hc hcell fin) hd
    · exact wpAny_Name (wpAny_loadName_free I.ok.kind hk hc hcell fin hcd) hd
theorem pe_int {i j pos} : PE X (.Constant (.int i) j pos) (tC (.int i)) := fun _ _ _ H _ I h => wpAny_Constant_int ⟨.int i, H, I.tok _, ⟨_, rfl⟩, h⟩
/-- a global name of the def -/
def Gl (X : Cx) (x : Str) : Prop := X.env.kindOf x = some .globalImplicit
theorem ld_glob {E : Value → Shared → Prop} {pins : List (Addr × Obj)} {s : Shared} {σ : St} {H : Hp} {x : Str} {u : Value} {pos : Pos} {Q : Value → Shared → Prop} (I : Inv X pins σ H s) (hg : Gl X x) (hm : X.mg x = some u) (h : Q u s)
    (hd : (x == ("__debug__" : Str)) = false := by decide) : wpAny (model X.prog X.w) X.A (eval (.Name x pos) X.env) Q E s :=
  Calls.Name_function_global I.ok.kind hg (Calls.loadGlobal_global (by rw [I.ok.glob]; exact I.mod.glob.keeps I.bk) hm h) hd
theorem ld_blt {E : Value → Shared → Prop} {pins : List (Addr × Obj)} {s : Shared} {σ : St} {H : Hp} {x : Str} {u : Value} {pos : Pos} {Q : Value → Shared → Prop} (I : Inv X pins σ H s) (hg : Gl X x) (hm : X.mg x = none) (hv : bootBuiltins x = some u) (h : Q u s)
    (hn : x ≠ "__name__" := by decide) (hd : (x == ("__debug__" : Str)) = false := by decide) : wpAny (model X.prog X.w) X.A (eval (.Name x pos) X.env) Q E s := by
  obtain ⟨mb, h1, h2⟩ := I.mod.blt
  exact Calls.Name_function_global I.ok.kind hg (Calls.loadGlobal_builtin (by rw [I.ok.glob]; exact I.mod.glob.keeps I.bk) hm (by rw [I.ok.blt]; exact h1.keeps I.bk) ((h2 x hn).trans hv) h) hd
/-- a module's constant, a class, a function, as a value -/
theorem pe_glob {x : Str} {v : V} {u : Value} {pos : Pos} (hg : Gl X x) (hm : X.mg x = some u) (r : RelV v u) (hd : (x == ("__debug__" : Str)) = false := by decide) : PE X (.Name x pos) (tC v) :=
  fun _ _ _ H _ I h => ld_glob I hg hm ⟨v, H, I, r, h⟩ hd
variable {a b : Expr} {ta tb : TE} {pos : Pos}
def PC (X : Cx) (op : CmpOp) (a b : Expr) (t : TE) : Prop :=
  ∀ (pins : List (Addr × Obj)) (s : Shared) (σ : St) (H : Hp) (Q : VK), Inv X pins σ H s → t σ H Q →
    wpAny (model X.prog X.w) X.A (eval a X.env) (fun v s₁ => wpAny (model X.prog X.w) X.A (eval b X.env) (fun u s₂ => wpAny (model X.prog X.w) X.A (compareOp op v u) (EP X pins σ Q) X.xe s₂) X.xe s₁) X.xe s
theorem nobehind (b : Expr) {op : CmpOp} (h : op ≠ .In) (h2 : op ≠ .NotIn) : behindInMarks op b = false := by
  have e1 : (op == CmpOp.In) = false := by cases op <;> first | rfl | exact absurd rfl h
  have e2 : (op == CmpOp.NotIn) = false := by cases op <;> first | rfl | exact absurd rfl h2
  cases b <;> simp [behindInMarks, e1, e2]
/-- is None -/
def tIsN (ta : TE) : TE := fun σ H Q => ta σ H fun x H1 => Q (.bl (decide (x = .non))) H1
theorem RelV.none_iff {x : V} {v : Value} (r : RelV x v) : (v == Value.none) = decide (x = .non) := by
  cases x with
  | non => cases r; rfl
  | bl _ => cases r; rfl
  | int _ => obtain ⟨t, rfl⟩ := r; rfl
  | str _ => obtain ⟨t, rfl⟩ := r; rfl
  | byt _ => obtain ⟨t, rfl⟩ := r; rfl
  | flt _ => obtain ⟨t, rfl⟩ := r; rfl
  | ref _ => cases r; rfl
  | ty _ => cases r; rfl
theorem pc_isN {j pos'} (ha : PE X a ta) : PC X .Is a (.Constant .none j pos') (tIsN ta) := by
  intro pins s σ H Q I h
  refine thn (ha pins s σ H _ I h) fun v s1 ⟨x, H1, I1, r1, q1⟩ => ?_
  exact Constant_none (is_none_gen ⟨.bl _, H1, I1, by rw [r1.none_iff]; rfl, q1⟩)
/-- a comparison as a value, as a test -/
def tB (t : TE) : TT := fun σ H Q => t σ H fun x H1 => ∃ c, x = .bl c ∧ Q c H1
theorem pt_cmp {op : CmpOp} {t : TE} (h : PC X op a b t) (h1 : behindInMarks op b = false := by first | exact nobehind _ (by decide) (by decide) | rfl) : PT X (.Compare a [op] [b] pos) (tB t) := by
  intro pins s σ H Q I hw
  refine wpAny_isTrue_Compare1 (thn (h pins s σ H _ I hw) fun v s1 h1 => thn h1 fun u s2 h2 => thn h2 fun c s3 ⟨x, H1, I1, r1, q1⟩ => ?_) h1
  obtain ⟨d, rfl, q⟩ := q1
  cases r1
  exact wpAny_truthy_bool ⟨H1, I1, q⟩
/-- an expression whose value is a bool, as a test -/
theorem pt_val {e : Expr} {t : TE} (h : PE X e t) (he : ∀ whole, isTrue e X.env whole = (do let v ← whole; standAt e.pos; holding [v] (truthy v)) := by intro _; rfl) : PT X e (tB t) := by
  intro pins s σ H Q I hw
  refine isTrue_plain (thn (h pins s σ H _ I hw) fun v s1 ⟨x, H1, I1, r1, q1⟩ => ?_) (he _)
  obtain ⟨d, rfl, q⟩ := q1
  cases r1
  exact wpAny_truthy_bool ⟨H1, I1, q⟩
variable {tA tB' : TT} {rest : List Expr}
def tAnd (t u : TT) : TT := fun σ H Q => t σ H fun c H1 => if c = true then u σ H1 Q else Q false H1
def tOr (t u : TT) : TT := fun σ H Q => t σ H fun c H1 => if c = true then Q true H1 else u σ H1 Q
def tNot (t : TT) : TT := fun σ H Q => t σ H fun c H1 => Q (!c) H1
theorem pw_and1 (ha : PT X a tA) : PW X (.BoolOp .And [a] pos) tA := by
  intro wh pins s σ H Q I h
  refine isTrue_and (thn (ha pins s σ H Q I h) fun c s1 e => ?_)
  cases c with
  | true => exact isTrue_and_nil e
  | false => exact e
theorem pw_or1 (ha : PT X a tA) : PW X (.BoolOp .Or [a] pos) tA := by
  intro wh pins s σ H Q I h
  refine isTrue_or (thn (ha pins s σ H Q I h) fun c s1 e => ?_)
  cases c with
  | false => exact isTrue_or_nil e
  | true => exact e
theorem pw_and (ha : PT X a tA) (hb : PW X (.BoolOp .And (b :: rest) pos) tB') : PW X (.BoolOp .And (a :: b :: rest) pos) (tAnd tA tB') := by
  intro wh pins s σ H Q I h
  refine isTrue_and (thn (ha pins s σ H _ I h) fun c s1 ⟨H1, I1, q1⟩ => ?_)
  cases c with
  | true => exact hb wh pins s1 σ H1 Q I1 q1
  | false => exact ⟨H1, I1, q1⟩
theorem pw_or (ha : PT X a tA) (hb : PW X (.BoolOp .Or (b :: rest) pos) tB') : PW X (.BoolOp .Or (a :: b :: rest) pos) (tOr tA tB') := by
  intro wh pins s σ H Q I h
  refine isTrue_or (thn (ha pins s σ H _ I h) fun c s1 ⟨H1, I1, q1⟩ => ?_)
  cases c with
  | true => exact ⟨H1, I1, q1⟩
  | false => exact hb wh pins s1 σ H1 Q I1 q1
theorem pt_not (ha : PT X a tA) : PT X (.UnaryOp .Not a pos) (tNot tA) := by
  intro pins s σ H Q I h
  exact isTrue_not (ha pins s σ H (fun c H1 => Q (!c) H1) I h)
/-- .. as values (bools) -/
def tAndV (ta tb : TE) : TE := fun σ H Q => ta σ H fun x H1 => ∃ c, x = .bl c ∧ if c = true then tb σ H1 Q else Q (.bl false) H1
theorem pe_one {op} {t : TE} (h : PE X a t) : PE X (.BoolOp op [a] pos) t := fun pins s σ H Q I hw => BoolOp_one (h pins s σ H Q I hw)
theorem pe_and (ha : PE X a ta) (hb : PE X (.BoolOp .And (b :: rest) pos) tb) : PE X (.BoolOp .And (a :: b :: rest) pos) (tAndV ta tb) := by
  intro pins s σ H Q I h
  refine BoolOp_and (thn (ha pins s σ H _ I h) fun v s1 ⟨x, H1, I1, r1, q1⟩ => ?_)
  obtain ⟨c, rfl, q1⟩ := q1
  cases r1
  refine wpAny_truthy_bool ?_
  cases c with
  | true => exact hb pins s1 σ H1 Q I1 q1
  | false => exact ⟨.bl false, H1, I1, rfl, q1⟩
/-- a if t else b -/
def tIf (t : TT) (ta tb : TE) : TE := fun σ H Q => t σ H fun c H1 => if c = true then ta σ H1 Q else tb σ H1 Q
theorem pe_ifExp {c : Expr} (hc : PT X c tA) (ha : PE X a ta) (hb : PE X b tb) : PE X (.IfExp c a b pos) (tIf tA ta tb) := by
  intro pins s σ H Q I h
  refine wpAny_IfExp (thn (hc pins s σ H _ I h) fun d s1 ⟨H1, I1, q1⟩ => ?_)
  cases d with
  | true => exact ha pins s1 σ H1 Q I1 q1
  | false => exact hb pins s1 σ H1 Q I1 q1
end
end L2
namespace L2
open PySem PySem.Spec PyProof.Rows
def SqL (K : PySem.W.Frag) (H : Hp) (a : Addr) (xs : List V) : Prop :=
  Rd H a (.lst xs) ∨
    ∃ (o : Obj) (its : Array Value) (n : Nat), K.lookup a = some o ∧ o.cls = .type "list" ∧ o.dict = none ∧ o.data = .seq its n ∧ its.size ≤ sizeLine ∧ Vals xs its.toList
def SqT (K : PySem.W.Frag) (H : Hp) (a : Addr) (xs : List V) : Prop :=
  Rd H a (.tup xs) ∨
    ∃ (o : Obj) (its : Array Value) (n : Nat), K.lookup a = some o ∧ o.cls = .type "tuple" ∧ o.data = .seq its n ∧ its.size ≤ sizeLine ∧ Vals xs its.toList
def absV : Value → Option V
  | .none => some .non
  | .bool b => some (.bl b)
  | .int i _ => some (.int i)
  | .str x _ => some (.str x)
  | .bytes b _ => some (.byt b)
  | .float b _ => some (.flt b)
  | .ref a => some (.ref a)
  | .type n => some (.ty n)
  | _ => none
theorem RelV.abs {x : V} {u : Value} (r : RelV x u) : absV u = some x := by
  cases x with
  | non => cases r; rfl
  | bl _ => cases r; rfl
  | int _ => obtain ⟨t, rfl⟩ := r; rfl
  | str _ => obtain ⟨t, rfl⟩ := r; rfl
  | byt _ => obtain ⟨t, rfl⟩ := r; rfl
  | flt _ => obtain ⟨t, rfl⟩ := r; rfl
  | ref _ => cases r; rfl
  | ty _ => cases r; rfl
theorem RelV.inj {x y : V} {u : Value} (r : RelV x u) (q : RelV y u) : x = y := Option.some.inj (r.abs.symm.trans q.abs)
theorem Vals.inj : ∀ {xs ys : List V} {us : List Value}, Vals xs us → Vals ys us → xs = ys
  | _, _, _, .nil, .nil => rfl
  | _, _, _, .cons r t, .cons r' t' => by rw [r.inj r', Vals.inj t t']
section
variable {X : Cx} {pins : List (Addr × Obj)} {σ : St} {H : Hp} {s : Shared} {a : Addr} {xs ys : List V}
theorem SqL.of {K : PySem.W.Frag} (h : H a = some (.lst xs)) : SqL K H a xs := .inl (.inl h)
theorem SqT.of {K : PySem.W.Frag} (h : H a = some (.tup xs)) : SqT K H a xs := .inl (.inl h)
theorem Inv.list (I : Inv X pins σ H s) (h : SqL X.K H a xs) : ∃ its : List Value, Vals xs its ∧ PlainL s.heap a its.toArray ∧ xs.length ≤ sizeLine := by
  rcases h with h | ⟨o, its, n, hk, hc, hd, hs, hz, r⟩
  · obtain ⟨z, its, n, r, e⟩ := h.ok I.hok
    exact ⟨its, r, ⟨_, n, e, rfl, rfl, rfl⟩, z⟩
  · refine ⟨its.toList, r, ⟨o, n, I.kIn a o hk, hc, hd, by simpa using hs⟩, ?_⟩
    have e := r.length
    simp only [Array.length_toList] at e
    omega
theorem Inv.tuple (I : Inv X pins σ H s) (h : SqT X.K H a xs) : ∃ its : List Value, Vals xs its ∧ IsTup s.heap a its.toArray ∧ xs.length ≤ sizeLine := by
  rcases h with h | ⟨o, its, n, hk, hc, hs, hz, r⟩
  · obtain ⟨z, its, r, p⟩ := h.ok I.hok
    exact ⟨its, r, p, z⟩
  · refine ⟨its.toList, r, ⟨o, I.kIn a o hk, hc, n, by simpa using hs⟩, ?_⟩
    have e := r.length
    simp only [Array.length_toList] at e
    omega
theorem Inv.list_inj (I : Inv X pins σ H s) (h : SqL X.K H a xs) (h' : SqL X.K H a ys) : xs = ys := by
  obtain ⟨its, r, ⟨o, n, e, _, _, d⟩, _⟩ := I.list h
  obtain ⟨its', r', ⟨o', n', e', _, _, d'⟩, _⟩ := I.list h'
  rw [e] at e'; cases e'
  rw [d] at d'
  injection d' with d1 _
  have : its = its' := by simpa using congrArg Array.toList d1
  subst this
  exact r.inj r'
theorem Inv.tuple_inj (I : Inv X pins σ H s) (h : SqT X.K H a xs) (h' : SqT X.K H a ys) : xs = ys := by
  obtain ⟨its, r, ⟨o, e, _, n, d⟩, _⟩ := I.tuple h
  obtain ⟨its', r', ⟨o', e', _, n', d'⟩, _⟩ := I.tuple h'
  rw [e] at e'; cases e'
  rw [d] at d'
  injection d' with d1 _
  have : its = its' := by simpa using congrArg Array.toList d1
  subst this
  exact r.inj r'
end
abbrev Cx.wish (X : Cx) (E : Value → Shared → Prop) : Cx := { X with xe := E }
/-- no exception leaves -/
abbrev Cx.nox (X : Cx) : Cx := X.wish fun _ _ => False
theorem Cx.Ok.wish {X : Cx} (ok : X.Ok) (E : Value → Shared → Prop) : (X.wish E).Ok :=
  ⟨ok.mod, ok.kind, ok.glob, ok.blt, ok.above, ok.inj, ok.has, ok.cab, ok.hd, ok.frames, ok.stk, ok.exf, ok.bs, ok.bsz, ok.noex, ok.exfs, ok.funs, ok.frf⟩
theorem Cx.Ok.unwish {X : Cx} {E : Value → Shared → Prop} (ok : (X.wish E).Ok) : X.Ok :=
  ⟨ok.mod, ok.kind, ok.glob, ok.blt, ok.above, ok.inj, ok.has, ok.cab, ok.hd, ok.frames, ok.stk, ok.exf, ok.bs, ok.bsz, ok.noex, ok.exfs, ok.funs, ok.frf⟩
section
variable {X : Cx} {pins : List (Addr × Obj)} {σ : St} {H : Hp} {s : Shared} {E : Value → Shared → Prop}
theorem Inv.wish (I : Inv X pins σ H s) (E : Value → Shared → Prop) : Inv (X.wish E) pins σ H s := ⟨I.ok.wish E, I.os, I.bare, I.base, I.loc, I.cell, I.free, I.freeC, I.pin, I.hok, I.len⟩
theorem Inv.unwish (I : Inv (X.wish E) pins σ H s) : Inv X pins σ H s := ⟨I.ok.unwish, I.os, I.bare, I.base, I.loc, I.cell, I.free, I.freeC, I.pin, I.hok, I.len⟩
theorem SP.unwish {D : Ends} {f : Flow} {s' : Shared} (h : SP (X.wish E) pins D f s') : SP X pins D f s' := by
  cases f with
  | next => obtain ⟨σ', H', I, q⟩ := h; exact ⟨σ', H', I.unwish, q⟩
  | brk => obtain ⟨σ', H', I, q⟩ := h; exact ⟨σ', H', I.unwish, q⟩
  | cont => obtain ⟨σ', H', I, q⟩ := h; exact ⟨σ', H', I.unwish, q⟩
  | ret u => obtain ⟨v, σ', H', I, r, q⟩ := h; exact ⟨v, σ', H', I.unwish, r, q⟩
theorem PE.nox {e : Expr} {t : TE} (h : PE X.nox e t) : PE X e t := fun pins s σ H Q I hw =>
  wpAny_mono (h pins s σ H Q (I.wish _) hw) (fun _ _ ⟨v, H', I', r, q⟩ => ⟨v, H', I'.unwish, r, q⟩) fun _ _ z => False.elim z
theorem PSs.nox {st : List Stmt} {t : TS} (h : PSs X.nox st t) : PSs X st t := fun pins s σ H D I hw =>
  wpAny_mono (h pins s σ H D (I.wish _) hw) (fun _ _ q => q.unwish) fun _ _ z => False.elim z
end
section
variable {X : Cx} {st : Stmt} {rest : List Stmt} {t u : TS} {e : Expr} {te : TE} {pos : Pos}
def tNext : TS := fun D σ H => D.nx σ H
def tSeq (t u : TS) : TS := fun D σ H => t { D with nx := u D } σ H
theorem pss_nil : PSs X [] tNext := fun _ _ σ H _ I h => wpAny_execs_nil ⟨σ, H, I, h⟩
theorem pss_cons (h1 : PS X st t) (h2 : PSs X rest u) : PSs X (st :: rest) (tSeq t u) := by
  intro pins s σ H D I h
  refine wpAny_execs_cons (thn (h1 pins s σ H { D with nx := u D } I h) fun f s1 q => ?_)
  cases f with
  | next =>
    obtain ⟨σ', H', I', q⟩ := q
    exact h2 pins s1 σ' H' D I' q
  | ret v => exact q
  | brk => exact q
  | cont => exact q
theorem pss_one (h1 : PS X st t) : PSs X [st] t := by
  intro pins s σ H D I h
  refine wpAny_execs_cons (thn (h1 pins s σ H D I h) fun f s1 q => ?_)
  cases f with
  | next => exact wpAny_execs_nil q
  | ret v => exact q
  | brk => exact q
  | cont => exact q
/-- in a def's body nothing is shown -/
theorem Inv.quiet {pins : List (Addr × Obj)} {σ : St} {H : Hp} {s : Shared} (I : Inv X pins σ H s) : interactive X.env = false := by simp [interactive, I.ok.kind]
/-- an expression whose value is dropped -/
def tDrop (te : TE) : TS := fun D σ H => te σ H fun _ H1 => D.nx σ H1
theorem ps_expr (he : PE X e te) (hs : swapsWith e none pos.line X.env = pure false := by rfl) : PS X (.Expr e pos) (tDrop te) := by
  intro pins s σ H D I h
  exact wpAny_Expr_any (thn (he pins s σ H _ I h) fun v s1 ⟨x, H1, I1, r1, q1⟩ => ⟨σ, H1, I1, q1⟩) I.quiet hs
def tRet (te : TE) : TS := fun D σ H => te σ H D.rt
theorem ps_ret (he : PE X e te) : PS X (.Return (some e) pos) (tRet te) := by
  intro pins s σ H D I h
  exact wpAny_Return_some (thn (he pins s σ H _ I h) fun v s1 ⟨x, H1, I1, r1, q1⟩ => ⟨x, σ, H1, I1, r1, q1⟩)
def tIfS (c : TT) (t u : TS) : TS := fun D σ H => c σ H fun b H1 => if b = true then t D σ H1 else u D σ H1
theorem ps_if {c : Expr} {a b : List Stmt} {tc : TT} (hc : PT X c tc) (ha : PSs X a t) (hb : PSs X b u) : PS X (.If c a b pos) (tIfS tc t u) := by
  intro pins s σ H D I h
  refine wpAny_If (thn (hc pins s σ H _ I h) fun d s1 ⟨H1, I1, q1⟩ => ?_)
  cases d with
  | true => exact ha pins s1 σ H1 D I1 q1
  | false => exact hb pins s1 σ H1 D I1 q1
end
abbrev TG := V → St → Hp → (St → Hp → Prop) → Prop
abbrev TGs := List V → St → Hp → (St → Hp → Prop) → Prop
def PG (X : Cx) (target : Expr) (t : TG) : Prop :=
  ∀ (pins : List (Addr × Obj)) (s : Shared) (σ : St) (H : Hp) (v : V) (u : Value) (Q : St → Hp → Prop), Inv X pins σ H s → RelV v u → t v σ H Q →
    wpAny (model X.prog X.w) X.A (assign target X.env u) (fun _ s' => ∃ σ' H', Inv X pins σ' H' s' ∧ Q σ' H') X.xe s
/-- several targets, one after another -/
def PGs (X : Cx) (ts : List Expr) (t : TGs) : Prop :=
  ∀ (pins : List (Addr × Obj)) (s : Shared) (σ : St) (H : Hp) (vs : List V) (us : List Value) (Q : St → Hp → Prop), Inv X pins σ H s → Vals vs us → t vs σ H Q →
    wpAny (model X.prog X.w) X.A (assignInOrder ((assignEach ts X.env).map (·.2)) us) (fun _ s' => ∃ σ' H', Inv X pins σ' H' s' ∧ Q σ' H') X.xe s
/-- a op= b, by values -/
abbrev TIp := V → V → Hp → VK → Prop
def PIp (X : Cx) (op : Operator) (t : TIp) : Prop :=
  ∀ (pins : List (Addr × Obj)) (s : Shared) (σ : St) (H : Hp) (x y : V) (v u : Value) (Q : VK), Inv X pins σ H s → RelV x v → RelV y u → t x y H Q →
    wpAny (model X.prog X.w) X.A (inplaceOp op v u) (EP X pins σ Q) X.xe s
section
variable {X : Cx} {pos : Pos}
def gName (i : Nat) : TG := fun v σ H Q => Q (σ.set i (some v)) H
theorem pg_name {i : Nat} {x : Str} (hN : X.N.Nodup) (hi : X.N[i]? = some x) (hx : Loc X.env.scope x) (hf : X.fn x = true ∨ X.env.scope.names.lookup x = some .local := by first | exact .inl rfl | exact .inr rfl | assumption) : PG X (.Name x pos) (gName i) := by
  intro pins s σ H v u Q I r h
  exact wpAny_assign_Name (store_ok I hN hi hx r (fun s' I' => ⟨_, H, I', h⟩) hf)
def gNil : TGs := fun vs σ H Q => vs = [] ∧ Q σ H
def gCons (t : TG) (u : TGs) : TGs := fun vs σ H Q => ∃ v r, vs = v :: r ∧ t v σ H fun σ' H' => u r σ' H' Q
theorem pgs_nil : PGs X [] gNil := by
  intro pins s σ H vs us Q I r h
  obtain ⟨e, h⟩ := h
  subst e
  cases r
  exact assignInOrder_nil ⟨σ, H, I, h⟩
theorem pgs_cons {e : Expr} {es : List Expr} {t : TG} {u : TGs} (h1 : PG X e t) (h2 : PGs X es u)
    (hs : (assignEach (e :: es) X.env).map (·.2) = assign e X.env :: (assignEach es X.env).map (·.2) := by rfl) : PGs X (e :: es) (gCons t u) := by
  intro pins s σ H vs us Q I r h
  obtain ⟨v, vr, e1, h⟩ := h
  subst e1
  cases r with
  | cons r rr =>
    rw [hs]
    refine assignInOrder_cons (thn (h1 pins s σ H _ _ _ I r h) fun _ s1 ⟨σ1, H1, I1, q1⟩ => ?_)
    exact h2 pins s1 σ1 H1 _ _ Q I1 rr q1
/-- (a, b, ..) = a tuple of that length -/
def gTup (K : PySem.W.Frag) (n : Nat) (t : TGs) : TG := fun v σ H Q => ∃ a xs, v = .ref a ∧ SqT K H a xs ∧ xs.length = n ∧ t xs σ H Q
theorem pg_tup {es : List Expr} {k : Nat} {t : TGs} {n : Nat} (hc : X.calm = true) (h : PGs X es t)
    (hn : (assignEach es X.env).length = n := by rfl) (hst : (assignEach es X.env).findIdx? (·.1) = none := by rfl) : PG X (.Tuple es k pos) (gTup X.K n t) := by
  intro pins s σ H v u Q I r hw
  obtain ⟨a, xs, e1, hq, hl, hw⟩ := hw
  subst e1
  cases r
  obtain ⟨its, rv, ht, hz⟩ := I.tuple hq
  refine assign_Tuple_tuple (I.ok.hd hc) ht (by simp [hn, ← hl, rv.length]) hst fun h' hx => ?_
  have I1 : Inv X pins σ H { s with heap := h' } := I.kept (t' := s.toks) fun b o e => hx b o (Nat.ne_of_lt (Heap.lt_size e)) e
  exact h pins _ σ H xs _ Q I1 (by simpa using rv) hw
/-- target = value -/
def tAsg (te : TE) (g : TG) : TS := fun D σ H => te σ H fun x H1 => g x σ H1 D.nx
/-- name = value -/
theorem ps_set {i : Nat} {x : Str} {e : Expr} {te : TE} {pos' : Pos} (hN : X.N.Nodup) (hi : X.N[i]? = some x) (hx : Loc X.env.scope x) (he : PE X e te) (hs : swapsWith e (some (.Name x pos')) pos.line X.env = pure false := by rfl) (hf : X.fn x = true ∨ X.env.scope.names.lookup x = some .local := by first | exact .inl rfl | exact .inr rfl | assumption) :
    PS X (.Assign [.Name x pos'] e pos) (tAsg te (gName i)) := by
  intro pins s σ H D I h
  refine wpAny_Assign_Name (thn (he pins s σ H _ I h) fun v s1 ⟨y, H1, I1, r1, q1⟩ => ?_) hs
  exact store_ok I1 hN hi hx r1 (fun s2 I2 => ⟨_, H1, I2, q1⟩) hf
/-- name op= e -/
def tAug (i : Nat) (te : TE) (ti : TIp) : TS := fun D σ H => ∃ x, σ[i]? = some (some x) ∧ te σ H fun y H1 => ti x y H1 fun z H2 => D.nx (σ.set i (some z)) H2
theorem ps_aug {i : Nat} {x : Str} {e : Expr} {te : TE} {op : Operator} {ti : TIp} {pos' : Pos} (hN : X.N.Nodup) (hi : X.N[i]? = some x) (hx : Loc X.env.scope x) (he : PE X e te) (ho : PIp X op ti) (hf : X.fn x = true ∨ X.env.scope.names.lookup x = some .local := by first | exact .inl rfl | exact .inr rfl | assumption) :
    PS X (.AugAssign (.Name x pos') op e pos) (tAug i te ti) := by
  intro pins s σ H D I h
  obtain ⟨v, e1, h⟩ := h
  obtain ⟨m, hn, hl⟩ := I.loc
  have vis : Vis X.env.scope x := by rcases hx with k | k; exact .inl k; exact .inr (.inl k)
  obtain ⟨u, r, l⟩ := hl i x v hi e1 vis
  refine wpAny_AugAssign_Name ?_
  have go : wpAny (model X.prog X.w) X.A (eval e X.env) (fun w s₂ => wpAny (model X.prog X.w) X.A (inplaceOp op u w) (fun r s₃ => wpAny (model X.prog X.w) X.A (storeName X.env x r) (fun _ => SP X pins D .next) X.xe s₃) X.xe s₂) X.xe s := by
    refine thn (he pins s σ H _ I h) fun w s1 ⟨y, H1, I1, r1, q1⟩ => ?_
    refine thn (ho pins s1 σ H1 v y u w _ I1 r r1 q1) fun z s2 ⟨zv, H2, I2, r2, q2⟩ => ?_
    exact store_ok I2 hN hi hx r2 (fun s3 I3 => ⟨_, H2, I3, q2⟩) hf
  rcases l with ⟨hk, hm⟩ | ⟨hk, c, hc, hcell⟩
  · exact wpAny_loadName_local I.ok.kind hk hn hm go
  · rcases hk with hk | hk
    · exact wpAny_loadName_cell I.ok.kind hk hc hcell go
    · rcases hx with k | k
      · have : X.env.scope.names.lookup x = some .free := hk
        rw [k] at this; cases this
      · have : X.env.scope.names.lookup x = some .free := hk
        rw [k] at this; cases this
/-- ints -/
def ipI (f : Int → Int → Int) : TIp := fun x y H Q => ∃ i j, x = .int i ∧ y = .int j ∧ Q (.int (f i j)) H
theorem ip_add : PIp X .Add (ipI fun i j => i + j) := by
  intro pins s σ H x y v u Q I r1 r2 h
  obtain ⟨i, j, e1, e2, q⟩ := h
  subst e1; subst e2
  obtain ⟨t, rfl⟩ := r1
  obtain ⟨t', rfl⟩ := r2
  exact iadd_int ⟨.int _, H, I.tok _, ⟨_, rfl⟩, q⟩
end
section
variable {X : Cx} {pos : Pos}
/-- the invariant W with its measure -/
def tWhile (c : TT) (tb : TS) : TS := fun D σ H => ∃ W : Nat → St → Hp → Prop, (∃ m, W m σ H) ∧ ∀ m σ H, W m σ H →
  c σ H fun b H1 => if b = true then ∃ N : St → Hp → Prop, (∀ σ' H', N σ' H' → ∃ m', m' < m ∧ W m' σ' H') ∧ tb { D with nx := N, ct := N, bk := D.nx } σ H1 else D.nx σ H1
theorem ps_while {c : Expr} {body : List Stmt} {tc : TT} {tb : TS} (hp : PassesOwn (model X.prog X.w) X.A X.env X.xe) (hc : PT X c tc) (hb : PSs X body tb) : PS X (.While c body [] pos) (tWhile tc tb) := by
  intro pins s σ H D I h
  obtain ⟨W, ⟨m0, w0⟩, turn⟩ := h
  refine wpAny_While (codeAny_whileLoop (fun n s' => ∃ σ' H', Inv X pins σ' H' s' ∧ W n σ' H') ?_ m0 ⟨σ, H, I, w0⟩)
  rintro n s1 ⟨σ1, H1, I1, w1⟩
  refine wpAny_passesOwn hp (thn (hc pins s1 σ1 H1 _ I1 (turn n σ1 H1 w1)) fun b s2 ⟨H2, I2, q2⟩ => ?_)
  cases b with
  | true =>
    obtain ⟨N, hN, q2⟩ := q2
    rw [if_pos rfl]
    refine wpAny_passesOwn hp (thn (hb pins s2 σ1 H2 _ I2 q2) fun f s3 q3 => ?_)
    cases f with
    | next =>
      obtain ⟨σ3, H3, I3, n3⟩ := q3
      obtain ⟨m', hm, w3⟩ := hN σ3 H3 n3
      exact ⟨m', hm, σ3, H3, I3, w3⟩
    | cont =>
      obtain ⟨σ3, H3, I3, n3⟩ := q3
      obtain ⟨m', hm, w3⟩ := hN σ3 H3 n3
      exact ⟨m', hm, σ3, H3, I3, w3⟩
    | brk => exact q3
    | ret v => exact q3
  | false =>
    rw [if_neg Bool.false_ne_true]
    exact wpAny_execs_nil ⟨σ1, H2, I2, q2⟩
end
/-- at turn i: it yields x (the heap may grow), or it stops -/
structure It where
  go : Nat → Hp → Prop
  yld : Nat → Hp → V → Hp → Prop
  stop : Nat → Hp → Prop
/-- the iterator's own objects may turn: they are not the frame's, not pinned, younger than the entry (or a comprehension's own) -/
def FpOk (X : Cx) (pins : List (Addr × Obj)) (H : Hp) (b : Addr) : Prop :=
  H b = none ∧ b ≠ X.env.locals ∧ b ∉ X.fs ∧ (b ∈ X.ex ∨ X.s_0.heap.objs.size ≤ b) ∧ (∀ x c, X.env.cells.lookup x = some c → c ≠ b) ∧ ∀ p ∈ X.pn ++ pins, p.1 ≠ b
theorem Inv.fpOk {X : Cx} {pins : List (Addr × Obj)} {σ : St} {H H' : Hp} {s : Shared} {b : Addr} (I : Inv X pins σ H s) (hb : s.heap.objs.size ≤ b) (hn : H' b = none) : FpOk X pins H' b := by
  refine ⟨hn, Nat.ne_of_gt (Nat.lt_of_lt_of_le I.lt hb), I.nofs hb, .inr (Nat.le_trans I.sz hb), fun x c e z => ?_, fun p hp z => ?_⟩
  · obtain ⟨v, q⟩ := I.cell x c e
    exact absurd (Nat.lt_of_lt_of_le q.lt (by rw [z]; exact hb)) (Nat.lt_irrefl _)
  · exact absurd (Nat.lt_of_lt_of_le (Heap.lt_size (I.pin p hp).1) (by rw [z]; exact hb)) (Nat.lt_irrefl _)
structure Turn (P : Program) (w : World) (K : PySem.W.Frag) (tg : Expr) (J : It) (fp : List Addr) (it : Addr) (tn : Nat → Heap → Prop) : Prop where
  mem : it ∈ fp
  obj : ∀ i h, tn i h → ∀ b ∈ fp, ∃ o, h.get? b = some o ∧ ∀ v, o.data ≠ .cell v
  keep : ∀ i h h', tn i h → (∀ b ∈ fp, ∀ o, h.get? b = some o → h'.get? b = some o) → tn i h'
  item : ∀ (X : Cx), X.prog = P → X.w = w → X.K = K → X.calm = true → ∀ (i : Nat) (pins : List (Addr × Obj)) (s : Shared) (σ : St) (H : Hp) (E : Value → Shared → Prop), Inv X pins σ H s → (∀ b ∈ fp, FpOk X pins H b) → tn i s.heap → J.go i H →
    wpAny (model P w) X.A (pyNext (.ref it)) (fun r s1 => ∃ u, r = some u ∧
      wpAny (model P w) X.A (letOwnedTupleGo tg (.ref it) u) (fun _ s2 => ∃ x H', Inv X pins σ H' s2 ∧ RelV x u ∧ J.yld i H x H' ∧ tn (i + 1) s2.heap ∧ ∀ b ∈ fp, H' b = none) E s1) E s
  done : ∀ (X : Cx), X.prog = P → X.w = w → X.K = K → X.calm = true → ∀ (i : Nat) (pins : List (Addr × Obj)) (s : Shared) (σ : St) (H : Hp) (E : Value → Shared → Prop), Inv X pins σ H s → (∀ b ∈ fp, FpOk X pins H b) → tn i s.heap → J.stop i H →
    wpAny (model P w) X.A (pyNext (.ref it)) (fun r s1 => r = none ∧ Inv X pins σ H s1) E s
  self : ∀ (A : Around) (i : Nat) (s : Shared) (Q : Value → Shared → Prop) (E : Value → Shared → Prop), tn i s.heap → Q (.ref it) s → wpAny (model P w) A (pyIter (.ref it)) Q E s
abbrev TI := St → Hp → (It → Hp → Prop) → Prop
/-- an iterator has come -/
def PIE (X : Cx) (pins : List (Addr × Obj)) (σ : St) (tg : Expr) (R : It → Hp → Prop) (itv : Value) (s2 : Shared) : Prop :=
  ∃ (it : Addr) (fp : List Addr) (tn : Nat → Heap → Prop) (J : It) (H' : Hp), itv = .ref it ∧ Inv X pins σ H' s2 ∧ Turn X.prog X.w X.K tg J fp it tn ∧ tn 0 s2.heap ∧ (∀ b ∈ fp, FpOk X pins H' b) ∧ R J H'
def PI (X : Cx) (tg iter : Expr) (wi : TI) : Prop :=
  ∀ (pins : List (Addr × Obj)) (s : Shared) (σ : St) (H : Hp) (R : It → Hp → Prop), Inv X pins σ H s → wi σ H R →
    wpAny (model X.prog X.w) X.A (eval iter X.env) (fun v s1 => wpAny (model X.prog X.w) X.A (pyIter v) (PIE X pins σ tg R) X.xe s1) X.xe s
/-- the step ahead of the store is nothing for an iterator that keeps no tuple -/
theorem go_of {M : Model} {A : Around} {E : Value → Shared → Prop} {s : Shared} {tg : Expr} {it : Addr} {u : Value} {o : Obj} {n : String} {vs : Array Value} {Q : Unit → Shared → Prop} (ho : s.heap.get? it = some o) (hc : o.cls = .type n) (hd : o.data = .fields vs)
    (hn : ["enumerate", "zip", "dict_itemiterator", "dict_reverseitemiterator", "odict_iterator", "itertools.zip_longest", "itertools.pairwise"].contains n = false) (hQ : Q () s) : wpAny M A (letOwnedTupleGo tg (.ref it) u) Q E s := by
  unfold letOwnedTupleGo
  cases tg <;> first
    | exact wpAny_pure hQ
    | (cases u <;> first
        | exact wpAny_pure hQ
        | (refine wpAny_bind (wpAny_load ho ?_)
           rw [hc, hd]
           show wpAny M A (if (["enumerate", "zip", "dict_itemiterator", "dict_reverseitemiterator", "odict_iterator", "itertools.zip_longest", "itertools.pairwise"].contains n && vs[0]? == some (rawInt _)) = true then _ else _) Q E s
           rw [if_neg (by intro h; rw [hn, Bool.false_and] at h; cases h)]
           exact wpAny_pure hQ))
/-- the list at a, as it stands at each turn (a loop may append to it) -/
def Itl (K : PySem.W.Frag) (a : Addr) : It :=
  ⟨fun i H => ∃ xs x, SqL K H a xs ∧ xs[i]? = some x, fun i H x H' => H' = H ∧ ∀ xs, SqL K H a xs → xs[i]? = some x, fun i H => ∃ xs, SqL K H a xs ∧ xs.length ≤ i⟩
theorem turn_list {P : Program} {w : World} {K : PySem.W.Frag} {tg : Expr} (a it : Addr) : Turn P w K tg (Itl K a) [it] it (fun i h => h.IsListIter it a i) where
  mem := by simp
  obj := fun i h st b hb => by
    have e : b = it := by simpa using hb
    subst e
    obtain ⟨o, e, c, d⟩ := st
    exact ⟨o, e, fun v z => by rw [d] at z; cases z⟩
  keep := fun i h h' st k => st.at fun o e => k it (by simp) o e
  item := by
    intro X hP hw hK hc i pins s σ H E I hf st hg
    subst hP hw hK
    obtain ⟨xs, x, hq, hx⟩ := hg
    obtain ⟨its, rv, p, hz⟩ := I.list hq
    obtain ⟨u, hu, ru⟩ := rv.get hx
    obtain ⟨f0, f1, f2, f3, f4, f5⟩ := hf it (by simp)
    refine wpAny_pyNext_list_item st p.isList (x := u) (by simpa using hu) fun h' st' sb => ?_
    have I1 : Inv X pins σ H { s with heap := h' } := I.turned (t' := s.toks) (fun b o hb e => (sb.2 b hb).trans e) f0 f1 f3 f4 f5
    obtain ⟨o, e, c, d⟩ := id st'
    exact ⟨u, rfl, go_of (s := { s with heap := h' }) e c d (by decide) ⟨x, H, I1, ru, ⟨rfl, fun ys hy => by rw [I.list_inj hy hq]; exact hx⟩, st', fun b hb => (hf b hb).1⟩⟩
  done := by
    intro X hP hw hK hc i pins s σ H E I hf st hg
    subst hP hw hK
    obtain ⟨xs, hq, hx⟩ := hg
    obtain ⟨its, rv, p, hz⟩ := I.list hq
    obtain ⟨f0, f1, f2, f3, f4, f5⟩ := hf it (by simp)
    have hl := rv.length
    exact wpAny_pyNext_list_end (I.ok.hd hc) st p.isList (by simp; omega) fun h' eb => ⟨rfl, I.turned (t' := s.toks) (fun b o hb e => eb b o hb e) f0 f1 f3 f4 f5⟩
  self := fun _ _ _ _ _ st h => wpAny_pyIter_listiter st h
end L2
namespace L2
open PySem PySem.Spec PyProof.Rows
section
variable {X : Cx} {tg : Expr}
def iList (K : PySem.W.Frag) (tl : TE) : TI := fun σ H R => tl σ H fun x H1 => ∃ a, x = .ref a ∧ (∃ xs, SqL K H1 a xs) ∧ R (Itl K a) H1
theorem pi_list {l : Expr} {tl : TE} (hl : PE X l tl) : PI X tg l (iList X.K tl) := by
  intro pins s σ H R I h
  refine thn (hl pins s σ H _ I h) fun v s1 ⟨x, H1, I1, r1, q1⟩ => ?_
  obtain ⟨a, e, ⟨xs, hq⟩, q⟩ := q1
  subst e
  cases r1
  obtain ⟨its, rv, p, hz⟩ := I1.list hq
  refine wpAny_pyIter_list p.isList ?_
  refine ⟨s1.heap.objs.size, [s1.heap.objs.size], _, _, H1, rfl, I1.kept (t' := s1.toks) fun b o e => Heap.get?_push_of_some _ e, turn_list a _, ⟨_, Heap.get?_push_size _ rfl, rfl, rfl⟩, fun b hb => ?_, q⟩
  have e : b = s1.heap.objs.size := by simpa using hb
  subst e
  exact I1.fpOk (Nat.le_refl _) (I1.hok.fresh (Nat.le_refl _))
/-- W: the invariant by the turn and a measure; N: what the body is to reach -/
def tFor (wi : TI) (g : TG) (tb : TS) : TS := fun D σ H => wi σ H fun J H1 => ∃ W : Nat → Nat → St → Hp → Prop, (∃ m, W 0 m σ H1) ∧ ∀ i m σ H, W i m σ H →
  (J.stop i H ∧ D.nx σ H) ∨ (J.go i H ∧ ∃ N : St → Hp → Prop, (∀ σ' H', N σ' H' → ∃ m', m' < m ∧ W (i + 1) m' σ' H') ∧ ∀ x H', J.yld i H x H' → g x σ H' fun σ2 H2 => tb { D with nx := N, ct := N, bk := D.nx } σ2 H2)
/-- the records at fp as they stand -/
def pinsAt (fp : List Addr) (h : Heap) : List (Addr × Obj) := fp.filterMap fun b => (h.get? b).map fun o => (b, o)
theorem mem_pinsAt {fp : List Addr} {h : Heap} {b : Addr} {o : Obj} (hb : b ∈ fp) (e : h.get? b = some o) : (b, o) ∈ pinsAt fp h := List.mem_filterMap.mpr ⟨b, hb, by rw [e]; rfl⟩
theorem of_pinsAt {fp : List Addr} {h : Heap} {p : Addr × Obj} (hp : p ∈ pinsAt fp h) : p.1 ∈ fp ∧ h.get? p.1 = some p.2 := by
  obtain ⟨b, hb, e⟩ := List.mem_filterMap.mp hp
  cases q : h.get? b with
  | none => rw [q] at e; cases e
  | some o =>
    rw [q] at e
    have e' : (b, o) = p := Option.some.inj e
    subst e'
    exact ⟨hb, q⟩
theorem Inv.pinned {pins : List (Addr × Obj)} {σ : St} {H : Hp} {s : Shared} {fp : List Addr} (I : Inv X pins σ H s) (hf : ∀ b ∈ fp, FpOk X pins H b) (ho : ∀ b ∈ fp, ∃ o, s.heap.get? b = some o ∧ ∀ v, o.data ≠ .cell v) : Inv X (pins ++ pinsAt fp s.heap) σ H s :=
  I.pins_of fun p hp => (List.mem_append.mp hp).elim (fun z => I.pin p (List.mem_append_right _ z)) fun z => by
    obtain ⟨hb, e⟩ := of_pinsAt z
    obtain ⟨f0, f1, f2, _⟩ := hf p.1 hb
    obtain ⟨o, e', d⟩ := ho p.1 hb
    rw [e] at e'; cases e'
    exact ⟨e, f0, f1, f2, d⟩
theorem Inv.unpinned {pins pl : List (Addr × Obj)} {σ : St} {H : Hp} {s : Shared} (I : Inv X (pins ++ pl) σ H s) : Inv X pins σ H s := I.pins_of fun p hp => I.pin p (List.mem_append_right _ (List.mem_append_left _ hp))
theorem ps_for {iter : Expr} {body : List Stmt} {wi : TI} {g : TG} {tb : TS} {pos : Pos} (hp : PassesOwn (model X.prog X.w) X.A X.env X.xe) (hc : X.calm = true) (hi : PI X tg iter wi) (hg : PG X tg g) (hb : PSs X body tb)
    (hs : ∀ x, foldedSetIterable iter X.env x = pure x := by intro _; rfl) : PS X (.For tg iter body [] pos) (tFor wi g tb) := by
  intro pins s σ H D I h
  refine wpAny_For (thn (hi pins s σ H _ I h) fun v s1 h1 => thn h1 fun itv s2 h2 => ?_) hs
  obtain ⟨it, fp, tn, J, H2, e, I2, T, st2, f2, W, ⟨m0, w0⟩, turn⟩ := h2
  subst e
  -- what stays true of the iterator's objects through the loop
  have stat : ∀ {H' : Hp}, (∀ b ∈ fp, H' b = none) → ∀ b ∈ fp, FpOk X pins H' b := fun hn b hb => ⟨hn b hb, (f2 b hb).2⟩
  refine codeAny_forLoop_any (fun n s' => ∃ i σ' H', Inv X pins σ' H' s' ∧ tn i s'.heap ∧ (∀ b ∈ fp, H' b = none) ∧ W i n σ' H') ?_ m0 ⟨0, σ, H2, I2, st2, fun b hb => (f2 b hb).1, w0⟩
  rintro n s3 ⟨i, σ3, H3, I3, st3, fr3, w3⟩
  rcases turn i n σ3 H3 w3 with ⟨stop, qn⟩ | ⟨go, N, hN, step⟩
  · refine wpAny_passesOwn hp (thn (T.done X rfl rfl rfl hc i pins s3 σ3 H3 X.xe I3 (stat fr3) st3 stop) fun r s4 ⟨hr, I4⟩ => ?_)
    subst hr
    exact wpAny_execs_nil ⟨σ3, H3, I4, qn⟩
  · refine wpAny_passesOwn hp (thn (T.item X rfl rfl rfl hc i pins s3 σ3 H3 X.xe I3 (stat fr3) st3 go) fun r s4 ⟨u, hr, h4⟩ => ?_)
    subst hr
    refine wpAny_passesOwn hp (thn h4 fun _ s5 ⟨x, H5, I5, r5, y5, st5, fr5⟩ => ?_)
    have I5' := I5.pinned (stat fr5) (T.obj _ _ st5)
    refine wpAny_passesOwn hp (thn (hg _ s5 σ3 H5 x u _ I5' r5 (step x H5 y5)) fun _ s6 ⟨σ6, H6, I6, q6⟩ => ?_)
    refine wpAny_passesOwn hp (thn (hb _ s6 σ6 H6 _ I6 q6) fun f s7 q7 => ?_)
    have again : ∀ {σ7 : St} {H7 : Hp}, Inv X (pins ++ pinsAt fp s5.heap) σ7 H7 s7 → N σ7 H7 → ∃ m, m < n ∧ ∃ i σ' H', Inv X pins σ' H' s7 ∧ tn i s7.heap ∧ (∀ b ∈ fp, H' b = none) ∧ W i m σ' H' := fun {σ7 H7} I7 n7 => by
      obtain ⟨m', hm, w7⟩ := hN σ7 H7 n7
      refine ⟨m', hm, i + 1, σ7, H7, I7.unpinned, T.keep _ _ _ st5 fun b hb o e => (I7.pin (b, o) (List.mem_append_right _ (List.mem_append_right _ (mem_pinsAt hb e)))).1, fun b hb => ?_, w7⟩
      obtain ⟨o, e, d⟩ := T.obj _ _ st5 b hb
      exact (I7.pin (b, o) (List.mem_append_right _ (List.mem_append_right _ (mem_pinsAt hb e)))).2.1
    cases f with
    | next => obtain ⟨σ7, H7, I7, n7⟩ := q7; exact again I7 n7
    | cont => obtain ⟨σ7, H7, I7, n7⟩ := q7; exact again I7 n7
    | brk => obtain ⟨σ7, H7, I7, q7⟩ := q7; exact ⟨σ7, H7, I7.unpinned, q7⟩
    | ret v => obtain ⟨x7, σ7, H7, I7, r7, q7⟩ := q7; exact ⟨x7, σ7, H7, I7.unpinned, r7, q7⟩
end
/-- over a list that the body leaves as it is -/
theorem for_list {K : PySem.W.Frag} {a : Addr} {xs : List V} {g : TG} {tb : TS} {D : Ends} {σ : St} {H : Hp} (Pv : Nat → St → Hp → Prop) (h0 : Pv 0 σ H) (hl : ∀ i σ H, i ≤ xs.length → Pv i σ H → SqL K H a xs)
    (hs : ∀ i x σ H, xs[i]? = some x → Pv i σ H → g x σ H fun σ2 H2 => tb { D with nx := Pv (i + 1), ct := Pv (i + 1), bk := D.nx } σ2 H2) (hd : ∀ σ H, Pv xs.length σ H → D.nx σ H) :
    ∃ W : Nat → Nat → St → Hp → Prop, (∃ m, W 0 m σ H) ∧ ∀ i m σ H, W i m σ H →
      ((Itl K a).stop i H ∧ D.nx σ H) ∨ ((Itl K a).go i H ∧ ∃ N : St → Hp → Prop, (∀ σ' H', N σ' H' → ∃ m', m' < m ∧ W (i + 1) m' σ' H') ∧ ∀ x H', (Itl K a).yld i H x H' → g x σ H' fun σ2 H2 => tb { D with nx := N, ct := N, bk := D.nx } σ2 H2) := by
  refine ⟨fun i m σ H => m = xs.length - i ∧ i ≤ xs.length ∧ Pv i σ H, ⟨xs.length, by simp, Nat.zero_le _, h0⟩, ?_⟩
  rintro i m σ H ⟨rfl, hi, p⟩
  have q := hl i σ H hi p
  by_cases hlt : i < xs.length
  · refine .inr ⟨⟨xs, xs[i], q, by simp [hlt]⟩, Pv (i + 1), fun σ' H' p' => ⟨xs.length - (i + 1), by omega, rfl, hlt, p'⟩, fun x H' y => ?_⟩
    obtain ⟨e, y⟩ := y
    subst e
    exact hs i x σ _ (y xs q) p
  · have e : i = xs.length := by omega
    subst e
    exact .inl ⟨⟨xs, q, Nat.le_refl _⟩, hd σ H p⟩
end L2
namespace L2
open PySem PySem.Spec PyProof.Rows
abbrev R2 := V → V → Hp → VK → Prop
/-- a two-place operation on values: f is binaryOp op, inplaceOp op or compareOp op -/
def OpR (X : Cx) (f : Value → Value → Sem Value) (r : R2) : Prop :=
  ∀ (pins : List (Addr × Obj)) (s : Shared) (σ : St) (H : Hp) (x y : V) (v u : Value) (Q : VK), Inv X pins σ H s → RelV x v → RelV y u → r x y H Q →
    wpAny (model X.prog X.w) X.A (f v u) (EP X pins σ Q) X.xe s
/-- a one-place operation -/
def UnR (X : Cx) (f : Value → Sem Value) (r : V → Hp → VK → Prop) : Prop :=
  ∀ (pins : List (Addr × Obj)) (s : Shared) (σ : St) (H : Hp) (x : V) (v : Value) (Q : VK), Inv X pins σ H s → RelV x v → r x H Q →
    wpAny (model X.prog X.w) X.A (f v) (EP X pins σ Q) X.xe s
/-- a call of a value that is known (a builtin, a type) with values -/
def CallR (X : Cx) (f : Value) (r : List V → Hp → VK → Prop) : Prop :=
  ∀ (pins : List (Addr × Obj)) (s : Shared) (σ : St) (H : Hp) (xs : List V) (us : List Value) (Q : VK), Inv X pins σ H s → Vals xs us → r xs H Q →
    wpAny (model X.prog X.w) X.A (call f us) (EP X pins σ Q) X.xe s
def tOp (r : R2) (ta tb : TE) : TE := fun σ H Q => ta σ H fun x H1 => tb σ H1 fun y H2 => r x y H2 Q
def tUn (r : V → Hp → VK → Prop) (ta : TE) : TE := fun σ H Q => ta σ H fun x H1 => r x H1 Q
/-- ints in, under C, and a value out -/
def rI (C : Int → Int → Prop) (g : Int → Int → V) : R2 := fun x y H Q => ∃ i j, x = .int i ∧ y = .int j ∧ C i j ∧ Q (g i j) H
def rI0 (g : Int → Int → V) : R2 := fun x y H Q => ∃ i j, x = .int i ∧ y = .int j ∧ Q (g i j) H
def rU (g : Int → V) : V → Hp → VK → Prop := fun x H Q => ∃ i, x = .int i ∧ Q (g i) H
section
variable {X : Cx} {a b c : Expr} {ta tb tc : TE} {pos : Pos}
theorem binT (ha : PE X a ta) (hb : PE X b tb) {pins : List (Addr × Obj)} {s : Shared} {σ : St} {H : Hp} {R : V → V → Hp → Prop} (I : Inv X pins σ H s)
    (h : ta σ H fun x H1 => tb σ H1 fun y H2 => R x y H2) {Q : Value → Shared → Prop} {f : Value → Value → Sem Value}
    (hf : ∀ v u s2 x y H2, Inv X pins σ H2 s2 → RelV x v → RelV y u → R x y H2 → wpAny (model X.prog X.w) X.A (f v u) Q X.xe s2) :
    wpAny (model X.prog X.w) X.A (eval a X.env) (fun v s₁ => wpAny (model X.prog X.w) X.A (eval b X.env) (fun u s₂ => wpAny (model X.prog X.w) X.A (f v u) Q X.xe s₂) X.xe s₁) X.xe s := by
  refine thn (ha pins s σ H _ I h) fun v s1 ⟨x, H1, I1, r1, q1⟩ => ?_
  refine thn (hb pins s1 σ H1 _ I1 q1) fun u s2 ⟨y, H2, I2, r2, q2⟩ => ?_
  exact hf v u s2 x y H2 I2 r1 r2 q2
theorem pe_op {op : Operator} {r : R2} (ho : OpR X (binaryOp op) r) (ha : PE X a ta) (hb : PE X b tb) : PE X (.BinOp a op b pos) (tOp r ta tb) := by
  intro pins s σ H Q I h
  exact wpAny_BinOp (binT ha hb I h fun v u s2 x y H2 I2 rx ry q => ho pins s2 σ H2 x y v u Q I2 rx ry q)
theorem pe_un {op : UnaryOp} {r : V → Hp → VK → Prop} (ho : UnR X (unaryOp op) r) (ha : PE X a ta) : PE X (.UnaryOp op a pos) (tUn r ta) := by
  intro pins s σ H Q I h
  exact UnaryOp_ (thn (ha pins s σ H _ I h) fun v s1 ⟨x, H1, I1, r1, q1⟩ => ho pins s1 σ H1 x v Q I1 r1 q1)
theorem opI {f : Value → Value → Sem Value} {C : Int → Int → Prop} {g : Int → Int → Int}
    (rule : ∀ (i j : Int) (t u : Tok) (s : Shared) (Q : Value → Shared → Prop) (E : Value → Shared → Prop), C i j → Q (.int (g i j) s.toks) { s with toks := s.toks + 1 } → wpAny (model X.prog X.w) X.A (f (.int i t) (.int j u)) Q E s) :
    OpR X f (rI C fun i j => .int (g i j)) := by
  intro pins s σ H x y v u Q I rx ry h
  obtain ⟨i, j, rfl, rfl, hc, q⟩ := h
  obtain ⟨t, rfl⟩ := rx
  obtain ⟨t', rfl⟩ := ry
  exact rule i j t t' s _ _ hc ⟨.int (g i j), H, I.tok _, ⟨_, rfl⟩, q⟩
theorem opI0 {f : Value → Value → Sem Value} {g : Int → Int → Int}
    (rule : ∀ (i j : Int) (t u : Tok) (s : Shared) (Q : Value → Shared → Prop) (E : Value → Shared → Prop), Q (.int (g i j) s.toks) { s with toks := s.toks + 1 } → wpAny (model X.prog X.w) X.A (f (.int i t) (.int j u)) Q E s) :
    OpR X f (rI0 fun i j => .int (g i j)) := by
  intro pins s σ H x y v u Q I rx ry h
  obtain ⟨i, j, rfl, rfl, q⟩ := h
  obtain ⟨t, rfl⟩ := rx
  obtain ⟨t', rfl⟩ := ry
  exact rule i j t t' s _ _ ⟨.int (g i j), H, I.tok _, ⟨_, rfl⟩, q⟩
theorem opB0 {f : Value → Value → Sem Value} {g : Int → Int → Bool}
    (rule : ∀ (i j : Int) (t u : Tok) (s : Shared) (Q : Value → Shared → Prop) (E : Value → Shared → Prop), Q (.bool (g i j)) s → wpAny (model X.prog X.w) X.A (f (.int i t) (.int j u)) Q E s) :
    OpR X f (rI0 fun i j => .bl (g i j)) := by
  intro pins s σ H x y v u Q I rx ry h
  obtain ⟨i, j, rfl, rfl, q⟩ := h
  obtain ⟨t, rfl⟩ := rx
  obtain ⟨t', rfl⟩ := ry
  exact rule i j t t' s _ _ ⟨.bl (g i j), H, I, rfl, q⟩
def CDiv (i j : Int) : Prop := 0 < j ∧ j < 1073741824
def CMul (i j : Int) : Prop := (-(2 ^ 64) < i ∧ i < 2 ^ 64) ∨ (-(2 ^ 64) < j ∧ j < 2 ^ 64)
theorem CMul.ok {i j : Int} (h : CMul i j) : IntMulOk i j := by
  rcases h with ⟨h1, h2⟩ | ⟨h1, h2⟩
  · exact .of_left (intBits_le_64 h1 h2)
  · exact .of_right (intBits_le_64 h1 h2)
theorem op_add : OpR X (binaryOp .Add) (rI0 fun i j => .int (i + j)) := opI0 fun _ _ _ _ _ _ _ q => add_int q
theorem op_sub : OpR X (binaryOp .Sub) (rI0 fun i j => .int (i - j)) := opI0 fun _ _ _ _ _ _ _ q => sub_int q
theorem op_mul : OpR X (binaryOp .Mult) (rI CMul fun i j => .int (i * j)) := opI fun _ _ _ _ _ _ _ hc q => mul_int q hc.ok
/-- // by a positive divisor -/
theorem op_fdiv : OpR X (binaryOp .FloorDiv) (rI CDiv fun i j => .int (i / j)) := opI fun i j _ _ _ _ _ hc q => by
  have h1 : (0 : Int) < j := hc.1
  have h2 : j < 1073741824 := hc.2
  exact floordiv_int (by omega) (by rw [Int.fdiv_eq_ediv_of_nonneg i (by omega)]; exact q) (.inl (PyProof.noPylong_small (by omega)))
theorem unI {f : Value → Sem Value} {g : Int → Int}
    (rule : ∀ (i : Int) (t : Tok) (s : Shared) (Q : Value → Shared → Prop) (E : Value → Shared → Prop), Q (.int (g i) s.toks) { s with toks := s.toks + 1 } → wpAny (model X.prog X.w) X.A (f (.int i t)) Q E s) :
    UnR X f (rU fun i => .int (g i)) := by
  intro pins s σ H x v Q I rx h
  obtain ⟨i, rfl, q⟩ := h
  obtain ⟨t, rfl⟩ := rx
  exact rule i t s _ _ ⟨.int (g i), H, I.tok _, ⟨_, rfl⟩, q⟩
theorem un_neg : UnR X (unaryOp .USub) (rU fun i => .int (-i)) := unI fun _ _ _ _ _ q => neg_int q
end
/-- the scalars that == tells apart as data does -/
def scal : V → V → Bool
  | .non, .non => true | .non, .int _ => true | .int _, .non => true | .non, .bl _ => true | .bl _, .non => true | .non, .str _ => true | .str _, .non => true
  | .int _, .int _ => true | .bl _, .bl _ => true | .str _, .str _ => true | .byt _, .byt _ => true
  | .int _, .str _ => true | .str _, .int _ => true | .bl _, .str _ => true | .str _, .bl _ => true
  | _, _ => false
def rEq : R2 := fun x y H Q => scal x y = true ∧ Q (.bl (decide (x = y))) H
def rNe : R2 := fun x y H Q => scal x y = true ∧ Q (.bl (!decide (x = y))) H
theorem dec_int {i j : Int} : decide (V.int i = V.int j) = (i == j) := by
  rw [Bool.eq_iff_iff]
  simp
theorem dec_bl {i j : Bool} : decide (V.bl i = V.bl j) = (i == j) := by
  rw [Bool.eq_iff_iff]
  simp
theorem dec_str {i j : Str} : decide (V.str i = V.str j) = (i == j) := by
  rw [Bool.eq_iff_iff]
  simp
theorem dec_byt {i j : Array UInt8} : decide (V.byt i = V.byt j) = (i.toList == j.toList) := by
  rw [Bool.eq_iff_iff]
  cases i
  cases j
  simp
section
variable {X : Cx} {a b c : Expr} {ta tb tc : TE} {pos : Pos}
theorem fin_bl {pins : List (Addr × Obj)} {σ : St} {H : Hp} {s : Shared} {Q : VK} {k k' : Bool} (I : Inv X pins σ H s) (q : Q (.bl k) H) (e : k = k') : EP X pins σ Q (.bool k') s := by
  subst e
  exact ⟨.bl k, H, I, rfl, q⟩
theorem op_eq : OpR X (compareOp .Eq) rEq := by
  intro pins s σ H x y v u Q I rx ry h
  obtain ⟨hs, q⟩ := h
  cases x with
  | non =>
    cases rx
    cases y with
    | non => cases ry; exact PySem.EqNone.eq_none_none (fin_bl I q (by simp))
    | bl j => cases ry; exact PySem.EqNone.eq_none_bool (fin_bl I q (by simp))
    | int j => obtain ⟨t', rfl⟩ := ry; exact PySem.EqNone.eq_none_int (fin_bl I q (by simp))
    | str j => obtain ⟨t', rfl⟩ := ry; exact PySem.EqNone.eq_none_str (fin_bl I q (by simp))
    | _ => exact absurd (show false = true from hs) Bool.false_ne_true
  | bl i =>
    cases rx
    cases y with
    | non => cases ry; exact PySem.EqNone.eq_bool_none (fin_bl I q (by simp))
    | bl j => cases ry; exact eq_bool (fin_bl I q dec_bl)
    | str j => obtain ⟨t', rfl⟩ := ry; exact PySem.EqMixed.eq_bool_str (fin_bl I q (by simp))
    | _ => exact absurd (show false = true from hs) Bool.false_ne_true
  | int i =>
    obtain ⟨t, rfl⟩ := rx
    cases y with
    | non => cases ry; exact PySem.EqNone.eq_int_none (fin_bl I q (by simp))
    | int j => obtain ⟨t', rfl⟩ := ry; exact eq_int (fin_bl I q dec_int)
    | str j => obtain ⟨t', rfl⟩ := ry; exact PySem.EqMixed.eq_int_str (fin_bl I q (by simp))
    | _ => exact absurd (show false = true from hs) Bool.false_ne_true
  | str i =>
    obtain ⟨t, rfl⟩ := rx
    cases y with
    | non => cases ry; exact PySem.EqNone.eq_str_none (fin_bl I q (by simp))
    | bl j => cases ry; exact PySem.EqMixed.eq_str_bool (fin_bl I q (by simp))
    | int j => obtain ⟨t', rfl⟩ := ry; exact PySem.EqMixed.eq_str_int (fin_bl I q (by simp))
    | str j => obtain ⟨t', rfl⟩ := ry; exact eq_str (fin_bl I q dec_str)
    | _ => exact absurd (show false = true from hs) Bool.false_ne_true
  | byt i =>
    obtain ⟨t, rfl⟩ := rx
    cases y with
    | byt j => obtain ⟨t', rfl⟩ := ry; exact PySem.W.eq_bytes (fin_bl I q dec_byt)
    | _ => exact absurd (show false = true from hs) Bool.false_ne_true
  | _ => cases y <;> exact absurd (show false = true from hs) Bool.false_ne_true
theorem op_ne : OpR X (compareOp .NotEq) rNe := by
  intro pins s σ H x y v u Q I rx ry h
  obtain ⟨hs, q⟩ := h
  cases x with
  | non =>
    cases rx
    cases y with
    | non => cases ry; exact PySem.EqNone.ne_none_none (fin_bl I q (by simp))
    | bl j => cases ry; exact PySem.EqNone.ne_none_bool (fin_bl I q (by simp))
    | int j => obtain ⟨t', rfl⟩ := ry; exact PySem.EqNone.ne_none_int (fin_bl I q (by simp))
    | str j => obtain ⟨t', rfl⟩ := ry; exact PySem.EqNone.ne_none_str (fin_bl I q (by simp))
    | _ => exact absurd (show false = true from hs) Bool.false_ne_true
  | bl i =>
    cases rx
    cases y with
    | non => cases ry; exact PySem.EqNone.ne_bool_none (fin_bl I q (by simp))
    | bl j => cases ry; exact ne_bool (fin_bl I q (congrArg not dec_bl))
    | str j => obtain ⟨t', rfl⟩ := ry; exact PySem.EqMixed.ne_bool_str (fin_bl I q (by simp))
    | _ => exact absurd (show false = true from hs) Bool.false_ne_true
  | int i =>
    obtain ⟨t, rfl⟩ := rx
    cases y with
    | non => cases ry; exact PySem.EqNone.ne_int_none (fin_bl I q (by simp))
    | int j => obtain ⟨t', rfl⟩ := ry; exact ne_int (fin_bl I q (congrArg not dec_int))
    | str j => obtain ⟨t', rfl⟩ := ry; exact PySem.EqMixed.ne_int_str (fin_bl I q (by simp))
    | _ => exact absurd (show false = true from hs) Bool.false_ne_true
  | str i =>
    obtain ⟨t, rfl⟩ := rx
    cases y with
    | non => cases ry; exact PySem.EqNone.ne_str_none (fin_bl I q (by simp))
    | bl j => cases ry; exact PySem.EqMixed.ne_str_bool (fin_bl I q (by simp))
    | int j => obtain ⟨t', rfl⟩ := ry; exact PySem.EqMixed.ne_str_int (fin_bl I q (by simp))
    | str j => obtain ⟨t', rfl⟩ := ry; exact ne_str (fin_bl I q (congrArg not dec_str))
    | _ => exact absurd (show false = true from hs) Bool.false_ne_true
  | byt i =>
    obtain ⟨t, rfl⟩ := rx
    cases y with
    | byt j => obtain ⟨t', rfl⟩ := ry; exact PySem.W.ne_bytes (fin_bl I q (congrArg not dec_byt))
    | _ => exact absurd (show false = true from hs) Bool.false_ne_true
  | _ => cases y <;> exact absurd (show false = true from hs) Bool.false_ne_true
theorem op_lt : OpR X (compareOp .Lt) (rI0 fun i j => .bl (decide (i < j))) := opB0 fun _ _ _ _ _ _ _ q => lt_int q
theorem op_le : OpR X (compareOp .LtE) (rI0 fun i j => .bl (decide (i ≤ j))) := opB0 fun _ _ _ _ _ _ _ q => le_int q
theorem op_gt : OpR X (compareOp .Gt) (rI0 fun i j => .bl (decide (j < i))) := opB0 fun _ _ _ _ _ _ _ q => gt_int q
theorem op_ge : OpR X (compareOp .GtE) (rI0 fun i j => .bl (decide (j ≤ i))) := opB0 fun _ _ _ _ _ _ _ q => ge_int q
theorem nomark (b : Expr) {op : CmpOp} (h : op ≠ .In := by decide) (h2 : op ≠ .NotIn := by decide) : behindInMarks op b = false := by
  have e1 : (op == CmpOp.In) = false := by cases op <;> first | rfl | exact absurd rfl h
  have e2 : (op == CmpOp.NotIn) = false := by cases op <;> first | rfl | exact absurd rfl h2
  cases b <;> simp [behindInMarks, e1, e2]
/-- a comparison as a value; hm: nomark b, or (for in, not in) by with_unfolding_all rfl -/
theorem pe_cmpR {op : CmpOp} {r : R2} (ho : OpR X (compareOp op) r) (ha : PE X a ta) (hb : PE X b tb) (hm : behindInMarks op b = false) : PE X (.Compare a [op] [b] pos) (tOp r ta tb) := by
  intro pins s σ H Q I h
  exact wpAny_Compare1 (binT ha hb I h fun v u s2 x y H2 I2 rx ry q => ho pins s2 σ H2 x y v u Q I2 rx ry q) hm
/-- a reading of a value as a test -/
def tTest (t : TE) : TT := fun σ H Q => t σ H fun x H' => ∃ k, x = .bl k ∧ Q k H'
theorem pt_cmpR {op : CmpOp} {r : R2} (ho : OpR X (compareOp op) r) (ha : PE X a ta) (hb : PE X b tb) (hm : behindInMarks op b = false) : PT X (.Compare a [op] [b] pos) (tTest (tOp r ta tb)) := by
  intro pins s σ H Q I h
  refine wpAny_isTrue_Compare1 (thn (ha pins s σ H _ I h) fun v s1 ⟨x, H1, I1, r1, q1⟩ => thn (hb pins s1 σ H1 _ I1 q1) fun u s2 ⟨y, H2, I2, r2, q2⟩ =>
    thn (ho pins s2 σ H2 x y v u _ I2 r1 r2 q2) fun c s3 ⟨z, H3, I3, r3, k, e, q3⟩ => ?_) hm
  subst e
  cases r3
  exact wpAny_truthy_bool ⟨H3, I3, q3⟩
theorem line63 : (sizeLine : Nat) < 2 ^ 63 := by rw [sizeLine_eq]; decide
theorem vals1 {x : V} {us : List Value} (r : Vals [x] us) : ∃ u, us = [u] ∧ RelV x u := by
  cases r with
  | cons r1 r2 => cases r2; exact ⟨_, rfl, r1⟩
theorem vals2 {x y : V} {us : List Value} (r : Vals [x, y] us) : ∃ u w', us = [u, w'] ∧ RelV x u ∧ RelV y w' := by
  cases r with
  | cons r1 r2 =>
    cases r2 with
    | cons r3 r4 => cases r4; exact ⟨_, _, rfl, r1, r3⟩
theorem call_max2 (hc : X.calm = true) : CallR X (.builtin "max") (fun xs H Q => ∃ i j, xs = [.int i, .int j] ∧ Q (.int (if j > i then j else i)) H) := by
  intro pins s σ H xs us Q I r h
  obtain ⟨i, j, rfl, q⟩ := h
  obtain ⟨u, w', rfl, ⟨t, rfl⟩, ⟨t', rfl⟩⟩ := vals2 r
  refine max_two_ints (I.ok.hd hc) fun h' tk k => ⟨_, H, I.kept k, ?_, q⟩
  by_cases hj : j > i
  · rw [if_pos hj, if_pos hj]; exact ⟨_, rfl⟩
  · rw [if_neg hj, if_neg hj]; exact ⟨_, rfl⟩
theorem call_min2 (hc : X.calm = true) : CallR X (.builtin "min") (fun xs H Q => ∃ i j, xs = [.int i, .int j] ∧ Q (.int (if j < i then j else i)) H) := by
  intro pins s σ H xs us Q I r h
  obtain ⟨i, j, rfl, q⟩ := h
  obtain ⟨u, w', rfl, ⟨t, rfl⟩, ⟨t', rfl⟩⟩ := vals2 r
  refine min_two_ints (I.ok.hd hc) fun h' tk k => ⟨_, H, I.kept k, ?_, q⟩
  by_cases hj : j < i
  · rw [if_pos hj, if_pos hj]; exact ⟨_, rfl⟩
  · rw [if_neg hj, if_neg hj]; exact ⟨_, rfl⟩
end
end L2
namespace L2
open PySem PySem.Spec PyProof.Rows
structure ObjM (h : Heap) (x dx C : Addr) (mA : Str → Option Value) : Prop where
  obj : h.get? x = some (PySem.W.instObj C dx)
  ns : h.Ns1 dx mA
  ne : dx ≠ x
theorem lookIn_ns {h : Heap} {dx : Addr} {mA : Str → Option Value} (n : h.Ns1 dx mA) : ∃ od, h.get? dx = some od ∧ ∀ name, PySem.W.lookIn name od = some (mA name) := by
  obtain ⟨o, es, ep, ho, hd, hk, _, hm⟩ := n
  refine ⟨o, ho, fun name => ?_⟩
  have e := hm name
  unfold nsFind findBy at e
  rw [← Array.find?_toList] at e
  unfold PySem.W.lookIn
  rw [hd]
  dsimp only
  split
  · rename_i y q
    rw [q] at e
    exact congrArg some e
  · rename_i q
    rw [q] at e
    have a : es.toList.any (·.refKey) = false := by
      rw [List.any_eq_false]
      intro y hy
      obtain ⟨z, t, hkey⟩ := hk y (Array.mem_toList_iff.mp hy)
      simp [DictEntry.refKey, hkey]
    have a' : ¬ es.toList.any (·.refKey) = true := by rw [a]; exact Bool.false_ne_true
    rw [if_neg a']
    exact congrArg some e
theorem ObjM.look {h : Heap} {x dx C : Addr} {mA : Str → Option Value} (I : ObjM h x dx C mA) : ∃ od, PySem.W.InstAt h x (PySem.W.instObj C dx) C (some od) ∧ ∀ name, PySem.W.lookIn name od = some (mA name) :=
  let ⟨od, ho, hl⟩ := lookIn_ns I.ns
  ⟨od, ⟨I.obj, rfl, rfl, ho⟩, hl⟩
section
variable {prog : Program} {w : World} {A : Around} {E : Value → Shared → Prop} {s : Shared} {K : PySem.W.Frag} {x dx C f : Addr} {mA : Str → Option Value} {name : Str} {v : Value}
theorem get_map {expr : Bool} {Q : Value → Shared → Prop} (X : K.In s.heap) (I : ObjM s.heap x dx C mA) (hg : PySem.W.plainGet K C name = true) (hh : PySem.W.hasDictIn K C = true)
    (ha : PySem.W.findIn K (.ref C) name = some none) (hv : mA name = some v) (hv' : PySem.W.handedIn v = true) (h : Q v { s with toks := s.toks + 1 }) :
    wpAny (model prog w) A (getAttr (.ref x) name expr) Q E s := by
  obtain ⟨od, J, hl⟩ := I.look
  exact PySem.W.get_value X J (PySem.W.plainGet_of hg).1 (PySem.W.findObj_own hh ha rfl (by rw [hl, hv])) hv' h
theorem get_meth {pl : Sem Bool} {Q : Value × List Value → Shared → Prop} (X : K.In s.heap) (I : ObjM s.heap x dx C mA) (hg : PySem.W.plainGet K C name = true)
    (hf : PySem.W.findIn K (.ref C) name = some (some (.ref f))) (ht : PySem.W.isFn K (.ref f) = true) (hv : mA name = none) (h : Q (.ref f, [.ref x]) s) :
    wpAny (model prog w) A (getMethod (.ref x) name pl) Q E s := by
  obtain ⟨od, J, hl⟩ := I.look
  exact PySem.W.method_fn X J (PySem.W.plainGet_of hg).1 (PySem.W.plainGet_of hg).2 hf (beq_iff_eq.mp ht) (by show (PySem.W.lookIn name od).map (·.isSome) = some false; rw [hl, hv]; rfl) h
theorem set_map {ns : List Str} {Q : Unit → Shared → Prop} (X : K.In s.heap) (I : ObjM s.heap x dx C mA)
    (hs : PySem.W.findIn K (.ref C) "__setattr__" = some (some (.builtin "object.__setattr__"))) (hp : PySem.W.plainOver K C = true) (ht : PySem.W.takerIn K C name = some none) (hh : PySem.W.hasDictIn K C = true)
    (hw : PySem.Within mA ns) (hsz : ns.length ≤ sizeLine)
    (h : ∀ h', ObjM h' x dx C (fun y => if y = name then some v else mA y) → Heap.SameBut dx s.heap h' → Q () { s with heap := h', toks := s.toks + 2 }) :
    wpAny (model prog w) A (setAttr (.ref x) name v) Q E s := by
  obtain ⟨od, J, hl⟩ := I.look
  refine PySem.W.set_plain X J hs (PySem.W.osa_open (s := { s with toks := s.toks + 1 }) (r := none) X J hp ht fun b => ?_)
  obtain ⟨cd, hc, hd'⟩ := PySem.W.any_some hh
  have hx : s.heap.get? x = some ⟨.ref C, some dx, .plain, #[]⟩ := I.obj
  refine wpAny_bind (wpAny_pure (wpAny_bind (wpAny_bind (wpAny_loadPart hx (wpAny_bind (PySem.W.Looks.here (s := { s with toks := s.toks + 1 }) (PySem.W.looks_clsIn X hc) ?_))))))
  rw [hd']
  refine wpAny_pure (a := some dx) (wpAny_bind (wpAny_pure (wpAny_bind ?_)))
  refine wpAny_nsSet1 (s := { s with toks := s.toks + 1 }) I.ns fun h' hn2 hs2 => ?_
  obtain ⟨oD, esD, epD, hoD, hdD, hcD⟩ := hn2.count (PySem.Within.cons name v hw)
  refine wpAny_bind (wpAny_lookBehind hoD (by rw [hdD]; exact pastItsLine_dict (Nat.le_trans hcD (by rw [List.length_cons]; omega))) ?_)
  exact wpAny_pure (h _ ⟨(hs2.2 _ (Ne.symm I.ne)).trans I.obj, hn2, I.ne⟩ hs2)
/-- C(..): the dict at the heap's end, the instance behind it; then its __init__ -/
theorem make_map {R : Result → Shared → Prop} {vs : List Value} {kw : List (Str × Value)} (X : K.In s.heap) (hm : PySem.W.makesIn K C = true)
    (hi : PySem.W.findIn K (.ref C) "__init__" = some (some (.ref f))) (hf : PySem.W.typeIn K (.ref f) = some (.type "function"))
    (h : codeAny (model prog w) (A.under (.builtin "type.__call__" ⟨.ref C :: vs, kw⟩)) (.call (.ref f) ⟨.ref (s.heap.objs.size + 1) :: vs, kw⟩) (PySem.W.InitBack (s.heap.objs.size + 1) R)
      { s with heap := (s.heap.push PySem.W.emptyDict).push (PySem.W.instObj C s.heap.objs.size) }) :
    codeAny (model prog w) A (.call (.ref C) ⟨vs, kw⟩) R s := by
  obtain ⟨hh, g, d, t, os⟩ := s
  exact PySem.W.make_core (PySem.W.makes_of X hm) (PySem.W.looks_findIn X hi) (fun self => PySem.W.bind_fn X self hf) (.inl rfl) h
end
def putF (f : Str) (v : V) : List (Str × V) → List (Str × V)
  | [] => [(f, v)]
  | (g, x) :: r => if g = f then (g, v) :: r else (g, x) :: putF f v r
theorem lookup_putF (f g : Str) (v : V) : ∀ fs : List (Str × V), (putF f v fs).lookup g = if g = f then some v else fs.lookup g
  | [] => by
    show List.lookup g [(f, v)] = _
    by_cases h : g = f
    · have hb : (g == f) = true := beq_iff_eq.mpr h
      simp only [List.lookup, hb, if_pos h]
    · have hb : (g == f) = false := beq_eq_false_iff_ne.mpr h
      simp only [List.lookup, hb, if_neg h]
  | (k, x) :: r => by
    have ih := lookup_putF f g v r
    rw [show putF f v ((k, x) :: r) = (if k = f then (k, v) :: r else (k, x) :: putF f v r) from rfl]
    by_cases hk : k = f
    · rw [if_pos hk]
      by_cases h : g = k
      · have hb : (g == k) = true := beq_iff_eq.mpr h
        simp only [List.lookup, hb, if_pos (h.trans hk)]
      · have hb : (g == k) = false := beq_eq_false_iff_ne.mpr h
        simp only [List.lookup, hb, if_neg (fun e : g = f => h (e.trans hk.symm))]
    · rw [if_neg hk]
      by_cases h : g = k
      · have hb : (g == k) = true := beq_iff_eq.mpr h
        simp only [List.lookup, hb, if_neg (fun e : g = f => hk (h.symm.trans e))]
      · have hb : (g == k) = false := beq_eq_false_iff_ne.mpr h
        simp only [List.lookup, hb]
        exact ih
theorem keys_putF (f : Str) (v : V) : ∀ fs : List (Str × V), f ∈ (putF f v fs).map (·.1) ∧ ∀ g, g ∈ fs.map (·.1) → g ∈ (putF f v fs).map (·.1)
  | [] => ⟨by simp [putF], fun g h => by simp at h⟩
  | (k, x) :: r => by
    obtain ⟨i1, i2⟩ := keys_putF f v r
    rw [show putF f v ((k, x) :: r) = (if k = f then (k, v) :: r else (k, x) :: putF f v r) from rfl]
    by_cases hk : k = f
    · rw [if_pos hk]
      subst hk
      exact ⟨by simp, fun g h => by simpa using h⟩
    · rw [if_neg hk]
      refine ⟨?_, fun g h => ?_⟩
      · rw [List.map_cons]
        exact List.mem_cons_of_mem _ i1
      · rw [List.map_cons] at h ⊢
        rcases List.mem_cons.mp h with e | e
        · exact List.mem_cons.mpr (.inl e)
        · exact List.mem_cons_of_mem _ (i2 g e)
theorem length_putF (f : Str) (v : V) : ∀ fs : List (Str × V), (putF f v fs).length ≤ fs.length + 1
  | [] => by simp [putF]
  | (k, x) :: r => by
    have ih := length_putF f v r
    rw [show putF f v ((k, x) :: r) = (if k = f then (k, v) :: r else (k, x) :: putF f v r) from rfl]
    by_cases hk : k = f
    · rw [if_pos hk, List.length_cons, List.length_cons]; omega
    · rw [if_neg hk, List.length_cons, List.length_cons]; omega
theorem RelO.some_of {v : V} {o : Option Value} (r : RelO (some v) o) : ∃ u, o = some u ∧ RelV v u := by
  cases o with
  | none => exact (show False from r).elim
  | some u => exact ⟨u, rfl, r⟩
theorem RelO.none_of {o : Option Value} (r : RelO none o) : o = none := by
  cases o with
  | none => rfl
  | some u => exact (show False from r).elim
theorem handed_of {v : V} {u : Value} (r : RelV v u) : PySem.W.handedIn u = true := by
  cases v with
  | non => cases (show u = Value.none from r); rfl
  | bl b => cases (show u = Value.bool b from r); rfl
  | int i => obtain ⟨t, e⟩ := (show ∃ t, u = Value.int i t from r); cases e; rfl
  | str x => obtain ⟨t, e⟩ := (show ∃ t, u = Value.str x t from r); cases e; rfl
  | byt b => obtain ⟨t, e⟩ := (show ∃ t, u = Value.bytes b t from r); cases e; rfl
  | flt b => obtain ⟨t, e⟩ := (show ∃ t, u = Value.float b t from r); cases e; rfl
  | ref a => cases (show u = Value.ref a from r); rfl
  | ty n => cases (show u = Value.type n from r); rfl
section
variable {P : Program} {w : World} {H H' : Hp} {h h' : Heap} {a C dx : Addr} {fs fs' : List (Str × V)}
theorem ins_get (hok : HOk P w H h) (e : H a = some (.ins C dx fs)) : ∃ mA, ObjM h a dx C mA ∧ (∀ f, RelO (fs.lookup f) (mA f)) ∧ PySem.Within mA (fs.map (·.1)) ∧ fs.length ≤ 1000 ∧ H dx = some (.own a) := by
  obtain ⟨d, z, ne, ob, mA, n, r, q⟩ := (show ObjOk P w H h a (.ins C dx fs) from hok a _ e)
  exact ⟨mA, ⟨ob, n, ne⟩, r, q, z, d⟩
end
structure Cls (K : PySem.W.Frag) (C : Addr) : Prop where
  pg : PySem.W.plainGet K C Str.empty = true
  hd : PySem.W.hasDictIn K C = true
  po : PySem.W.plainOver K C = true
  sa : PySem.W.findIn K (.ref C) "__setattr__" = some (some (.builtin "object.__setattr__"))
theorem Cls.get {K : PySem.W.Frag} {C : Addr} (c : Cls K C) (f : Str) : PySem.W.plainGet K C f = true := c.pg
/-- no class of it has the name -/
def NoAttr (K : PySem.W.Frag) (C : Addr) (f : Str) : Prop := PySem.W.findIn K (.ref C) f = some none
theorem NoAttr.taker {K : PySem.W.Frag} {C : Addr} {f : Str} (n : NoAttr K C f) : PySem.W.takerIn K C f = some none := by
  unfold PySem.W.takerIn
  rw [show PySem.W.findIn K (.ref C) f = some none from n]
  rfl
/-- a method: a plain def of the class or of one above it -/
structure Meth (K : PySem.W.Frag) (C : Addr) (m : Str) (f : Addr) : Prop where
  at_ : PySem.W.findIn K (.ref C) m = some (some (.ref f))
  fn : PySem.W.isFn K (.ref f) = true
  kp : PySem.W.keepIn K (.ref f) = true
section
variable {X : Cx} {pins : List (Addr × Obj)} {σ : St} {H : Hp} {s : Shared} {a C dx : Addr} {fs : List (Str × V)} {f : Str} {v : V} {A : Around} {E : Value → Shared → Prop}
theorem getattr_ok {b : Bool} {Q : Value → Shared → Prop} (I : Inv X pins σ H s) (e : H a = some (.ins C dx fs)) (c : Cls X.K C) (n : NoAttr X.K C f) (l : fs.lookup f = some v)
    (h : ∀ u s', Inv X pins σ H s' → RelV v u → Q u s') : wpAny (model X.prog X.w) A (getAttr (.ref a) f b) Q E s := by
  obtain ⟨mA, O, r, _, _, _⟩ := ins_get I.hok e
  obtain ⟨u, hu, ru⟩ := RelO.some_of (v := v) (o := mA f) (by rw [← l]; exact r f)
  exact get_map I.kIn O (c.get f) c.hd n hu (handed_of ru) (h u _ (I.tok _) ru)
theorem getmeth_ok {m : Str} {g : Addr} {pl : Sem Bool} {Q : Value × List Value → Shared → Prop} (I : Inv X pins σ H s) (e : H a = some (.ins C dx fs)) (c : Cls X.K C) (k : Meth X.K C m g) (l : fs.lookup m = none)
    (h : Q (.ref g, [.ref a]) s) : wpAny (model X.prog X.w) A (getMethod (.ref a) m pl) Q E s := by
  obtain ⟨mA, O, r, _, _, _⟩ := ins_get I.hok e
  have hn : mA m = none := RelO.none_of (by rw [← l]; exact r m)
  exact get_meth I.kIn O (c.get m) k.at_ k.fn hn h
theorem setattr_ok {y : V} {u : Value} {Q : Unit → Shared → Prop} (I : Inv X pins σ H s) (e : H a = some (.ins C dx fs)) (c : Cls X.K C) (n : NoAttr X.K C f) (hl : fs.length < 1000) (ry : RelV y u)
    (h : ∀ s', Inv X pins σ (upd H a (.ins C dx (putF f y fs))) s' → Q () s') : wpAny (model X.prog X.w) A (setAttr (.ref a) f u) Q E s := by
  obtain ⟨mA, O, r, wi, _, ho⟩ := ins_get I.hok e
  have hz : (fs.map (·.1)).length ≤ sizeLine := by rw [List.length_map, sizeLine_eq]; omega
  refine set_map I.kIn O c.sa c.po n.taker c.hd wi hz fun h' O' sb => h _ ?_
  have hd : ∃ o, h'.get? dx = some o := let ⟨o, _, _, e', _⟩ := O'.ns; ⟨o, e'⟩
  refine I.write (x := a) (e := dx) (by rw [e]; exact True.intro) (.inr ho) (fun b q hb z => (sb.2 b hb).trans z) hd ?_
  refine ⟨by rw [upd_ne O.ne]; exact ho, ?_, O.ne, O'.obj, _, O'.ns, fun g => ?_, fun g hg => ?_⟩
  · have := length_putF f y fs; omega
  · show RelO ((putF f y fs).lookup g) (if g = f then some u else mA g)
    rw [lookup_putF]
    by_cases q : g = f
    · rw [if_pos q, if_pos q]; exact ry
    · rw [if_neg q, if_neg q]; exact r g
  · by_cases q : g = f
    · rw [q]; exact (keys_putF f y fs).1
    · refine (keys_putF f y fs).2 g (wi g fun z => hg ?_)
      show (if g = f then some u else mA g) = none
      rw [if_neg q]; exact z
/-- a new instance, tracked, without attributes -/
theorem Inv.made (I : Inv X pins σ H s) : Inv X pins σ (upd (upd H s.heap.objs.size (.own (s.heap.objs.size + 1))) (s.heap.objs.size + 1) (.ins C s.heap.objs.size []))
    { s with heap := (s.heap.push PySem.W.emptyDict).push (PySem.W.instObj C s.heap.objs.size) } := by
  have e1 : (s.heap.push PySem.W.emptyDict).get? s.heap.objs.size = some PySem.W.emptyDict := Heap.get?_push_size s.heap rfl
  have e2 : ((s.heap.push PySem.W.emptyDict).push (PySem.W.instObj C s.heap.objs.size)).get? (s.heap.objs.size + 1) = some (PySem.W.instObj C s.heap.objs.size) := by
    have := Heap.get?_push_size (s.heap.push PySem.W.emptyDict) (o := PySem.W.instObj C s.heap.objs.size) rfl
    rwa [Heap.size_push] at this
  have e3 : (s.heap.push PySem.W.emptyDict).Ns s.heap.objs.size (fun _ => none) := ⟨PySem.W.emptyDict, #[], _, e1, rfl, (fun e he => absurd he (by simp)), fun _ => rfl⟩
  have I1 := I.laid (a := s.heap.objs.size) (o := .own (s.heap.objs.size + 1)) (h' := s.heap.push PySem.W.emptyDict) (t' := s.toks) (fun b u q => Heap.get?_push_of_some _ q) (Nat.le_refl _) ⟨_, e1⟩
  refine I1.laid (a := s.heap.objs.size + 1) (o := .ins C s.heap.objs.size []) (t' := s.toks) (fun b u q => Heap.get?_push_of_some _ q) (Nat.le_of_eq (Heap.size_push _ _)) ?_
  have ne : s.heap.objs.size ≠ s.heap.objs.size + 1 := Nat.ne_of_lt (Nat.lt_succ_self _)
  refine ⟨by rw [upd_ne ne, upd_same], Nat.zero_le _, ne, e2, fun _ => none, (Heap.Ns1.of_empty e3).at fun o q => Heap.get?_push_of_some _ q, fun _ => True.intro, fun y hy => absurd rfl hy⟩
/-- e.f where nothing but the object is asked: through attributeBase (super) and the last hold -/
theorem attr_of {prog : Program} {w : World} {env : Env} {e : Expr} {f : Str} {pos : Pos} {s : Shared} {Q : Value → Shared → Prop} (hb : attributeBase e f env (eval e env) = eval e env)
    (h : wpAny (model prog w) A (eval e env) (fun o s₁ => wpAny (model prog w) A (getAttr o f true) Q E s₁) E s) : wpAny (model prog w) A (eval (.Attribute e f pos) env) Q E s :=
  Attribute_any_ h (by rw [arm_eval_Attribute, hb])
end
/-- e.f, an attribute of the instance -/
def tFld (K : PySem.W.Frag) (ta : TE) (f : Str) : TE := fun σ H Q => ta σ H fun x H1 => ∃ a C dx fs v, x = .ref a ∧ H1 a = some (.ins C dx fs) ∧ Cls K C ∧ NoAttr K C f ∧ fs.lookup f = some v ∧ Q v H1
/-- e.f = value -/
def sFld (K : PySem.W.Frag) (ta tv : TE) (f : Str) : TS := fun D σ H => tv σ H fun y H1 => ta σ H1 fun x H2 => ∃ a C dx fs, x = .ref a ∧ H2 a = some (.ins C dx fs) ∧ Cls K C ∧ NoAttr K C f ∧ fs.length < 1000 ∧
  D.nx σ (upd H2 a (.ins C dx (putF f y fs)))
/-- an augmented operator on two values -/
def InOp (X : Cx) (op : Operator) (rd : V → V → Hp → VK → Prop) : Prop :=
  ∀ (pins : List (Addr × Obj)) (s : Shared) (σ : St) (H : Hp) (x y : V) (u v : Value) (Q : VK), Inv X pins σ H s → RelV x u → RelV y v → rd x y H Q → wpAny (model X.prog X.w) X.A (inplaceOp op u v) (EP X pins σ Q) X.xe s
/-- e.f op= value -/
def sFldAug (K : PySem.W.Frag) (ta tv : TE) (rd : V → V → Hp → VK → Prop) (f : Str) : TS := fun D σ H => ta σ H fun x H1 => ∃ a C dx fs v, x = .ref a ∧ H1 a = some (.ins C dx fs) ∧ Cls K C ∧ NoAttr K C f ∧ fs.lookup f = some v ∧
  tv σ H1 fun y H2 => rd v y H2 fun z H3 => ∃ dx' fs', H3 a = some (.ins C dx' fs') ∧ fs'.length < 1000 ∧ D.nx σ (upd H3 a (.ins C dx' (putF f z fs')))
section
variable {X : Cx} {o e value : Expr} {f : Str} {pos pos' tpos : Pos} {ta tv : TE}
theorem pe_fld (he : PE X e ta) (hb : attributeBase e f X.env (eval e X.env) = eval e X.env) : PE X (.Attribute e f pos) (tFld X.K ta f) := by
  intro pins s σ H Q I h
  refine attr_of hb (thn (he pins s σ H _ I h) fun u s1 ⟨x, H1, I1, rx, a, C, dx, fs, v, ex, ea, c, n, l, q⟩ => ?_)
  subst ex
  obtain rfl : u = Value.ref a := rx
  exact getattr_ok I1 ea c n l fun u' s2 I2 ru => ⟨v, H1, I2, ru, q⟩
theorem ps_fld (ha : PE X o ta) (hv : PE X value tv) (hs : swapsWith value (some (.Attribute o f pos')) pos.line X.env = pure false) : PS X (.Assign [.Attribute o f pos'] value pos) (sFld X.K ta tv f) := by
  intro pins s σ H D I h
  refine plainObj_wpAny_Assign_Attribute (thn (hv pins s σ H _ I h) fun u s1 ⟨y, H1, I1, ry, q⟩ => thn (ha pins s1 σ H1 _ I1 q) fun ov s2 ⟨x, H2, I2, rx, a, C, dx, fs, ex, ea, c, n, l, q2⟩ => ?_) hs
  subst ex
  obtain rfl : ov = Value.ref a := rx
  exact setattr_ok I2 ea c n l ry fun s3 I3 => ⟨σ, _, I3, q2⟩
theorem ps_fldaug {op : Operator} {rd : V → V → Hp → VK → Prop} (ha : PE X o ta) (hv : PE X value tv) (hop : InOp X op rd) : PS X (.AugAssign (.Attribute o f tpos) op value pos) (sFldAug X.K ta tv rd f) := by
  intro pins s σ H D I h
  refine wpAny_AugAssign_AttributeAny (thn (ha pins s σ H _ I h) fun ov s1 ⟨x, H1, I1, rx, a, C, dx, fs, v, ex, ea, c, n, l, q⟩ => ?_)
  subst ex
  obtain rfl : ov = Value.ref a := rx
  refine getattr_ok I1 ea c n l fun u s2 I2 ru => thn (hv pins s2 σ H1 _ I2 q) fun w3 s3 ⟨y, H2, I3, ry, q3⟩ => thn (hop pins s3 σ H2 v y u w3 _ I3 ru ry q3) fun w4 s4 ⟨z, H3, I4, rz, dx', fs', ea', l', q4⟩ => ?_
  exact setattr_ok I4 ea' c n l' rz fun s5 I5 => ⟨σ, _, I5, q4⟩
def rAdd : V → V → Hp → VK → Prop := fun x y H Q => ∃ i j, x = .int i ∧ y = .int j ∧ Q (.int (i + j)) H
def rSub : V → V → Hp → VK → Prop := fun x y H Q => ∃ i j, x = .int i ∧ y = .int j ∧ Q (.int (i - j)) H
theorem in_add : InOp X .Add rAdd := by
  rintro pins s σ H x y u v Q I rx ry ⟨i, j, rfl, rfl, q⟩
  obtain ⟨t, rfl⟩ := (show ∃ t, u = Value.int i t from rx)
  obtain ⟨t', rfl⟩ := (show ∃ t', v = Value.int j t' from ry)
  exact PyProof.Rows.iadd_int ⟨.int (i + j), H, I.tok _, ⟨_, rfl⟩, q⟩
theorem in_sub : InOp X .Sub rSub := by
  rintro pins s σ H x y u v Q I rx ry ⟨i, j, rfl, rfl, q⟩
  obtain ⟨t, rfl⟩ := (show ∃ t, u = Value.int i t from rx)
  obtain ⟨t', rfl⟩ := (show ∃ t', v = Value.int j t' from ry)
  exact PyProof.Rows.isub_int ⟨.int (i - j), H, I.tok _, ⟨_, rfl⟩, q⟩
/-- what is between an instance and its method: the tree of a method call -/
theorem methcall_of {pl : Sem Bool} {m : Str} {apos : Pos} {args : List Expr} {pins : List (Addr × Obj)} {s : Shared} {σ : St} {H : Hp} {Q : Value → Shared → Prop} {te : TE} (he : PE X e te) (I : Inv X pins σ H s)
    (h : te σ H fun x H1 => ∃ a C dx fs g, x = .ref a ∧ H1 a = some (.ins C dx fs) ∧ Cls X.K C ∧ Meth X.K C m g ∧ fs.lookup m = none ∧
      ∀ s1, Inv X pins σ H1 s1 → wpAny (model X.prog X.w) X.A (callWith pos (.ref g) [.ref a] (backTo pos (starEach args X.env)) (backToKw pos (keywordEach [] X.env))) Q X.xe s1)
    (ht : eval (.Call (.Attribute e m apos) args [] pos) X.env = (do
      let ov ← eval e X.env
      standAt apos.atName
      let (f, first) ← holding [ov] (getMethod ov m pl)
      callWith pos f first (backTo pos (starEach args X.env)) (backToKw pos (keywordEach [] X.env)))) :
    wpAny (model X.prog X.w) X.A (eval (.Call (.Attribute e m apos) args [] pos) X.env) Q X.xe s := by
  refine PySem.W.methodCall_KW (pl := pl) (thn (he pins s σ H _ I h) fun u s1 ⟨x, H1, I1, rx, a, C, dx, fs, g, ex, ea, c, k, l, q⟩ => ?_) ht
  subst ex
  obtain rfl : u = Value.ref a := rx
  exact getmeth_ok I1 ea c k l (q s1 I1)
end
section
variable {X : Cx} {pins : List (Addr × Obj)} {σ : St} {H : Hp} {s : Shared} {A : Around} {E : Value → Shared → Prop} {Q : Value → Shared → Prop} {c : Value} {b : Bool}
end
end L2
namespace L2
open PySem PySem.Spec PyProof.Rows
structure Room (k : Nat) (A : Around) : Prop where
  hd : A.handled = none
  dp : A.depth + 3 * k + 5 < recursionLimit
  un : A.units + 16 * k + 200 < cLine
theorem Room.mono {j k : Nat} {A : Around} (r : Room k A) (h : j ≤ k) : Room j A := ⟨r.hd, by have := r.dp; omega, by have := r.un; omega⟩
theorem Room.deeper {k : Nat} {A : Around} (r : Room (k + 1) A) (env : Env) : Room k (A.deeper env) :=
  ⟨r.hd, by have := r.dp; show A.depth + 1 + 3 * k + 5 < _; omega, by have := r.un; show A.units + 3 + 16 * k + 200 < _; omega⟩
theorem Room.in1 {k : Nat} {A : Around} (r : Room (k + 1) A) : Room k A.in1 :=
  ⟨r.hd, by have := r.dp; show A.depth + 3 * k + 5 < _; omega, by have := r.un; show A.units + 1 + 16 * k + 200 < _; omega⟩
theorem make_depth {A : Around} {C : Addr} {us : List Value} {kw : List (Str × Value)} : (A.under (.builtin "type.__call__" ⟨.ref C :: us, kw⟩)).depth = A.depth + 1 := by
  first | rfl | simp [Around.under, Code.weight, Code.isCreation, Code.isGuard, Code.isCaller, Code.frames, Code.isFrame, guardIds]
theorem make_units {A : Around} {C : Addr} {us : List Value} {kw : List (Str × Value)} : (A.under (.builtin "type.__call__" ⟨.ref C :: us, kw⟩)).units = A.units + 1 := by
  first | rfl | simp [Around.under, Code.cUnits, Code.frames, Code.isFrame]
theorem Room.make {k : Nat} {A : Around} (r : Room (k + 1) A) (C : Addr) (us : List Value) (kw : List (Str × Value)) : Room k (A.under (.builtin "type.__call__" ⟨.ref C :: us, kw⟩)) :=
  ⟨r.hd, by have := r.dp; rw [make_depth]; omega, by have := r.un; rw [make_units]; omega⟩
theorem Room.depth {k : Nat} {A : Around} (r : Room k A) : A.depth < recursionLimit := by have := r.dp; omega
theorem Room.units {k : Nat} {A : Around} (r : Room k A) : A.units + 64 < cLine := by have := r.un; omega
def tNil : TA := fun _ H Q => Q [] H
def tCons (ta : TE) (tr : TA) : TA := fun σ H Q => ta σ H fun x H1 => tr σ H1 fun xs H2 => Q (x :: xs) H2
section
variable {X : Cx} {e : Expr} {es : List Expr} {te : TE} {t : TA} {pos : Pos}
theorem pa_nil : PA X [] tNil := fun _ _ _ _ H Q I h => Calls.spliced_nil ⟨[], H, I, .nil, h⟩
theorem pa_cons (ha : PE X e te) (hr : PA X es t) (hs : starEach (e :: es) X.env = (false, eval e X.env) :: starEach es X.env := by rfl) : PA X (e :: es) (tCons te t) := by
  intro pos pins s σ H Q I h
  rw [hs]
  show wpAny _ _ (spliced ((false, eval e X.env) :: backTo pos (starEach es X.env))) _ _ s
  refine Calls.spliced_cons (thn (ha pins s σ H _ I h) fun u s1 ⟨x, H1, I1, r1, q1⟩ => ?_)
  exact thn (hr pos pins s1 σ H1 _ I1 q1) fun us s2 ⟨xs, H2, I2, r2, q2⟩ => ⟨x :: xs, H2, I2, .cons r1 r2, q2⟩
/-- a tuple, a list of written items -/
def tTup (t : TA) : TE := fun σ H Q => t σ H fun xs H1 => xs.length ≤ sizeLine ∧ ∀ p, H1 p = none → Q (.ref p) (upd H1 p (.tup xs))
def tLst (t : TA) : TE := fun σ H Q => t σ H fun xs H1 => xs.length ≤ sizeLine ∧ ∀ p, H1 p = none → Q (.ref p) (upd H1 p (.lst xs))
theorem pe_tup {x1} (h : PA X es t) : PE X (.Tuple es x1 pos) (tTup t) := by
  intro pins s σ H Q I hq
  refine wpAny_Tuple_spliced (thn (h pos pins s σ H _ I hq) fun us s1 ⟨xs, H1, I1, r, z, q⟩ => ⟨by rw [← r.length]; exact z, ?_⟩)
  have hf : H1 s1.heap.objs.size = none := I1.hok.fresh (Nat.le_refl _)
  refine ⟨.ref s1.heap.objs.size, upd H1 s1.heap.objs.size (.tup xs), I1.laid (t' := s1.toks) (fun b u e => Heap.get?_push_of_some _ e) (Nat.le_refl _) ?_, rfl, q _ hf⟩
  exact ⟨z, us, r, ⟨_, Heap.get?_push_size _ rfl, rfl, _, rfl⟩⟩
theorem pe_lst (h : PA X es t) : PE X (.List es pos) (tLst t) := by
  intro pins s σ H Q I hq
  refine wpAny_List_spliced (thn (h pos pins s σ H _ I hq) fun us s1 ⟨xs, H1, I1, r, z, q⟩ => ⟨by rw [← r.length]; exact z, ?_⟩)
  have hf : H1 s1.heap.objs.size = none := I1.hok.fresh (Nat.le_refl _)
  refine ⟨.ref s1.heap.objs.size, upd H1 s1.heap.objs.size (.lst xs), I1.laid (t' := s1.toks) (fun b u e => Heap.get?_push_of_some _ e) (Nat.le_refl _) ?_, rfl, q _ hf⟩
  exact ⟨z, us, 0, r, Heap.get?_push_size _ rfl⟩
end
/-- a def's promise: the bound arguments in the parameters' order, the heap, the wanted end, the wanted exception -/
abbrev Sp := List V → Hp → VK → XK → Prop
/-- how an exception lies behind a call (file 08 gives it): the callers' frames, abstract heap and state ahead of the call, the wish, the exception, the state -/
abbrev CXT := List Env → Hp → Shared → XK → Value → Shared → Prop
/-- the state at a call -/
structure Env0 (P : Program) (w : World) (K : PySem.W.Frag) (mg : Str → Option Value) (base : Heap) (A : Around) (outer : List Env) (s : Shared) (H : Hp) : Prop where
  frames : A.frames = some outer
  mod : Mod K mg base
  bs : ∀ b o, base.get? b = some o → s.heap.get? b = some o ∧ H b = none
  bsz : base.objs.size ≤ s.heap.objs.size
  funs : s.heap.FunFrames base outer
  frf : ∀ b ∈ frs outer, H b = none
  hok : HOk P w H s.heap
  bare : AllBare s.gens
/-- a call's end -/
def CE (outer : List Env) (P : Program) (w : World) (H : Hp) (s : Shared) (Q : VK) (u : Value) (s' : Shared) : Prop :=
  ∃ v H', s'.os = s.os ∧ AllBare s'.gens ∧ Un (frs outer) [] H H' s.heap s'.heap ∧ HOk P w H' s'.heap ∧ RelV v u ∧ Q v H'
def CR (CX : CXT) (outer : List Env) (P : Program) (w : World) (H : Hp) (s : Shared) (Q : VK) (E : XK) (r : Result) (s' : Shared) : Prop :=
  match r with
  | .ok (.ret u) => CE outer P w H s Q u s'
  | .ok _ => False
  | .error e => CX outer H s E e s'
structure FnOk (P : Program) (w : World) (K : PySem.W.Frag) (mg : Str → Option Value) (base : Heap) (CX : CXT) (k : Nat) (f : Addr) (fd : FuncData) (ps : List Str) (sp : Sp) : Prop where
  len : ∀ vs H Q E, sp vs H Q E → vs.length = ps.length
  run : ∀ (A : Around) (outer : List Env) (s : Shared) (H : Hp) (args : Args) (us : List Value) (vs : List V) (Q : VK) (E : XK), Room k A → Env0 P w K mg base A outer s H → BindsTo s fd args (ps.zip us) → Vals vs us → sp vs H Q E →
    codeAny (model P w) A (.call (.ref f) args) (CR CX outer P w H s Q E) s
theorem FnOk.mono {P : Program} {w : World} {K : PySem.W.Frag} {mg : Str → Option Value} {base : Heap} {CX : CXT} {j k : Nat} {f : Addr} {fd : FuncData} {ps : List Str} {sp : Sp} (F : FnOk P w K mg base CX j f fd ps sp) (h : j ≤ k) :
    FnOk P w K mg base CX k f fd ps sp := ⟨F.len, fun A outer s H args us vs Q E hr => F.run A outer s H args us vs Q E (hr.mono h)⟩
theorem Env0.make {P : Program} {w : World} {K : PySem.W.Frag} {mg : Str → Option Value} {base : Heap} {A : Around} {outer : List Env} {s : Shared} {H : Hp} (e : Env0 P w K mg base A outer s H) (C : Addr) (us : List Value) (kw : List (Str × Value)) :
    Env0 P w K mg base (A.under (.builtin "type.__call__" ⟨.ref C :: us, kw⟩)) outer s H := ⟨by first | exact e.frames | (simpa [Around.under, Code.envs, Code.isFrame, pushEnvs] using e.frames), e.mod, e.bs, e.bsz, e.funs, e.frf, e.hok, e.bare⟩
theorem Env0.in1 {P : Program} {w : World} {K : PySem.W.Frag} {mg : Str → Option Value} {base : Heap} {A : Around} {outer : List Env} {s : Shared} {H : Hp} (e : Env0 P w K mg base A outer s H) :
    Env0 P w K mg base A.in1 outer s H := ⟨e.frames, e.mod, e.bs, e.bsz, e.funs, e.frf, e.hok, e.bare⟩
section
variable {X : Cx} {pins : List (Addr × Obj)} {σ : St} {H : Hp} {s s' : Shared}
/-- from a body: what a callee wants -/
theorem Inv.env0 (I : Inv X pins σ H s) : Env0 X.prog X.w X.K X.mg X.base X.A X.stack s H :=
  ⟨I.ok.frames, I.ok.mod, I.bs, Nat.le_trans I.ok.bsz I.sz, I.stack, I.stkFree, I.hok, I.bare⟩
/-- behind a call -/
theorem Inv.after {Q : VK} {u : Value} (I : Inv X pins σ H s) (h : CE X.stack X.prog X.w H s Q u s') : EP X pins σ Q u s' := by
  obtain ⟨v, H', os, bare, un, hok, r, q⟩ := h
  obtain ⟨hh, g, d, t, os'⟩ := s'
  obtain rfl : os' = s.os := os
  exact ⟨v, H', I.call (h' := hh) (g' := g) (d' := d) (t' := t) (ch := []) un hok bare (fun b z => absurd z (by simp)), r, q⟩
end
/-- f(..): the written arguments, then the defaults dvs; E: what is wanted of an exception -/
def tCall (sp : Sp) (dvs : List V) (E : XK) (t : TA) : TE := fun σ H Q => t σ H fun vs H1 => sp (vs ++ dvs) H1 Q E
/-- o.m(..) of an instance of the class at C -/
def tMeth (C : Addr) (m : Str) (sp : Sp) (dvs : List V) (E : XK) (ta : TE) (t : TA) : TE := fun σ H Q => ta σ H fun x H1 => ∃ a dx fs, x = .ref a ∧ H1 a = some (.ins C dx fs) ∧ fs.lookup m = none ∧
  t σ H1 fun vs H2 => sp (x :: (vs ++ dvs)) H2 Q E
/-- C(..): a new instance and its dict, then __init__ -/
def tMake (C : Addr) (sp : Sp) (dvs : List V) (E : XK) (t : TA) : TE := fun σ H Q => t σ H fun vs H1 => ∀ x dx, H1 x = none → H1 dx = none → dx ≠ x →
  sp (.ref x :: (vs ++ dvs)) (upd (upd H1 dx (.own x)) x (.ins C dx [])) (fun v H2 => v = .non ∧ Q (.ref x) H2) E
/-- how the parameters are bound: us the positional arguments, kw the keywords' values by name, ds the defaults that fill up -/
def Binds (K : PySem.W.Frag) (fd : FuncData) (ps : List Str) (ds : List Value) : Prop :=
  ∀ (s : Shared) (us : List Value), K.In s.heap → (us ++ ds).length = ps.length → BindsTo s fd ⟨us, []⟩ (ps.zip (us ++ ds))
/-- every parameter is given -/
theorem Binds.all {K : PySem.W.Frag} {fd : FuncData} {ps : List Str} (h : ∀ us : List Value, us.length = ps.length → bindArgs fd ⟨us, []⟩ = pure (ps.zip us)) : Binds K fd ps [] := fun s us _ hl => by
  rw [List.append_nil] at hl ⊢
  exact .of_eq (h us hl)
/-- an exception of a callee reaches what this body wants of exceptions -/
def Passes (CX : CXT) (X : Cx) (E : XK) : Prop := ∀ (pins : List (Addr × Obj)) (σ : St) (H : Hp) (s : Shared) (e : Value) (s' : Shared), Inv X pins σ H s → CX X.stack H s E e s' → X.xe e s'
section
variable {X : Cx} {CX : CXT} {k : Nat} {f C : Addr} {fd : FuncData} {ps : List Str} {sp : Sp} {dvs : List V} {ds : List Value} {E : XK} {x m : Str} {p pos apos : Pos} {e o : Expr} {es : List Expr} {ta : TE} {t : TA}
/-- the callee runs -/
theorem run_fn {pins : List (Addr × Obj)} {σ : St} {H : Hp} {s : Shared} {Q : VK} {us : List Value} {vs : List V} (F : FnOk X.prog X.w X.K X.mg X.base CX k f fd ps sp) (hr : Room k X.A) (hb : Binds X.K fd ps ds) (hd : Vals dvs ds) (hx : Passes CX X E)
    (I : Inv X pins σ H s) (r : Vals vs us) (h : sp (vs ++ dvs) H Q E) : wpAny (model X.prog X.w) X.A (call (.ref f) us) (EP X pins σ Q) X.xe s := by
  have r2 : Vals (vs ++ dvs) (us ++ ds) := r.append hd
  have hl : (us ++ ds).length = ps.length := by rw [← r2.length]; exact F.len _ _ _ _ h
  refine wpAny_call (codeAny_mono (F.run X.A X.stack s H ⟨us, []⟩ (us ++ ds) (vs ++ dvs) Q E hr I.env0 (hb s us I.kIn hl) r2 h) fun r s' hq => ?_)
  cases r with
  | error e => exact hx pins σ H s e s' I hq
  | ok fl =>
    cases fl with
    | ret u => exact I.after hq
    | next => exact False.elim hq
    | brk => exact False.elim hq
    | cont => exact False.elim hq
theorem pe_call (F : FnOk X.prog X.w X.K X.mg X.base CX k f fd ps sp) (hr : Room k X.A) (hg : Gl X x) (hm : X.mg x = some (.ref f)) (hk : PySem.W.keepIn X.K (.ref f) = true) (hb : Binds X.K fd ps ds) (hd : Vals dvs ds) (hx : Passes CX X E)
    (ha : PA X (e :: es) t) (hdb : (x == ("__debug__" : Str)) = false := by decide) (he : starEach (e :: es) X.env = (false, eval e X.env) :: starEach es X.env := by rfl) (hpl : (backTo pos (starEach es X.env)).any (·.1) = false := by rfl) :
    PE X (.Call (.Name x p) (e :: es) [] pos) (tCall sp dvs E t) := by
  intro pins s σ H Q I h
  refine wpAny_Call_Name_kw (ld_glob I hg hm ?_ hdb)
  refine PySem.W.callWith_K (h₀ := X.base) I.ok.mod.kin hk (thn (ha pos pins s σ H _ I h) fun us s1 ⟨vs, H1, I1, r, q⟩ => ⟨I1.kIn, ?_⟩) he hpl
  exact run_fn F hr hb hd hx I1 r q
/-- o.m(e, ..) -/
theorem pe_meth {pl : Sem Bool} (he : PE X o ta) (c : Cls X.K C) (hm : Meth X.K C m f) (F : FnOk X.prog X.w X.K X.mg X.base CX k f fd ps sp) (hr : Room k X.A) (hb : Binds X.K fd ps ds) (hd : Vals dvs ds) (hx : Passes CX X E) (ha : PA X (e :: es) t)
    (hst : starEach (e :: es) X.env = (false, eval e X.env) :: starEach es X.env := by rfl) (hpl : (backTo pos (starEach es X.env)).any (·.1) = false := by rfl)
    (ht : eval (.Call (.Attribute o m apos) (e :: es) [] pos) X.env = (do
      let ov ← eval o X.env
      standAt apos.atName
      let (f, first) ← holding [ov] (getMethod ov m pl)
      callWith pos f first (backTo pos (starEach (e :: es) X.env)) (backToKw pos (keywordEach [] X.env))) := by rfl) :
    PE X (.Call (.Attribute o m apos) (e :: es) [] pos) (tMeth C m sp dvs E ta t) := by
  intro pins s σ H Q I h
  refine PySem.W.methodCall_KW (pl := pl) (thn (he pins s σ H _ I h) fun u s1 ⟨x, H1, I1, rx, a, dx, fs, ex, ea, l, q⟩ => ?_) ht
  subst ex
  obtain rfl : u = Value.ref a := rx
  refine getmeth_ok I1 ea c hm l ?_
  refine PySem.W.callWith_K (first := [.ref a]) (h₀ := X.base) I.ok.mod.kin hm.kp (thn (ha pos pins s1 σ H1 _ I1 q) fun us s2 ⟨vs, H2, I2, r, q2⟩ => ⟨I2.kIn, ?_⟩) hst hpl
  exact run_fn (us := .ref a :: us) (vs := .ref a :: vs) F hr hb hd hx I2 (.cons rfl r) q2
/-- o.m() -/
theorem pe_meth0 {pl : Sem Bool} (he : PE X o ta) (c : Cls X.K C) (hm : Meth X.K C m f) (F : FnOk X.prog X.w X.K X.mg X.base CX k f fd ps sp) (hr : Room k X.A) (hb : Binds X.K fd ps ds) (hd : Vals dvs ds) (hx : Passes CX X E)
    (ht : eval (.Call (.Attribute o m apos) [] [] pos) X.env = (do
      let ov ← eval o X.env
      standAt apos.atName
      let (f, first) ← holding [ov] (getMethod ov m pl)
      callWith pos f first (backTo pos (starEach [] X.env)) (backToKw pos (keywordEach [] X.env))) := by rfl) :
    PE X (.Call (.Attribute o m apos) [] [] pos) (tMeth C m sp dvs E ta tNil) := by
  intro pins s σ H Q I h
  refine PySem.W.methodCall_KW (pl := pl) (thn (he pins s σ H _ I h) fun u s1 ⟨x, H1, I1, rx, a, dx, fs, ex, ea, l, q⟩ => ?_) ht
  subst ex
  obtain rfl : u = Value.ref a := rx
  refine getmeth_ok I1 ea c hm l ?_
  exact PySem.W.callWith_K0 (first := [.ref a]) I1.kIn hm.kp (run_fn (us := [.ref a]) (vs := [.ref a]) F hr hb hd hx I1 (.cons rfl .nil) q)
/-- what a class must have to be made -/
structure Mk (K : PySem.W.Frag) (C f : Addr) : Prop where
  makes : PySem.W.makesIn K C = true
  init : PySem.W.findIn K (.ref C) "__init__" = some (some (.ref f))
  fn : PySem.W.isFn K (.ref f) = true
  kp : PySem.W.keepIn K (.ref C) = true
theorem run_make {pins : List (Addr × Obj)} {σ : St} {H : Hp} {s : Shared} {Q : VK} {us : List Value} {vs : List V} (M : Mk X.K C f) (F : FnOk X.prog X.w X.K X.mg X.base CX k f fd ps sp) (hr : Room (k + 1) X.A) (hb : Binds X.K fd ps ds) (hd : Vals dvs ds)
    (hx : Passes CX X E) (I : Inv X pins σ H s) (r : Vals vs us)
    (h : ∀ x dx, H x = none → H dx = none → dx ≠ x → sp (.ref x :: (vs ++ dvs)) (upd (upd H dx (.own x)) x (.ins C dx [])) (fun v H2 => v = .non ∧ Q (.ref x) H2) E) :
    wpAny (model X.prog X.w) X.A (call (.ref C) us) (EP X pins σ Q) X.xe s := by
  have hq := h (s.heap.objs.size + 1) s.heap.objs.size (I.hok.fresh (Nat.le_succ _)) (I.hok.fresh (Nat.le_refl _)) (Nat.ne_of_lt (Nat.lt_succ_self _))
  have I2 := Inv.made (C := C) I
  have r2 : Vals (V.ref (s.heap.objs.size + 1) :: (vs ++ dvs)) (Value.ref (s.heap.objs.size + 1) :: (us ++ ds)) := .cons rfl (r.append hd)
  have hl : (Value.ref (s.heap.objs.size + 1) :: us ++ ds).length = ps.length := by
    have e := r2.length
    rw [F.len _ _ _ _ hq] at e
    exact e.symm
  refine wpAny_call (make_map (f := f) I.kIn M.makes M.init (beq_iff_eq.mp M.fn) (codeAny_mono (F.run _ X.stack _ _ ⟨Value.ref (s.heap.objs.size + 1) :: us, []⟩ (Value.ref (s.heap.objs.size + 1) :: (us ++ ds)) _ _ E (hr.make C us [])
    (I2.env0.make C us []) (hb _ (Value.ref (s.heap.objs.size + 1) :: us) I2.kIn hl) r2 hq) fun r s' hq' => ?_))
  cases r with
  | error e => exact hx pins σ _ _ e s' I2 hq'
  | ok fl =>
    cases fl with
    | ret u =>
      obtain ⟨v, H', I3, rv, ev, q3⟩ := I2.after hq'
      subst ev
      exact ⟨rv, ⟨V.ref (s.heap.objs.size + 1), H', I3, rfl, q3⟩⟩
    | next => exact False.elim hq'
    | brk => exact False.elim hq'
    | cont => exact False.elim hq'
theorem pe_make (M : Mk X.K C f) (F : FnOk X.prog X.w X.K X.mg X.base CX k f fd ps sp) (hr : Room (k + 1) X.A) (hg : Gl X x) (hm : X.mg x = some (.ref C)) (hb : Binds X.K fd ps ds) (hd : Vals dvs ds) (hx : Passes CX X E)
    (ha : PA X (e :: es) t) (hdb : (x == ("__debug__" : Str)) = false := by decide) (he : starEach (e :: es) X.env = (false, eval e X.env) :: starEach es X.env := by rfl) (hpl : (backTo pos (starEach es X.env)).any (·.1) = false := by rfl) :
    PE X (.Call (.Name x p) (e :: es) [] pos) (tMake C sp dvs E t) := by
  intro pins s σ H Q I h
  refine wpAny_Call_Name_kw (ld_glob I hg hm ?_ hdb)
  refine PySem.W.callWith_K (h₀ := X.base) I.ok.mod.kin M.kp (thn (ha pos pins s σ H _ I h) fun us s1 ⟨vs, H1, I1, r, q⟩ => ⟨I1.kIn, ?_⟩) he hpl
  exact run_make M F hr hb hd hx I1 r q
theorem pe_make0 (M : Mk X.K C f) (F : FnOk X.prog X.w X.K X.mg X.base CX k f fd ps sp) (hr : Room (k + 1) X.A) (hg : Gl X x) (hm : X.mg x = some (.ref C)) (hb : Binds X.K fd ps ds) (hd : Vals dvs ds) (hx : Passes CX X E)
    (hdb : (x == ("__debug__" : Str)) = false := by decide) : PE X (.Call (.Name x p) [] [] pos) (tMake C sp dvs E tNil) := by
  intro pins s σ H Q I h
  refine wpAny_Call_Name_kw (ld_glob I hg hm ?_ hdb)
  exact PySem.W.callWith_K0 I.kIn M.kp (run_make (us := []) M F hr hb hd hx I .nil h)
end
section
variable {X : Cx} {CX : CXT} {k : Nat} {f C : Addr} {fd : FuncData} {ps ks : List Str} {sp : Sp} {E : XK} {x m : Str} {p pos apos kpos : Pos} {e o : Expr} {es : List Expr} {kws : List Keyword} {te ta : TE} {t tk : TA} {nm : Option Str}
variable {g : List Value → List Value → List Value} {gV : List V → List V → List V}
end
/-- names: the parameters first -/
structure FnScope (N P : List Str) (sc : Scope) : Prop where
  kind : sc.kind = .function
  co : sc.isCoroutine = false
  gen : sc.isGenerator = false
  nd : N.Nodup
  pre : N.take P.length = P
  par : ∀ x ∈ P, sc.names.lookup x = some .local ∨ sc.names.lookup x = some .cell
  nofree : ∀ y ∈ sc.names, y.2 ≠ .free
theorem bindL_out {kindOf : Str → Option NameKind} {x : Str} : ∀ {binds : List (Str × Value)} {m : Str → Option Value}, (∀ v, (x, v) ∉ binds) → bindL kindOf binds m x = m x
  | [], _, _ => rfl
  | (n, v) :: r, m, h => by
    unfold bindL
    rw [bindL_out fun w hw => h w (List.mem_cons_of_mem _ hw)]
    split
    · have : x ≠ n := by rintro rfl; exact h v List.mem_cons_self
      simp [this]
    · rfl
theorem bindC_out {kindOf : Str → Option NameKind} {x : Str} : ∀ {binds : List (Str × Value)} {m : Str → Option Value}, (∀ v, (x, v) ∉ binds) → bindC kindOf binds m x = m x
  | [], _, _ => rfl
  | (n, v) :: r, m, h => by
    unfold bindC
    rw [bindC_out fun w hw => h w (List.mem_cons_of_mem _ hw)]
    split
    · rfl
    · have : x ≠ n := by rintro rfl; exact h v List.mem_cons_self
      simp [this]
theorem bindL_get {kindOf : Str → Option NameKind} {x : Str} {v : Value} : ∀ {P : List Str} {vs : List Value} {i : Nat} {m : Str → Option Value}, P.Nodup → P[i]? = some x → vs[i]? = some v → kindOf x = some .local →
    bindL kindOf (P.zip vs) m x = some v
  | [], _, _, _, _, h, _, _ => by simp at h
  | _ :: _, [], _, _, _, _, h, _ => by simp at h
  | p :: P, w :: vs, 0, m, nd, h1, h2, hk => by
    simp at h1 h2; subst h1; subst h2
    show bindL kindOf ((p, w) :: P.zip vs) m p = _
    unfold bindL
    rw [bindL_out fun v hv => (List.nodup_cons.mp nd).1 (List.of_mem_zip hv).1, if_pos hk]
    simp
  | p :: P, w :: vs, i + 1, m, nd, h1, h2, hk => by
    show bindL kindOf ((p, w) :: P.zip vs) m x = _
    unfold bindL
    exact bindL_get (i := i) (List.nodup_cons.mp nd).2 (by simpa using h1) (by simpa using h2) hk
theorem bindC_get {kindOf : Str → Option NameKind} {x : Str} {v : Value} : ∀ {P : List Str} {vs : List Value} {i : Nat} {m : Str → Option Value}, P.Nodup → P[i]? = some x → vs[i]? = some v → kindOf x ≠ some .local →
    bindC kindOf (P.zip vs) m x = some v
  | [], _, _, _, _, h, _, _ => by simp at h
  | _ :: _, [], _, _, _, _, h, _ => by simp at h
  | p :: P, w :: vs, 0, m, nd, h1, h2, hk => by
    simp at h1 h2; subst h1; subst h2
    show bindC kindOf ((p, w) :: P.zip vs) m p = _
    unfold bindC
    rw [bindC_out fun v hv => (List.nodup_cons.mp nd).1 (List.of_mem_zip hv).1, if_neg hk]
    simp
  | p :: P, w :: vs, i + 1, m, nd, h1, h2, hk => by
    show bindC kindOf ((p, w) :: P.zip vs) m x = _
    unfold bindC
    exact bindC_get (i := i) (List.nodup_cons.mp nd).2 (by simpa using h1) (by simpa using h2) hk
/-- the names' values at the entry -/
def start (N : List Str) (vs : List V) : St := vs.map some ++ List.replicate (N.length - vs.length) none
/-- the context of a def's body, at its entry; an exception leaves the frame, then lies as CX says -/
def cxOf (CX : CXT) (P : Program) (w : World) (K : PySem.W.Frag) (mg : Str → Option Value) (base : Heap) (N : List Str) (qual : Str) (scope : Scope) (f : Addr) (cd : Value) (A : Around) (outer : List Env) (s : Shared) (H : Hp) (E : XK) : Cx where
  prog := P
  w := w
  K := K
  mg := mg
  base := base
  A := A.deeper (envOfC qual scope s.heap.objs.size f cd)
  N := N
  s_0 := s
  H_0 := H
  env := envOfC qual scope s.heap.objs.size f cd
  outer := outer
  stack := envOfC qual scope s.heap.objs.size f cd :: outer
  ex := []
  calm := true
  fn := fun _ => true
  pn := []
  xe := fun e s' => wpAny (model P w) (A.deeper (envOfC qual scope s.heap.objs.size f cd)) (leaving (envOfC qual scope s.heap.objs.size f cd) e) (fun _ s'' => CX outer H s E e s'') (fun e' s'' => CX outer H s E e' s'') s'
theorem cell_has {sc : Scope} {n : Nat} {x : Str} (h : sc.names.lookup x = some .cell) : ∃ c, (cellsFrom n sc.names []).lookup x = some c := by
  have q := PySem.W.cellsFrom_some sc.names n [] (.inl h)
  exact Option.isSome_iff_exists.mp q
theorem inv_start {CX : CXT} {P : Program} {w : World} {K : PySem.W.Frag} {mg : Str → Option Value} {base : Heap} {N ps : List Str} {qual : Str} {scope : Scope} {f : Addr} {cd : Value} {A : Around} {outer : List Env} {s s1 : Shared} {H : Hp} {E : XK} {us : List Value} {vs : List V}
    (S : FnScope N ps scope) (hd : A.handled = none) (e0 : Env0 P w K mg base A outer s H) (hl : vs.length = ps.length) (r : Vals vs us)
    (x : InCallC s s.heap.objs.size (bindL (envOfC qual scope s.heap.objs.size f cd).kindOf (ps.zip us) fun _ => none) (cellsFrom (s.heap.objs.size + 1) scope.names []) (bindC (envOfC qual scope s.heap.objs.size f cd).kindOf (ps.zip us) fun _ => none) s1) :
    Inv (cxOf CX P w K mg base N qual scope f cd A outer s H E) [] (start N vs) H s1 := by
  have hpl : ps.length ≤ N.length := by have := congrArg List.length S.pre; rw [List.length_take] at this; omega
  obtain ⟨h1, tk, rfl, hk⟩ := x.done
  have noA : ∀ b : Addr, b ∉ (cxOf CX P w K mg base N qual scope f cd A outer s H E).ex := fun b z => absurd (show b ∈ ([] : List Addr) from z) (by simp)
  refine ⟨⟨e0.mod, S.kind, rfl, rfl, Nat.le_refl _, fun y z c h1 h2 => ?_, fun y hy => ?_, fun y c _ h => ?_, fun _ => hd, Around.frames_deeper e0.frames, .inr ⟨rfl, rfl⟩, fun b z => absurd z (noA b), e0.bs, e0.bsz, fun b _ _ => noA b, fun b z => absurd z (noA b), e0.funs, e0.frf⟩,
    rfl, e0.bare, Un.kept hk, ⟨_, x.toInCall.ns, fun i y v h1 h2 h3 => ?_⟩, fun y c h => ⟨_, x.cell y c h⟩, e0.hok.fresh (Nat.le_refl _), fun y c h => ?_, fun p hp => absurd (show p ∈ ([] : List (Addr × Obj)) from hp) (by simp), e0.hok.kept hk, ?_⟩
  · exact name_of_addr x.apart (PySem.mem_of_lookup h1) (PySem.mem_of_lookup h2)
  · have hy : scope.names.lookup y = some .cell ∨ scope.names.lookup y = some .free := hy
    rcases hy with hy | hy
    · exact cell_has hy
    · exact absurd rfl (S.nofree _ (PySem.mem_of_lookup hy))
  · exact Nat.le_of_lt (x.above y c (PySem.mem_of_lookup h))
  · have hi : i < vs.length := by
      unfold start at h2
      by_cases hi : i < vs.length
      · exact hi
      · rw [List.getElem?_append_right (by simpa using hi)] at h2
        rw [List.getElem?_replicate] at h2
        split at h2 <;> cases h2
    have ha : vs[i]? = some v := by
      unfold start at h2
      rw [List.getElem?_append_left (by simpa using hi), List.getElem?_map] at h2
      cases e : vs[i]? with
      | none => rw [e] at h2; cases h2
      | some a => rw [e] at h2; cases h2; rfl
    obtain ⟨u, hu, rv⟩ := r.get ha
    have hp : ps[i]? = some y := by
      rw [← S.pre, List.getElem?_take_of_lt (by omega)]; exact h1
    have ndP : ps.Nodup := by rw [← S.pre]; exact S.nd.sublist (List.take_sublist _ _)
    refine ⟨u, rv, ?_⟩
    rcases S.par y (List.mem_of_getElem? hp) with k | k
    · exact .inl ⟨k, bindL_get ndP hp hu k⟩
    · obtain ⟨c, e⟩ := cell_has (n := s.heap.objs.size + 1) k
      refine .inr ⟨.inl k, c, e, ?_⟩
      have q := x.cell y c e
      rw [bindC_get ndP hp hu (by show scope.names.lookup y ≠ _; rw [k]; decide)] at q
      exact q
  · exact e0.hok.fresh (Nat.le_of_lt (x.above y c (PySem.mem_of_lookup h)))
  · unfold start
    show _ = N.length
    rw [List.length_append, List.length_map, List.length_replicate]
    omega
/-- THE RULE: a def (or a method) of the text, by its body. The body's reading t is chosen for each entry; it is run at the parameters' values -/
theorem fn_of {CX : CXT} {P : Program} {w : World} {K : PySem.W.Frag} {mg : Str → Option Value} {base : Heap} {k : Nat} {f : Addr} {name qual : Str} {params : Arguments} {body : List Stmt} {scope : Scope} {dV kV doc pm cdv ct oc : Value} {an od : Option Addr}
    {osl : Array (Option Value)} {N ps : List Str} {sp : Sp} (lk : K.lookup f = some ⟨oc, od, .func (PySem.W.fnOf name qual params body scope dV kV doc pm an cdv ct), osl⟩) (hcd : PySem.W.codeIn K cdv qual = true) (S : FnScope N ps scope)
    (len : ∀ vs H Q E, sp vs H Q E → vs.length = ps.length)
    (hbody : ∀ (A : Around) (outer : List Env) (s : Shared) (H : Hp) (vs : List V) (Q : VK) (E : XK), Room k (A.deeper (envOfC qual scope s.heap.objs.size f cdv)) → sp vs H Q E →
      ∃ t, PSs (cxOf CX P w K mg base N qual scope f cdv A outer s H E) body t ∧ t { nx := fun _ H' => Q .non H', rt := Q } (start N vs) H) :
    FnOk P w K mg base CX (k + 1) f (PySem.W.fnOf name qual params body scope dV kV doc pm an cdv ct) ps sp := by
  refine ⟨len, fun A outer s H args us vs Q E hr e0 hb r hsp => ?_⟩
  have hl := len _ _ _ _ hsp
  have KX : K.In s.heap := e0.mod.kin.keeps fun b o e => (e0.bs b o e).1
  have lim : s.heap.NoLimit := e0.mod.nolimit.keeps fun b o e => (e0.bs b o e).1
  have hkind : ∀ y ∈ ps.zip us, scope.names.lookup y.1 = some .local ∨ (scope.names.lookup y.1 = some .cell ∧ ((cellsFrom (s.heap.objs.size + 1) scope.names []).lookup y.1).isSome = true) := fun ⟨n, v⟩ hy => by
    rcases S.par n (List.of_mem_zip hy).1 with q | q
    · exact .inl q
    · exact .inr ⟨q, PySem.W.cellsFrom_some _ _ _ (.inl q)⟩
  refine codeAny_call_function hr.depth (KX _ _ lk) rfl S.co S.gen rfl (PySem.W.codeRec_of KX hcd) (hb _ _ _ _ ?_)
  refine wpAny_newFunctionEnv_cells S.kind hkind fun env he s1 x => ?_
  subst he
  refine ⟨lim.keeps x.toInCall.keep, codeAny_func ?_⟩
  obtain ⟨t, ht, hq⟩ := hbody A outer s H vs Q E (hr.deeper _) hsp
  have I : Inv (cxOf CX P w K mg base N qual scope f cdv A outer s H E) [] (start N vs) H s1 := inv_start S hr.hd e0 hl r x
  refine wpAny_mono (ht [] s1 (start N vs) H _ I hq) (fun fl s' hs => ?_) fun e s' hs => hs
  have fin : ∀ {σ' : St} {H' : Hp} {v : V} {u : Value}, Inv (cxOf CX P w K mg base N qual scope f cdv A outer s H E) [] σ' H' s' → RelV v u → Q v H' → CE outer P w H s Q u s' :=
    fun {σ' H' v u} J rv q => ⟨v, H', J.os, J.bare, J.base, J.hok, rv, q⟩
  cases fl with
  | ret u =>
    obtain ⟨v, σ', H', J, rv, q⟩ := hs
    exact fin J rv q
  | next =>
    obtain ⟨σ', H', J, q⟩ := hs
    exact fin (v := V.non) (u := Value.none) J rfl q
  | brk =>
    obtain ⟨_, _, _, q⟩ := hs
    exact False.elim q
  | cont =>
    obtain ⟨_, _, _, q⟩ := hs
    exact False.elim q
end L2
namespace L2
open PySem PySem.Spec PyProof.Rows
section
variable {X : Cx} {x : Str} {p pos : Pos} {e : Expr} {es : List Expr} {t : TA} {id T : String} {r : List V → Hp → VK → Prop}
def tCB (r : List V → Hp → VK → Prop) (t : TA) : TE := fun σ H Q => t σ H fun vs H1 => r vs H1 Q
/-- f(e, ..), f a built-in function -/
theorem pe_callB (hc : CallR X (.builtin id) r) (hg : Gl X x) (hm : X.mg x = none) (hv : bootBuiltins x = some (.builtin id)) (ha : PA X (e :: es) t) (hn : x ≠ "__name__" := by decide) (hdb : (x == ("__debug__" : Str)) = false := by decide)
    (he : starEach (e :: es) X.env = (false, eval e X.env) :: starEach es X.env := by rfl) (hpl : (backTo pos (starEach es X.env)).any (·.1) = false := by rfl) : PE X (.Call (.Name x p) (e :: es) [] pos) (tCB r t) := by
  intro pins s σ H Q I h
  refine wpAny_Call_Name_kw (ld_blt I hg hm hv ?_ hn hdb)
  exact PyProof.Rows.callWith_builtin1 (thn (ha pos pins s σ H _ I h) fun us s1 ⟨vs, H1, I1, r1, q1⟩ => hc pins s1 σ H1 vs us Q I1 r1 q1) he hpl
/-- T(e, ..), T a built-in type -/
theorem pe_callTy (hc : CallR X (.type T) r) (hg : Gl X x) (hm : X.mg x = none) (hv : bootBuiltins x = some (.type T)) (ha : PA X (e :: es) t) (hn : x ≠ "__name__" := by decide) (hdb : (x == ("__debug__" : Str)) = false := by decide)
    (he : starEach (e :: es) X.env = (false, eval e X.env) :: starEach es X.env := by rfl) (hpl : (backTo pos (starEach es X.env)).any (·.1) = false := by rfl) : PE X (.Call (.Name x p) (e :: es) [] pos) (tCB r t) := by
  intro pins s σ H Q I h
  refine wpAny_Call_Name_kw (ld_blt I hg hm hv ?_ hn hdb)
  exact PyProof.Rows.callWith_type1 (thn (ha pos pins s σ H _ I h) fun us s1 ⟨vs, H1, I1, r1, q1⟩ => hc pins s1 σ H1 vs us Q I1 r1 q1) he hpl
end
end L2
namespace HT
open PySem PyProof.Rows
section
open PySem.SeqAt
open PySem.AutoSeq1 (wpAny_loadPart')
open PySem.MeetsSeq PySem.MeetsSeq2 PySem.MeetsSeq3
end
section
variable {prog : Program} {w : World} {A : Around} {E : Value → Shared → Prop} {s : Shared}
/-- a slice's bound as a place among n (d where it is left out) -/
def sIx (n d : Nat) : Option Int → Nat
  | none => d
  | some v => if v < 0 then (v + (n : Int)).toNat else min v.toNat n
theorem sIx_nat (n d k : Nat) : sIx n d (some (k : Int)) = min k n := by
  show (if (k : Int) < 0 then ((k : Int) + (n : Int)).toNat else min (k : Int).toNat n) = min k n
  rw [if_neg (by omega), Int.toNat_natCast]
end
end HT
namespace L2
open PySem PySem.Spec PyProof.Rows
abbrev TO := St → Hp → (Option Int → Hp → Prop) → Prop
/-- a slice's part (left out, or an int) -/
def PO (X : Cx) (e : Option Expr) (t : TO) : Prop :=
  ∀ (pins : List (Addr × Obj)) (s : Shared) (σ : St) (H : Hp) (Q : Option Int → Hp → Prop), Inv X pins σ H s → t σ H Q →
    wpAny (model X.prog X.w) X.A (evalPart e X.env) (fun u s' => ∃ o H', Inv X pins σ H' s' ∧ IsPart u o ∧ Q o H') X.xe s
def tPart (t : TE) : TO := fun σ H Q => t σ H fun x H1 => ∃ i, x = .int i ∧ Q (some i) H1
section
variable {X : Cx} {e : Expr} {te : TE} {lo hi : Option Expr} {tl th : TO} {pos p2 : Pos}
theorem po_some (h : PE X e te) : PO X (some e) (tPart te) := by
  intro pins s σ H Q I hw
  rw [evalPart_some]
  refine thn (h pins s σ H _ I hw) fun u s1 ⟨x, H1, I1, r1, q1⟩ => ?_
  obtain ⟨i, rfl, q⟩ := q1
  obtain ⟨t, rfl⟩ := r1
  exact ⟨some i, H1, I1, .int i t, q⟩
/-- what a slice of a value is, by values: the slice object stands at sl -/
def SlR (X : Cx) (r : V → Option Int → Option Int → Hp → VK → Prop) : Prop :=
  ∀ (pins : List (Addr × Obj)) (s : Shared) (σ : St) (H : Hp) (x : V) (v vl vu : Value) (lo hi : Option Int) (sl : Addr) (Q : VK), Inv X pins σ H s → RelV x v → s.heap.IsSliceOf sl vl vu .none → IsPart vl lo → IsPart vu hi → r x lo hi H Q →
    ∃ T id, typeLookup (.type T) "__getitem__" = pure (some (.builtin id)) ∧ s.TypeIs v T ∧ wpAny (model X.prog X.w) X.A (getItem v (.ref sl)) (EP X pins σ Q) X.xe s
def tSl (r : V → Option Int → Option Int → Hp → VK → Prop) (te : TE) (tl th : TO) : TE := fun σ H Q => te σ H fun x H1 => tl σ H1 fun l H2 => th σ H2 fun u H3 => r x l u H3 Q
/-- a[lo:hi], any a -/
theorem pe_slice {r : V → Option Int → Option Int → Hp → VK → Prop} (hr : SlR X r) (he : PE X e te) (hl : PO X lo tl) (hu : PO X hi th) : PE X (.Subscript e (.Slice lo hi none p2) pos) (tSl r te tl th) := by
  intro pins s σ H Q I h
  refine Subscript_ (thn (he pins s σ H _ I h) fun v s1 ⟨x, H1, I1, r1, q1⟩ => ?_)
  refine wpAny_Slice (thn (hl pins s1 σ H1 _ I1 q1) fun vl s2 ⟨l, H2, I2, pl, q2⟩ => thn (hu pins s2 σ H2 _ I2 q2) fun vu s3 ⟨u, H3, I3, pu, q3⟩ => ?_)
  rw [evalPart_none]
  refine wpAny_pure ?_
  have I4 : Inv X pins σ H3 { s3 with heap := s3.heap.push { cls := .type "slice", data := .fields #[vl, vu, .none] } } := I3.kept (t' := s3.toks) fun b ob q => Heap.get?_push_of_some _ q
  obtain ⟨T, id, hT, ht, hg⟩ := hr pins { s3 with heap := s3.heap.push { cls := .type "slice", data := .fields #[vl, vu, .none] } } σ H3 x v vl vu l u s3.heap.objs.size Q I4 r1 (Heap.IsSliceOf.new ..) pl pu q3
  show wpAny (model X.prog X.w) X.A (subscriptTail e (.Slice lo hi none p2) v (.ref s3.heap.objs.size)) (EP X pins σ Q) X.xe { s3 with heap := s3.heap.push { cls := .type "slice", data := .fields #[vl, vu, .none] } }
  exact tail_any (ops := [.ref s3.heap.objs.size, v]) ht hT hg (by with_unfolding_all rfl)
/-- the items of xs[lo:hi] -/
def cutV (xs : List V) (lo hi : Option Int) : List V := (xs.drop (HT.sIx xs.length 0 lo)).take (HT.sIx xs.length xs.length hi - HT.sIx xs.length 0 lo)
theorem cutV_length (xs : List V) (lo hi : Option Int) : (cutV xs lo hi).length ≤ xs.length := by
  unfold cutV
  rw [List.length_take, List.length_drop]
  omega
end
end L2
namespace L2
open PySem PySem.Spec PyProof.Rows
/-- the place that an index of any sign means -/
def ixN (n : Nat) (i : Int) : Option Nat := if 0 ≤ i then (if i < n then some i.toNat else none) else if -(n : Int) ≤ i then some (i + n).toNat else none
def atI {α : Type} (xs : List α) (i : Int) : Option α := (ixN xs.length i).bind fun j => xs[j]?
theorem ixN_seq {n : Nat} {i : Int} {j : Nat} (h : ixN n i = some j) : seqIndex? i n = some j ∧ j < n ∧ -(n : Int) ≤ i ∧ i < n := by
  unfold ixN at h
  by_cases h0 : 0 ≤ i
  · rw [if_pos h0] at h
    by_cases h1 : i < n
    · rw [if_pos h1] at h
      have e : i.toNat = j := Option.some.inj h
      exact ⟨by rw [seqIndex_of h0 h1, e], by omega, by omega, h1⟩
    · rw [if_neg h1] at h; cases h
  · rw [if_neg h0] at h
    by_cases h1 : -(n : Int) ≤ i
    · rw [if_pos h1] at h
      have e : (i + n).toNat = j := Option.some.inj h
      exact ⟨by rw [seqIndex_neg (by omega) h1, e], by omega, h1, by omega⟩
    · rw [if_neg h1] at h; cases h
theorem atI_get {α : Type} {xs : List α} {i : Int} {v : α} (h : atI xs i = some v) : ∃ j, seqIndex? i xs.length = some j ∧ xs[j]? = some v ∧ j < xs.length ∧ -(xs.length : Int) ≤ i ∧ i < xs.length := by
  unfold atI at h
  cases e : ixN xs.length i with
  | none => rw [e] at h; cases h
  | some j =>
    rw [e] at h
    obtain ⟨h1, h2, h3, h4⟩ := ixN_seq e
    exact ⟨j, h1, h, h2, h3, h4⟩
theorem atI_nat {α : Type} {xs : List α} {j : Nat} {v : α} (h : xs[j]? = some v) : atI xs (j : Int) = some v := by
  have hj : j < xs.length := (List.getElem?_eq_some_iff.mp h).1
  have e : ixN xs.length (j : Int) = some j := by
    unfold ixN
    rw [if_pos (by omega), if_pos (by omega)]; simp
  unfold atI; rw [e]; exact h
/-- what stands as an index of a plain subscript -/
def PlainIx (b : Expr) : Prop := ∀ o i, subscripted b false o i = operate [o, i] (getItem o i)
/-- a subscript by values -/
def IxR (X : Cx) (r : R2) : Prop :=
  ∀ (value slice : Expr) (pins : List (Addr × Obj)) (s : Shared) (σ : St) (H : Hp) (x y : V) (v u : Value) (Q : VK), Inv X pins σ H s → RelV x v → RelV y u → r x y H Q →
    subscripted slice false v u = operate [v, u] (getItem v u) → wpAny (model X.prog X.w) X.A (subscriptTail value slice v u) (EP X pins σ Q) X.xe s
/-- a call of a builtin's method by values: the receiver, the arguments -/
def MtR (X : Cx) (id : String) (r : V → List V → Hp → VK → Prop) : Prop :=
  ∀ (pins : List (Addr × Obj)) (s : Shared) (σ : St) (H : Hp) (x : V) (xs : List V) (v : Value) (us : List Value) (Q : VK), Inv X pins σ H s → RelV x v → Vals xs us → r x xs H Q →
    wpAny (model X.prog X.w) X.A (call (.builtin id) (v :: us)) (EP X pins σ Q) X.xe s
section
variable {X : Cx} {a b : Expr} {ta tb : TE} {pos : Pos}
/-- a[b] -/
theorem pe_ix {r : R2} (hr : IxR X r) (ha : PE X a ta) (hb : PE X b tb) (hs : PlainIx b) : PE X (.Subscript a b pos) (tOp r ta tb) := by
  intro pins s σ H Q I h
  exact Subscript_ (binT ha hb I h fun v u s2 x y H2 I2 rx ry q => hr a b pins s2 σ H2 x y v u Q I2 rx ry q (hs _ _))
def rIxL (K : PySem.W.Frag) : R2 := fun x y H Q => ∃ p xs i v, x = .ref p ∧ y = .int i ∧ SqL K H p xs ∧ atI xs i = some v ∧ Q v H
def rIxT (K : PySem.W.Frag) : R2 := fun x y H Q => ∃ p xs i v, x = .ref p ∧ y = .int i ∧ SqT K H p xs ∧ atI xs i = some v ∧ Q v H
theorem ix_list : IxR X (rIxL X.K) := by
  intro value slice pins s σ H x y v u Q I rx ry h hs
  obtain ⟨p, xs, i, z, rfl, rfl, hq, he, q⟩ := h
  cases rx
  obtain ⟨t, rfl⟩ := ry
  obtain ⟨its, r, pl, hz⟩ := I.list hq
  obtain ⟨j, h1, h2, h3, h4, h5⟩ := atI_get he
  obtain ⟨w, ew, rw'⟩ := r.get h2
  have hl := r.length
  have hn := line63
  have fin : EP X pins σ Q w s := ⟨z, H, I, rw', q⟩
  by_cases h0 : 0 ≤ i
  · have hj : i.toNat = j := by
      rw [seqIndex_of h0 h5] at h1
      exact Option.some.inj h1
    exact item_listR pl.isList h0 (by omega) (by rw [hj]; simpa using ew) fin hs
  · have hj : (i + (its.toArray.size : Int)).toNat = j := by
      rw [seqIndex_neg (by omega) h4] at h1
      rw [List.size_toArray, ← hl]
      exact Option.some.inj h1
    exact subscriptTail_builtinR (x := w) pl.isList.typeIs slot_list_getitem.lookup
      (wpAny_getItem_list_neg (Q := fun r s' => r = w ∧ EP X pins σ Q r s') pl.isList (by omega) (by rw [List.size_toArray] <;> omega) (by omega) (by rw [hj]; simpa using ew) ⟨rfl, fin⟩) hs
theorem ix_tup : IxR X (rIxT X.K) := by
  intro value slice pins s σ H x y v u Q I rx ry h hs
  obtain ⟨p, xs, i, z, rfl, rfl, hq, he, q⟩ := h
  cases rx
  obtain ⟨t, rfl⟩ := ry
  obtain ⟨its, r, pl, hz⟩ := I.tuple hq
  obtain ⟨j, h1, h2, h3, h4, h5⟩ := atI_get he
  obtain ⟨w, ew, rw'⟩ := r.get h2
  have hl := r.length
  have hn := line63
  have fin : EP X pins σ Q w s := ⟨z, H, I, rw', q⟩
  exact subscriptTail_builtinR (x := w) pl.typeIs slot_tuple_getitem.lookup
    (getItem_tuple (j := j) (Q := fun r s' => r = w ∧ EP X pins σ Q r s') pl (by omega) (by omega) (by rw [List.size_toArray, ← hl]; exact h1) (by simpa using ew) ⟨rfl, fin⟩) hs
theorem slice_bounds (lo hi : Option Int) (n : Nat) : (sliceBounds lo hi none n).1 = ((HT.sIx n 0 lo : Nat) : Int) ∧ (sliceBounds lo hi none n).2.1 = ((HT.sIx n n hi : Nat) : Int) ∧ (sliceBounds lo hi none n).2.2 = 1 := by
  refine ⟨?_, ?_, rfl⟩
  · cases lo with
    | none => simp [sliceBounds, HT.sIx]
    | some i =>
      simp only [sliceBounds, HT.sIx, Option.getD_none, show (1 : Int) > 0 by decide, if_true]
      by_cases h : i < 0
      · simp only [h, if_true] <;> omega
      · simp only [h, if_false] <;> omega
  · cases hi with
    | none => simp [sliceBounds, HT.sIx]
    | some i =>
      simp only [sliceBounds, HT.sIx, Option.getD_none, show (1 : Int) > 0 by decide, if_true]
      by_cases h : i < 0
      · simp only [h, if_true] <;> omega
      · simp only [h, if_false] <;> omega
theorem slicePick_cut (its : List Value) (lo hi : Option Int) : slicePick its.toArray lo hi none = ((its.drop (HT.sIx its.length 0 lo)).take (HT.sIx its.length its.length hi - HT.sIx its.length 0 lo)).toArray := by
  obtain ⟨h1, h2, h3⟩ := slice_bounds lo hi its.toArray.size
  unfold slicePick
  rw [h1, h2, h3]
  simp only [sliceRange_one, pick_run, List.size_toArray] <;> rfl
/-- xs[lo:hi] of a list: a new list -/
def rSlL (K : PySem.W.Frag) : V → Option Int → Option Int → Hp → VK → Prop := fun x lo hi H Q => ∃ a xs, x = .ref a ∧ SqL K H a xs ∧ ∀ p, H p = none → Q (.ref p) (upd H p (.lst (cutV xs lo hi)))
theorem sl_list : SlR X (rSlL X.K) := by
  intro pins s σ H x v vl vu lo hi sl Q I rx hs pl pu h
  obtain ⟨a, xs, rfl, hx, q⟩ := h
  cases rx
  obtain ⟨its, r, ht, hz⟩ := I.list hx
  have hlen := r.length
  refine ⟨"list", _, slot_list_getitem.lookup, ht.isList.typeIs, ?_⟩
  refine wpAny_getItem_list_slice ht.isList hs pl pu .none (by simp) ?_ (by rw [List.size_toArray] <;> omega)
  rw [slicePick_cut, ← hlen]
  refine ⟨.ref s.heap.objs.size, _, I.laid (t' := s.toks) (o := .lst (cutV xs lo hi)) (fun b ob q => Heap.get?_push_of_some _ q) (Nat.le_refl _) ?_, rfl, q _ (I.hok.fresh (Nat.le_refl _))⟩
  exact ⟨Nat.le_trans (cutV_length xs lo hi) hz, _, 0, (r.drop (HT.sIx xs.length 0 lo)).take (HT.sIx xs.length xs.length hi - HT.sIx xs.length 0 lo), Heap.get?_push_size _ rfl⟩
theorem call_len_seq : CallR X (.builtin "len") (fun xs H Q => ∃ p ys, xs = [.ref p] ∧ (SqL X.K H p ys ∨ SqT X.K H p ys) ∧ Q (.int ys.length) H) := by
  intro pins s σ H xs us Q I r h
  obtain ⟨p, ys, rfl, hq, q⟩ := h
  obtain ⟨u, rfl, rx⟩ := vals1 r
  cases rx
  have hn := line63
  rcases hq with hq | hq
  · obtain ⟨its, r', pl, hz⟩ := I.list hq
    have hlen := r'.length
    exact Calls.call_len_list pl.isList (by simp only [List.size_toArray] <;> omega) ⟨.int ys.length, H, I.tok _, ⟨s.toks + 1, by rw [List.size_toArray, hlen]⟩, q⟩
  · obtain ⟨its, r', pl, hz⟩ := I.tuple hq
    have hlen := r'.length
    exact len_tuple pl (by simp only [List.size_toArray] <;> omega) ⟨.int ys.length, H, I.tok _, ⟨s.toks + 1, by rw [List.size_toArray, hlen]⟩, q⟩
theorem call_list_of : CallR X (.type "list") (fun xs H Q => ∃ p ys, xs = [.ref p] ∧ (SqL X.K H p ys ∨ SqT X.K H p ys) ∧ ∀ l, H l = none → Q (.ref l) (upd H l (.lst ys))) := by
  intro pins s σ H xs us Q I r h
  obtain ⟨p, ys, rfl, hq, q⟩ := h
  obtain ⟨u, rfl, rx⟩ := vals1 r
  cases rx
  have fin : ∀ (its : List Value), Vals ys its → ys.length ≤ sizeLine → ∀ (h' : Heap) (c' : Nat), (∀ b o', s.heap.get? b = some o' → h'.get? b = some o') →
      h'.get? s.heap.objs.size = some { cls := .type "list", dict := none, data := .seq its.toArray c', slots := #[] } → EP X pins σ Q (.ref s.heap.objs.size) { s with heap := h' } := fun its r' hz h' c' kp e =>
    ⟨.ref s.heap.objs.size, _, I.laid (t' := s.toks) kp (Nat.le_refl _) (show ObjOk X.prog X.w _ h' _ (.lst ys) from ⟨hz, its, c', r', e⟩), rfl, q _ (I.hok.fresh (Nat.le_refl _))⟩
  rcases hq with hq | hq
  · obtain ⟨its, r', pl, hz⟩ := I.list hq
    have hlen := r'.length
    obtain ⟨o, ho, hc, n, hd⟩ := pl.isList
    exact call_list_seq p (.inl rfl) ho hc hd (fun h' c' kp e => fin its r' hz h' c' kp e) (by simp only [List.size_toArray] <;> omega)
  · obtain ⟨its, r', pl, hz⟩ := I.tuple hq
    have hlen := r'.length
    obtain ⟨o, ho, hc, n, hd⟩ := pl
    exact call_list_seq p (.inr rfl) ho hc hd (fun h' c' kp e => fin its r' hz h' c' kp e) (by simp only [List.size_toArray] <;> omega)
/-- the value is of that builtin type -/
def tyV (K : PySem.W.Frag) (T : String) (x : V) (H : Hp) : Prop := match x with
  | .str _ => T = "str"
  | .int _ => T = "int"
  | .ref p => (T = "list" ∧ ∃ xs, SqL K H p xs) ∨ (T = "tuple" ∧ ∃ o, K.lookup p = some o ∧ o.cls = .type "tuple" ∧ o.dict = none) ∨
      (T = "dict" ∧ ((∃ kvs, H p = some (.dK kvs)) ∨ ∃ kvs, H p = some (.dT kvs))) ∨ (T = "set" ∧ ∃ S n, H p = some (.set S n))
  | _ => False
theorem tyV_is {pins : List (Addr × Obj)} {σ : St} {H : Hp} {s : Shared} {T : String} {x : V} {v : Value} (I : Inv X pins σ H s) (r : RelV x v) (ty : tyV X.K T x H) :
    s.TypeIs v T ∧ ∀ a, v = .ref a → ∃ ob, s.heap.get? a = some ob ∧ ob.dict = none := by
  cases x with
  | str z =>
    obtain ⟨t, rfl⟩ := r
    cases (show T = "str" from ty)
    exact ⟨typeIs_str s z t, fun _ e => nomatch e⟩
  | int i =>
    obtain ⟨t, rfl⟩ := r
    cases (show T = "int" from ty)
    exact ⟨typeIs_int s i t, fun _ e => nomatch e⟩
  | ref p =>
    cases r
    rcases ty with ⟨rfl, xs, hq⟩ | ⟨rfl, o, hk, hc, hd⟩ | ⟨rfl, hk⟩ | ⟨rfl, S, n, hk⟩
    · obtain ⟨its, _, pl, _⟩ := I.list hq
      refine ⟨pl.isList.typeIs, fun a e => ?_⟩
      cases e
      obtain ⟨o, n, e, c, hd, _⟩ := pl
      exact ⟨o, e, hd⟩
    · refine ⟨⟨o, I.kIn p o hk, hc⟩, fun a e => ?_⟩
      cases e
      exact ⟨o, I.kIn _ o hk, hd⟩
    · have z : ∃ o, s.heap.get? p = some o ∧ o.ExactDict := by
        rcases hk with ⟨kvs, hk⟩ | ⟨kvs, hk⟩
        · obtain ⟨_, _, _, _, o, _, _, e, ex, _⟩ := I.hok p _ hk
          exact ⟨o, e, ex⟩
        · obtain ⟨_, _, _, _, o, _, _, e, ex, _⟩ := I.hok p _ hk
          exact ⟨o, e, ex⟩
      obtain ⟨o, e, ex⟩ := z
      refine ⟨⟨o, e, ex.1⟩, fun a e2 => ?_⟩
      cases e2
      exact ⟨o, e, ex.2.1⟩
    · obtain ⟨o, _, _, _, e, ex, _⟩ := I.hok p _ hk
      refine ⟨⟨o, e, ex.1⟩, fun a e2 => ?_⟩
      cases e2
      exact ⟨o, e, ex.2.1⟩
  | _ => exact False.elim ty
def tBM (K : PySem.W.Frag) (T : String) (r : V → List V → Hp → VK → Prop) (to : TE) (t : TA) : TE := fun σ H Q => to σ H fun x H1 => tyV K T x H1 ∧ t σ H1 fun xs H2 => r x xs H2 Q
variable {o e : Expr} {es : List Expr} {to : TE} {t : TA} {name : Str} {apos cpos : Pos} {T id : String} {r : V → List V → Hp → VK → Prop}
theorem pe_bm (pa : PlainAttrs T) (slot : Slot T name id) (hty : typeOf (.builtin id) = pure (.type "method_descriptor")) (hm : MtR X id r) (ho : PE X o to) (ha : PA X (e :: es) t)
    (hbase : attributeBase o name X.env (eval o X.env) = eval o X.env := by rfl)
    (hfew : ((backTo cpos (starEach (e :: es) X.env)).all (fun x => !x.1) && (backToKw cpos (keywordEach [] X.env)).all (fun x => x.1.isSome)
      && decide ((e :: es).length + ([] : List Keyword).length + (if ([] : List Keyword).isEmpty then 0 else 1) < 30)) = true := by rfl)
    (hline : (apos.endLine == cpos.line) = true := by rfl) (hs : starEach (e :: es) X.env = (false, eval e X.env) :: starEach es X.env := by rfl) (hplain : (backTo cpos (starEach es X.env)).any (·.1) = false := by rfl) :
    PE X (.Call (.Attribute o name apos) (e :: es) [] cpos) (tBM X.K T r to t) := by
  intro pins s σ H Q I h
  refine wpAny_Call_method_late hbase hfew hline rfl (thn (ho pins s σ H _ I h) fun v s1 ⟨x, H1, I1, r1, ty, q1⟩ => ?_)
  obtain ⟨h1, h2⟩ := tyV_is I1 r1 ty
  refine ⟨T, id, pa, slot, hty, h1, h2, ?_⟩
  have hA := ha cpos pins s1 σ H1 _ I1 q1
  rw [hs] at hA ⊢
  refine Calls.callWith_builtin (by show (false || (backTo cpos (starEach es X.env)).any (·.1)) = false; rw [hplain] <;> rfl) (Calls.evalArgs_plain ?_)
  exact thn hA fun us s2 ⟨vs, H2, I2, r2, q2⟩ => hm pins s2 σ H2 x vs v us Q I2 r1 r2 q2
end
end L2
namespace L2
open PySem PySem.Spec PyProof.Rows
def MtM (X : Cx) (id : String) (r : V → List V → Hp → VK → Prop) : Prop :=
  ∀ (pins : List (Addr × Obj)) (s : Shared) (σ : St) (H : Hp) (x : V) (xs : List V) (v : Value) (us : List Value) (Q : VK), Inv X pins σ H s → RelV x v → Vals xs us → r x xs H Q →
    wpAny (model X.prog X.w) X.A (call (.builtin id) (v :: us)) (EP X pins σ Q) X.xe s
theorem Vals.one : ∀ {x : V} {us : List Value}, Vals [x] us → ∃ u, us = [u] ∧ RelV x u
  | _, _, .cons r .nil => ⟨_, rfl, r⟩
section
variable {X : Cx} {pins : List (Addr × Obj)} {σ : St} {H : Hp} {s : Shared} {l b : Addr} {xs ys zs : List V}
theorem Inv.lset {its its' : List Value} {n : Nat} {f : Array Value → Array Value} {t' : Nat} (I : Inv X pins σ H s) (hH : H l = some (.lst xs))
    (e : s.heap.get? l = some { cls := .type "list", data := .seq its.toArray n }) (hf : f its.toArray = its'.toArray) (hv : Vals ys its') (hz : ys.length ≤ sizeLine) :
    Inv X pins σ (upd H l (.lst ys)) { s with heap := s.heap.update l (Obj.mapSeq f), toks := t' } := by
  have q := PySem.IsL.update e f
  rw [hf] at q
  refine I.write (x := l) (e := l) (by rw [hH]; exact trivial) (.inl rfl) (fun b' u hb hu => (Heap.get?_update_other s.heap (Obj.mapSeq f) (Ne.symm hb)).trans hu) ⟨_, q⟩ ?_
  exact ⟨hz, its', _, hv, q⟩
theorem Inv.lnew {its : List Value} {t' : Nat} (I : Inv X pins σ H s) (hv : Vals ys its) (hz : ys.length ≤ sizeLine) :
    Inv X pins σ (upd H s.heap.objs.size (.lst ys)) { s with heap := s.heap.push { cls := .type "list", data := .seq its.toArray }, toks := t' } :=
  I.laid (fun _ _ q => Heap.get?_push_of_some _ q) (Nat.le_refl _) ⟨hz, its, 0, hv, Heap.get?_push_size _ rfl⟩
theorem Inv.fresh (I : Inv X pins σ H s) : H s.heap.objs.size = none := I.hok.fresh (Nat.le_refl _)
theorem Inv.lstM (I : Inv X pins σ H s) (hH : H l = some (.lst xs)) : xs.length ≤ sizeLine ∧ ∃ (its : List Value) (n : Nat), Vals xs its ∧ xs.length = its.length ∧ s.heap.get? l = some { cls := .type "list", data := .seq its.toArray n } := by
  obtain ⟨z, its, n, r, e⟩ := I.hok l _ hH
  exact ⟨z, its, n, r, r.length, e⟩
theorem notLongL {n : Nat} (h : n ≤ sizeLine) : Builtin.List.listTooLong n = false := by
  unfold Builtin.List.listTooLong
  exact decide_eq_false (by omega)
end
section
variable {X : Cx}
def rAppend : V → List V → Hp → VK → Prop := fun x vs H Q => ∃ l xs y, x = .ref l ∧ vs = [y] ∧ H l = some (.lst xs) ∧ xs.length < sizeLine ∧ Q .non (upd H l (.lst (xs ++ [y])))
theorem mt_append : MtM X "list.append" rAppend := by
  intro pins s σ H x vs v us Q I rx rv h
  obtain ⟨l, xs, y, rfl, rfl, hH, hz, q⟩ := h
  cases rx
  obtain ⟨u, rfl, ru⟩ := rv.one
  obtain ⟨z, its, n, r, hl, e⟩ := I.lstM hH
  refine call_meets F.slot_list_append ⟨_, e, rfl⟩ F.entry_list_append (F.args_list_append_2 _ _) (PySem.list_append l its.toArray n u (by rw [List.size_toArray]; omega)) ⟨e, ?_⟩
  refine ⟨.non, _, I.lset (its' := its ++ [u]) hH e (by simp) (r.append (.cons ru .nil)) ?_, rfl, q⟩
  rw [List.length_append, List.length_singleton]
  omega
def rExtend : V → List V → Hp → VK → Prop := fun x vs H Q => ∃ l b xs zs, x = .ref l ∧ vs = [.ref b] ∧ H l = some (.lst xs) ∧ H b = some (.lst zs) ∧ xs.length + zs.length ≤ sizeLine ∧ Q .non (upd H l (.lst (xs ++ zs)))
theorem mt_extend : MtM X "list.extend" rExtend := by
  intro pins s σ H x vs v us Q I rx rv h
  obtain ⟨l, b, xs, zs, rfl, rfl, hH, hB, hz, q⟩ := h
  cases rx
  obtain ⟨u, rfl, ru⟩ := rv.one
  cases ru
  obtain ⟨z, its, n, r, hl, e⟩ := I.lstM hH
  obtain ⟨z2, its2, n2, r2, hl2, e2⟩ := I.lstM hB
  have hsz : its.toArray.size + its2.toArray.size ≤ sizeLine := by rw [List.size_toArray, List.size_toArray]; omega
  have hlong : ¬ (!its.toArray.isEmpty && Builtin.List.listTooLong (its.toArray.size + its2.toArray.size)) = true := by
    rw [notLongL hsz, Bool.and_false]
    exact Bool.false_ne_true
  refine call_meets F.slot_list_extend ⟨_, e, rfl⟩ F.entry_list_extend (F.args_list_extend_2 _ _)
    (AutoSeq1.list_extend_list_list_0 l its.toArray n b its2.toArray n2 hlong (by rw [List.size_toArray]; omega) (by omega)) ⟨e, e2, ?_⟩
  refine ⟨.non, _, I.lset (its' := its ++ its2) hH e (by simp) (r.append r2) ?_, rfl, q⟩
  rw [List.length_append]
  omega
def rCat : R2 := fun x y H Q => ∃ l b xs zs, x = .ref l ∧ y = .ref b ∧ H l = some (.lst xs) ∧ H b = some (.lst zs) ∧ xs.length + zs.length ≤ sizeLine ∧ ∀ p, H p = none → Q (.ref p) (upd H p (.lst (xs ++ zs)))
theorem op_cat : OpR X (binaryOp .Add) rCat := by
  intro pins s σ H x y v u Q I rx ry h
  obtain ⟨l, b, xs, zs, rfl, rfl, hH, hB, hz, q⟩ := h
  cases rx
  cases ry
  obtain ⟨z, its, n, r, hl, e⟩ := I.lstM hH
  obtain ⟨z2, its2, n2, r2, hl2, e2⟩ := I.lstM hB
  refine PySem.P.add_list e e2 ?_ (by rw [List.size_toArray, List.size_toArray]; omega)
  have ea : its.toArray ++ its2.toArray = (its ++ its2).toArray := by simp
  rw [ea]
  exact ⟨.ref _, _, I.lnew (t' := s.toks) (r.append r2) (by rw [List.length_append]; omega), rfl, q _ I.fresh⟩
end
section
variable {prog : Program} {w : World} {A : Around} {E : Value → Shared → Prop} {s : Shared}
set_option maxRecDepth 100000 in
end
section
variable {X : Cx}
end
end L2
namespace L2
open PySem PySem.Spec PyProof.Rows
theorem Vals.ints : ∀ {ns : List Int} {us : List Value}, Vals (ns.map V.int) us → IntsAre us ns
  | [], us, h => by
    rw [List.map_nil] at h
    cases h
    exact IntsAre.nil
  | n :: ns, us, h => by
    rw [List.map_cons] at h
    cases h with
    | cons r t =>
      obtain ⟨k, rfl⟩ := r
      exact IntsAre.cons n k (Vals.ints t)
theorem Vals.bls : ∀ {bs : List Bool} {us : List Value}, Vals (bs.map V.bl) us → us = bs.map Value.bool
  | [], us, h => by
    rw [List.map_nil] at h
    cases h
    rfl
  | b :: bs, us, h => by
    rw [List.map_cons] at h
    cases h with
    | cons r t =>
      cases r
      rw [Vals.bls t, List.map_cons]
theorem Vals.ref1 {a : Addr} {us : List Value} (r : Vals [V.ref a] us) : us = [Value.ref a] := by
  cases r with
  | cons r t =>
    cases t
    cases r
    rfl
theorem Vals.int2 {i j : Int} {us : List Value} (r : Vals [V.int i, V.int j] us) : ∃ t u, us = [Value.int i t, Value.int j u] := by
  cases r with
  | cons r t =>
    cases t with
    | cons r2 t2 =>
      cases t2
      obtain ⟨t, rfl⟩ := r
      obtain ⟨u, rfl⟩ := r2
      exact ⟨t, u, rfl⟩
section
variable {prog : Program} {w : World} {A : Around} {E : Value → Shared → Prop} {s : Shared} {l : Addr} {its : List Value} {ns : List Int} {Q : Value → Shared → Prop}
theorem sum_raw (hh : A.handled = none) (hl : s.heap.IsList l its.toArray) (hi : IntsAre its ns)
    (h : ∀ h' tk t', (∀ b o, s.heap.get? b = some o → h'.get? b = some o) → Q (.int ns.sum t') { s with heap := h', toks := tk }) : wpAny (model prog w) A (call (.builtin "sum") [.ref l]) Q E s := by
  obtain ⟨xs, e⟩ := hi.allInts.items
  have hn : numsOf (intItems xs).toList = ns := by rw [← e]; exact hi.numsOf
  rw [nums_intItems] at hn
  rw [e] at hl
  refine PySem.sum_intListG hh hl fun h' tk t' hk => ?_
  have := h h' tk t' hk
  rw [preSum_eq, List.take_of_length_le (by simp), hn]; exact this
theorem max_raw (hh : A.handled = none) (hl : s.heap.IsList l its.toArray) (hi : IntsAre its ns) (hne : 0 < ns.length)
    (h : ∀ h' tk M t', (∀ b o, s.heap.get? b = some o → h'.get? b = some o) → M ∈ ns → (∀ a, a ∈ ns → a ≤ M) → Q (.int M t') { s with heap := h', toks := tk }) : wpAny (model prog w) A (call (.builtin "max") [.ref l]) Q E s := by
  obtain ⟨xs, e⟩ := hi.allInts.items
  have hn : numsOf (intItems xs).toList = ns := by rw [← e]; exact hi.numsOf
  rw [nums_intItems] at hn
  subst hn
  rw [e] at hl
  have hsz : 0 < xs.size := by simpa using hne
  refine PySem.max_intList hh hl hsz fun v h' tk hv hk => ?_
  obtain ⟨t, rfl⟩ := intItems_at hv
  obtain ⟨h1, h2⟩ := argBest_gt (numAt xs) (xs.size - 1)
  refine h h' tk _ t hk ?_ fun a ha => ?_
  · rw [numAt_eq]; exact PySem.getD_mem (by rw [List.length_map, Array.length_toList]; omega)
  · obtain ⟨j, hj, rfl⟩ := mem_getD ha
    rw [List.length_map, Array.length_toList] at hj
    rw [← numAt_eq]; exact h2 j (by omega)
theorem min_raw (hh : A.handled = none) (hl : s.heap.IsList l its.toArray) (hi : IntsAre its ns) (hne : 0 < ns.length)
    (h : ∀ h' tk M t', (∀ b o, s.heap.get? b = some o → h'.get? b = some o) → M ∈ ns → (∀ a, a ∈ ns → M ≤ a) → Q (.int M t') { s with heap := h', toks := tk }) : wpAny (model prog w) A (call (.builtin "min") [.ref l]) Q E s := by
  obtain ⟨xs, e⟩ := hi.allInts.items
  have hn : numsOf (intItems xs).toList = ns := by rw [← e]; exact hi.numsOf
  rw [nums_intItems] at hn
  subst hn
  rw [e] at hl
  have hsz : 0 < xs.size := by simpa using hne
  refine PySem.min_intList hh hl hsz fun v h' tk hv hk => ?_
  obtain ⟨t, rfl⟩ := intItems_at hv
  obtain ⟨h1, h2⟩ := argBest_lt (numAt xs) (xs.size - 1)
  refine h h' tk _ t hk ?_ fun a ha => ?_
  · rw [numAt_eq]; exact PySem.getD_mem (by rw [List.length_map, Array.length_toList]; omega)
  · obtain ⟨j, hj, rfl⟩ := mem_getD ha
    rw [List.length_map, Array.length_toList] at hj
    rw [← numAt_eq]; exact h2 j (by omega)
end
section
variable {X : Cx}
/-- sum(xs) of a list of ints -/
def rSum (K : PySem.W.Frag) : List V → Hp → VK → Prop := fun vs H Q => ∃ (a : Addr) (ns : List Int), vs = [V.ref a] ∧ SqL K H a (ns.map V.int) ∧ Q (.int ns.sum) H
def rMin (K : PySem.W.Frag) : List V → Hp → VK → Prop := fun vs H Q => ∃ (a : Addr) (ns : List Int), vs = [V.ref a] ∧ SqL K H a (ns.map V.int) ∧ 0 < ns.length ∧ ∀ m, m ∈ ns → (∀ y, y ∈ ns → m ≤ y) → Q (.int m) H
theorem cr_sum (hc : X.calm = true) : CallR X (.builtin "sum") (rSum X.K) := by
  intro pins s σ H vs us Q I r h
  obtain ⟨a, ns, rfl, hs, q⟩ := h
  obtain ⟨its, rv, hl, _⟩ := I.list hs
  rw [Vals.ref1 r]
  exact sum_raw (I.ok.hd hc) hl.isList rv.ints fun h' tk t' hk => ⟨.int _, H, I.kept hk, ⟨_, rfl⟩, q⟩
theorem cr_min (hc : X.calm = true) : CallR X (.builtin "min") (rMin X.K) := by
  intro pins s σ H vs us Q I r h
  obtain ⟨a, ns, rfl, hs, hne, q⟩ := h
  obtain ⟨its, rv, hl, _⟩ := I.list hs
  rw [Vals.ref1 r]
  exact min_raw (I.ok.hd hc) hl.isList rv.ints hne fun h' tk m t' hk h1 h2 => ⟨.int _, H, I.kept hk, ⟨_, rfl⟩, q m h1 h2⟩
end
section
variable {X : Cx}
end
section
variable {X : Cx}
end
theorem iter_any {prog : Program} {w : World} {A : Around} {E : Value → Shared → Prop} {s : Shared} {l : Addr} {items : Array Value} {Q : Value → Shared → Prop} (hl : s.heap.IsList l items)
    (h : ∀ s₂ : Shared, s₂ = { s with heap := s.heap.push { cls := .type "list_iterator", data := .fields #[.ref l, .int 0 0] } } →
      (s₂.heap.IsListIter s.heap.objs.size l 0 ∧ s₂.heap.IsList l items) → l ≠ s.heap.objs.size → Q (.ref s.heap.objs.size) s₂) : wpAny (model prog w) A (pyIter (.ref l)) Q E s := by
  have hlt : l < s.heap.objs.size := by obtain ⟨_, e, _⟩ := hl; exact Heap.lt_size e
  exact wpAny_pyIter_list hl (h _ rfl ⟨⟨_, Heap.get?_push_size _ rfl, rfl, rfl⟩, hl.push _⟩ (Nat.ne_of_lt hlt))
theorem truth_bools {prog : Program} {w : World} {A : Around} {bs : List Bool} {its : List Value} (e : its = bs.map Value.bool) :
    TruthOf prog w A (fun i v => its.toArray[i]? = some v) (fun i => bs.getD i false) := fun i v s Q E hv hq => by
  have hv' : its[i]? = some v := by simpa using hv
  rw [e, List.getElem?_map] at hv'
  obtain ⟨b, hb, rfl⟩ := Option.map_eq_some_iff.mp hv'
  have hg : bs.getD i false = b := by rw [List.getD_eq_getElem?_getD, hb] <;> rfl
  have hq' : Q (bs.getD i false) s := hq
  rw [hg] at hq'
  exact wpAny_truthy_bool hq'
theorem any_range : ∀ bs : List Bool, (List.range bs.length).any (fun i => bs.getD i false) = bs.any id
  | [] => rfl
  | b :: bs => by
    rw [List.length_cons, List.range_succ_eq_map, List.any_cons, List.any_map, List.any_cons, ← any_range bs]
    all_goals rfl
theorem all_range : ∀ bs : List Bool, (List.range bs.length).all (fun i => bs.getD i false) = bs.all id
  | [] => rfl
  | b :: bs => by
    rw [List.length_cons, List.range_succ_eq_map, List.all_cons, List.all_map, List.all_cons, ← all_range bs]
    all_goals rfl
section
variable {X : Cx}
def rAll (K : PySem.W.Frag) : List V → Hp → VK → Prop := fun vs H Q => ∃ (a : Addr) (bs : List Bool), vs = [V.ref a] ∧ SqL K H a (bs.map V.bl) ∧ Q (.bl (bs.all id)) H
theorem cr_all (hc : X.calm = true) : CallR X (.builtin "all") (rAll X.K) := by
  intro pins s σ H vs us Q I r h
  obtain ⟨a, bs, rfl, hs, q⟩ := h
  obtain ⟨its, rv, hl, _⟩ := I.list hs
  rw [Vals.ref1 r]
  have hb := rv.bls
  refine call_all_walk (iter_any hl.isList fun s₂ e2 st hne => ?_)
  subst e2
  refine ⟨_, _, _, _, _, _, _, rfl, Walks.list (A := X.A.in1) (I.ok.hd hc) _ a hne its.toArray, st, truth_bools hb, fun h' tk hk => ?_⟩
  refine ⟨.bl _, H, I.kept fun b o eo => hk b o (fun hmem => ?_) (Heap.get?_push_of_some _ eo), ?_, q⟩
  · rcases List.mem_cons.mp hmem with e1 | hmem
    · exact absurd (e1 ▸ Heap.lt_size eo) (Nat.lt_irrefl _)
    · cases hmem
  · show Value.bool _ = Value.bool _
    rw [← all_range, hb, List.size_toArray, List.length_map]
end
section
variable {X : Cx} {pins : List (Addr × Obj)} {σ : St} {H : Hp} {s : Shared}
end
section
variable {X : Cx}
end
end L2
namespace L2
open PySem PySem.Spec PyProof.Rows
abbrev CellAt (h : Heap) (c : Addr) (v : Option Value) : Prop := h.IsCell c v
def relS (scope sc : Scope) : Scope :=
  { scope with names := scope.names.map fun (n, k) => if (k == .free && sc.kind == .function && sc.names.lookup n == some .cell) then (n, .cell) else (n, k) }
def cloFrom (cells : List (Str × Addr)) : List (Str × NameKind) → List (Str × Addr) → List (Str × Addr)
  | [], acc => acc
  | (n, k) :: r, acc => if k == .free then cloFrom cells r ((n, (cells.lookup n).getD 0) :: acc) else cloFrom cells r acc
theorem closure_loop (env : Env) (f : Str × NameKind → List (Str × Addr) → Sem (ForInStep (List (Str × Addr))))
    (hf : ∀ n k c, f (n, k) c = if k == .free then (do let a ← cellOf env n; pure (.yield ((n, a) :: c))) else pure (.yield c)) :
    ∀ (names : List (Str × NameKind)) (acc : List (Str × Addr)), (∀ y ∈ names, y.2 = .free → ∃ c, env.cells.lookup y.1 = some c) → forIn names acc f = pure (cloFrom env.cells names acc)
  | [], acc, _ => by rw [List.forIn_nil]; rfl
  | (n, k) :: r, acc, h => by
    rw [List.forIn_cons, hf]
    have ih := fun acc => closure_loop env f hf r acc fun y hy => h y (List.mem_cons_of_mem _ hy)
    unfold cloFrom
    by_cases hk : (k == NameKind.free) = true
    · rw [if_pos hk, if_pos hk]
      obtain ⟨c, hc⟩ := h (n, k) List.mem_cons_self (by simpa using hk)
      have e : cellOf env n = pure c := by unfold cellOf; rw [hc]
      rw [e]
      have e2 : (env.cells.lookup n).getD 0 = c := by rw [hc]; rfl
      rw [e2]
      exact ih _
    · rw [if_neg hk, if_neg hk]
      exact ih _
theorem closure_ok {scope : Scope} {env : Env} (h : ∀ y ∈ scope.names, y.2 = .free → ∃ c, env.cells.lookup y.1 = some c) : closureFor scope env = pure (cloFrom env.cells scope.names []) := by
  simp only [closureFor]
  rw [closure_loop env _ (fun n k c => rfl) scope.names [] h]
  rfl
theorem mem_lookup {α : Type} : ∀ {l : List (Str × α)} {n : Str} {c : α}, (n, c) ∈ l → ∃ c', l.lookup n = some c'
  | (k, v) :: r, n, c, h => by
    rw [List.lookup_cons]
    cases hb : n == k with
    | true => exact ⟨_, rfl⟩
    | false =>
      rcases List.mem_cons.mp h with e | h
      · cases e; simp at hb
      · exact mem_lookup h
theorem cloFrom_mem {cells : List (Str × Addr)} : ∀ {names : List (Str × NameKind)} {acc : List (Str × Addr)} {n : Str} {c : Addr}, (n, c) ∈ cloFrom cells names acc → (n, c) ∈ acc ∨ ((n, .free) ∈ names ∧ c = (cells.lookup n).getD 0)
  | [], _, _, _, h => .inl h
  | (m, k) :: r, acc, n, c, h => by
    unfold cloFrom at h
    split at h
    · rename_i hk
      have hk : k = .free := by simpa using hk
      rcases cloFrom_mem h with h | ⟨h1, h2⟩
      · rcases List.mem_cons.mp h with e | h
        · cases e; exact .inr ⟨hk ▸ List.mem_cons_self, rfl⟩
        · exact .inl h
      · exact .inr ⟨List.mem_cons_of_mem _ h1, h2⟩
    · rcases cloFrom_mem h with h | ⟨h1, h2⟩
      · exact .inl h
      · exact .inr ⟨List.mem_cons_of_mem _ h1, h2⟩
theorem cloFrom_acc {cells : List (Str × Addr)} : ∀ {names : List (Str × NameKind)} {acc : List (Str × Addr)} {p : Str × Addr}, p ∈ acc → p ∈ cloFrom cells names acc
  | [], _, _, h => h
  | (m, k) :: r, acc, p, h => by
    unfold cloFrom
    split
    · exact cloFrom_acc (List.mem_cons_of_mem _ h)
    · exact cloFrom_acc h
theorem cloFrom_has {cells : List (Str × Addr)} : ∀ {names : List (Str × NameKind)} {acc : List (Str × Addr)} {n : Str}, (n, .free) ∈ names → (n, (cells.lookup n).getD 0) ∈ cloFrom cells names acc
  | (m, k) :: r, acc, n, h => by
    unfold cloFrom
    rcases List.mem_cons.mp h with e | h
    · cases e
      exact cloFrom_acc List.mem_cons_self
    · split
      · exact cloFrom_has h
      · exact cloFrom_has h
theorem cells_mem : ∀ {names : List (Str × NameKind)} {h : Heap} {acc : List (Str × Addr)} {x : Str} {c : Addr}, (x, c) ∈ cellsFrom h.objs.size names acc →
    (x, c) ∈ acc ∨ ((x, .cell) ∈ names ∧ h.objs.size ≤ c ∧ CellAt (pushCells h names) c none)
  | [], _, _, _, _, h => .inl h
  | (n, k) :: r, h, acc, x, c, hm => by
    unfold cellsFrom at hm
    unfold pushCells
    split at hm
    · rename_i hk
      rw [if_pos hk]
      have hk : k = .cell := by simpa using hk
      rw [← Heap.size_push h { cls := .type "cell", data := .cell none }] at hm
      rcases cells_mem hm with hm | ⟨h1, h2, h3⟩
      · rcases List.mem_cons.mp hm with e | hm
        · cases e
          exact .inr ⟨hk ▸ List.mem_cons_self, Nat.le_refl _, _, pushCells_keeps r _ _ _ (Heap.get?_push_size _ rfl), rfl⟩
        · exact .inl hm
      · rw [Heap.size_push] at h2
        exact .inr ⟨List.mem_cons_of_mem _ h1, Nat.le_of_succ_le h2, h3⟩
    · rename_i hk
      rw [if_neg hk]
      rcases cells_mem hm with hm | ⟨h1, h2, h3⟩
      · exact .inl hm
      · exact .inr ⟨List.mem_cons_of_mem _ h1, h2, h3⟩
theorem cells_acc : ∀ {names : List (Str × NameKind)} {n : Nat} {acc : List (Str × Addr)} {p : Str × Addr}, p ∈ acc → p ∈ cellsFrom n names acc
  | [], _, _, _, h => h
  | (m, k) :: r, n, acc, p, h => by
    unfold cellsFrom
    split
    · exact cells_acc (List.mem_cons_of_mem _ h)
    · exact cells_acc h
theorem cells_has : ∀ {names : List (Str × NameKind)} {n : Nat} {acc : List (Str × Addr)} {x : Str}, (x, .cell) ∈ names → ∃ c, (x, c) ∈ cellsFrom n names acc
  | (m, k) :: r, n, acc, x, h => by
    unfold cellsFrom
    rcases List.mem_cons.mp h with e | h
    · cases e
      exact ⟨n, cells_acc List.mem_cons_self⟩
    · split
      · exact cells_has h
      · exact cells_has h
theorem cells_inj : ∀ {names : List (Str × NameKind)} {h : Heap} {acc : List (Str × Addr)} {x y : Str} {c : Addr}, (∀ p ∈ acc, p.2 < h.objs.size) → (∀ x y c, (x, c) ∈ acc → (y, c) ∈ acc → x = y) →
    (x, c) ∈ cellsFrom h.objs.size names acc → (y, c) ∈ cellsFrom h.objs.size names acc → x = y
  | [], _, _, _, _, _, _, hi, h1, h2 => hi _ _ _ h1 h2
  | (n, k) :: r, h, acc, x, y, c, hl, hi, h1, h2 => by
    unfold cellsFrom at h1 h2
    split at h1
    · rename_i hk
      rw [if_pos hk] at h2
      rw [← Heap.size_push h { cls := .type "cell", data := .cell none }] at h1 h2
      refine cells_inj (h := h.push _) (fun p hp => ?_) (fun x y c a b => ?_) h1 h2
      · rw [Heap.size_push]
        rcases List.mem_cons.mp hp with rfl | hp
        · exact Nat.lt_succ_self _
        · exact Nat.lt_succ_of_lt (hl p hp)
      · rcases List.mem_cons.mp a with e | a <;> rcases List.mem_cons.mp b with e' | b
        · cases e; cases e'; rfl
        · cases e; exact absurd (hl _ b) (Nat.lt_irrefl _)
        · cases e'; exact absurd (hl _ a) (Nat.lt_irrefl _)
        · exact hi _ _ _ a b
    · rename_i hk
      rw [if_neg hk] at h2
      exact cells_inj hl hi h1 h2
theorem newEnv_comp {M : Model} {A : Around} {E : Value → Shared → Prop} {s : Shared} {scope : Scope} {globals : Addr} {closure : List (Str × Addr)} {qual : Str} {func : Option Addr} {code : Value} {around : Env} {builtins : Addr} {Q : Env → Shared → Prop}
    (h : Q (newEnv scope s.heap.objs.size globals (cellsFrom (s.heap.objs.size + 1) scope.names closure) qual func code (some around) builtins)
      { s with heap := pushCells (s.heap.push { cls := .type "dict", data := .dict #[] }) scope.names }) :
    wpAny M A (newFunctionEnv scope globals closure [] qual func code (some around) builtins) Q E s := by
  simp only [newFunctionEnv, Option.isSome_some, if_true]
  refine wpAny_bind (wpAny_alloc ?_)
  refine wpAny_bind (wpAny_layCells _ (fun n k c => rfl) scope.names closure _ _ ?_)
  rw [show ({ s with heap := s.heap.push { cls := .type "dict", data := .dict #[] } } : Shared).heap.objs.size = s.heap.objs.size + 1 from Heap.size_push ..]
  rw [List.forIn_nil]
  exact wpAny_bind (wpAny_pure (wpAny_pure h))
/-- every name of the written scope, in the scope that runs -/
theorem lookup_relS {sc : Scope} : ∀ {names : List (Str × NameKind)} {x : Str} {k : NameKind},
    (names.map fun (n, k) => if (k == NameKind.free && sc.kind == .function && sc.names.lookup n == some .cell) then (n, NameKind.cell) else (n, k)).lookup x = some k →
    ∃ k', names.lookup x = some k' ∧ (k = k' ∨ (k' = .free ∧ k = .cell))
  | [], _, _, h => by simp at h
  | (n, k₀) :: r, x, k, h => by
    have ih := @lookup_relS sc r x k
    have h' : List.lookup x ((if (k₀ == NameKind.free && sc.kind == .function && sc.names.lookup n == some .cell) = true then (n, NameKind.cell) else (n, k₀)) :: (r.map _)) = some k := h
    cases hx : x == n with
    | true =>
      simp only [List.lookup_cons, hx]
      by_cases hc : (k₀ == NameKind.free && sc.kind == .function && sc.names.lookup n == some .cell) = true
      · rw [if_pos hc] at h'
        simp only [List.lookup_cons, hx] at h'
        cases h'
        simp only [Bool.and_eq_true, beq_iff_eq] at hc
        exact ⟨k₀, rfl, .inr ⟨hc.1.1, rfl⟩⟩
      · rw [if_neg hc] at h'
        simp only [List.lookup_cons, hx] at h'
        cases h'
        exact ⟨_, rfl, .inl rfl⟩
    | false =>
      simp only [List.lookup_cons, hx]
      by_cases hc : (k₀ == NameKind.free && sc.kind == .function && sc.names.lookup n == some .cell) = true
      · rw [if_pos hc] at h'
        simp only [List.lookup_cons, hx] at h'
        exact ih h'
      · rw [if_neg hc] at h'
        simp only [List.lookup_cons, hx] at h'
        exact ih h'
/-- the names of a comprehension's block: its own (with their places in N), or captured -/
structure BlkOk (N : List Str) (sc scope : Scope) (own : List (Str × Nat)) : Prop where
  kind : scope.kind = .function
  uniq : ∀ y ∈ scope.names, scope.names.lookup y.1 = some y.2
  ix : ∀ p ∈ own, N[p.2]? = some p.1
  free : ∀ y ∈ scope.names, y.2 = .free → sc.names.lookup y.1 = some .cell ∨ sc.names.lookup y.1 = some .free
  own : ∀ y ∈ scope.names, y.2 = .local ∨ y.2 = .cell → y.1 ∈ own.map (·.1) ∨ y.1 ∉ N
/-- the slots of the block's own names forgotten -/
def wipe (σ : St) : List Nat → St
  | [] => σ
  | v :: vs => (wipe σ vs).set v none
theorem wipe_length (σ : St) : ∀ vs : List Nat, (wipe σ vs).length = σ.length
  | [] => rfl
  | v :: vs => by unfold wipe; rw [List.length_set, wipe_length σ vs]
theorem wipe_some {σ : St} {i : Nat} {x : V} : ∀ {vs : List Nat}, (wipe σ vs)[i]? = some (some x) → σ[i]? = some (some x) ∧ i ∉ vs
  | [], h => ⟨h, by simp⟩
  | v :: vs, h => by
    unfold wipe at h
    by_cases hi : v = i
    · subst hi
      by_cases hv : v < (wipe σ vs).length
      · rw [List.getElem?_set_self hv] at h; cases h
      · rw [List.getElem?_eq_none (by simpa using hv)] at h; cases h
    · rw [List.getElem?_set_ne hi] at h
      obtain ⟨h1, h2⟩ := wipe_some h
      exact ⟨h1, by simp only [List.mem_cons, not_or]; exact ⟨fun e => hi e.symm, h2⟩⟩
/-- the context of a block that starts at s, its iterator's objects at fp -/
abbrev Cx.blk (X : Cx) (s : Shared) (H : Hp) (scope : Scope) (cenv : Env) (fp : List Addr) : Cx := { X with s_0 := s, H_0 := H, env := cenv, outer := X.stack, ex := fp, fn := fun x => scope.names.lookup x == some .cell, pn := [], xe := fun _ _ => False }
section
variable {X : Cx} {pins : List (Addr × Obj)} {σ : St} {H : Hp} {s : Shared}
theorem block_start {scope : Scope} {own : List (Str × Nat)} {fp : List Addr} (I : Inv X pins σ H s) (ok : BlkOk X.N X.env.scope scope own) (hN : X.N.Nodup) (hfp : ∀ b ∈ fp, FpOk X pins H b ∧ b < s.heap.objs.size) :
    Inv (X.blk s H scope (compEnvC scope (cellsFrom (s.heap.objs.size + 1) scope.names (cloFrom X.env.cells scope.names [])) s.heap.objs.size X.env) fp) [] (wipe σ (own.map (·.2))) H { s with heap := pushCells (s.heap.push { cls := .type "dict", data := .dict #[] }) scope.names } := by
  have hfree : ∀ y ∈ scope.names, y.2 = .free → ∃ c, X.env.cells.lookup y.1 = some c := fun y hy e => by
    rcases ok.free y hy e with k | k
    · exact I.ok.has _ (.inl k)
    · exact I.ok.has _ (.inr k)
  generalize hcenv : compEnvC scope (cellsFrom (s.heap.objs.size + 1) scope.names (cloFrom X.env.cells scope.names [])) s.heap.objs.size X.env = cenv
  have kp : ∀ b o, s.heap.get? b = some o → (pushCells (s.heap.push { cls := .type "dict", data := .dict #[] }) scope.names).get? b = some o := fun b o e => pushCells_keeps _ _ _ _ (Heap.get?_push_of_some _ e)
  have hL : cenv.locals = s.heap.objs.size := by rw [← hcenv]; rfl
  have hcl : cenv.cells = cellsFrom (s.heap.objs.size + 1) scope.names (cloFrom X.env.cells scope.names []) := by rw [← hcenv]; rfl
  have hsc : cenv.scope = relS scope X.env.scope := by rw [← hcenv]; rfl
  rw [← Heap.size_push s.heap { cls := .type "dict", data := .dict #[] }] at hcl
  have cm : ∀ {y c}, (y, c) ∈ cloFrom X.env.cells scope.names [] → X.env.cells.lookup y = some c ∧ c < s.heap.objs.size := fun {y c} hm => by
    rcases cloFrom_mem hm with hm | ⟨h1, rfl⟩
    · cases hm
    · obtain ⟨c, hc⟩ := hfree _ h1 rfl
      rw [hc]
      obtain ⟨w, z⟩ := I.cell _ _ hc
      exact ⟨rfl, z.lt⟩
  have mem : ∀ {y c}, cenv.cells.lookup y = some c → (X.env.cells.lookup y = some c ∧ c < s.heap.objs.size) ∨ (s.heap.objs.size + 1 ≤ c ∧ CellAt (pushCells (s.heap.push { cls := .type "dict", data := .dict #[] }) scope.names) c none) := fun {y c} e => by
    rw [hcl] at e
    rcases cells_mem (PySem.mem_of_lookup e) with hm | ⟨_, h2, h3⟩
    · exact .inl (cm hm)
    · rw [Heap.size_push] at h2; exact .inr ⟨h2, h3⟩
  have look : ∀ {y}, scope.names.lookup y = some .free → ∃ c, cenv.cells.lookup y = some c ∧ X.env.cells.lookup y = some c := fun {y} hl => by
    have hy : (y, NameKind.free) ∈ scope.names := PySem.mem_of_lookup hl
    obtain ⟨c', e'⟩ := mem_lookup (cells_acc (names := scope.names) (n := (s.heap.push { cls := .type "dict", data := .dict #[] }).objs.size) (cloFrom_has (cells := X.env.cells) (acc := []) hy))
    rw [← hcl] at e'
    refine ⟨c', e', ?_⟩
    rw [hcl] at e'
    rcases cells_mem (PySem.mem_of_lookup e') with hm | ⟨h1, _, _⟩
    · exact (cm hm).1
    · have := ok.uniq _ h1
      rw [hl] at this; cases this
  have okB : (X.blk s H scope cenv fp).Ok := by
    refine ⟨I.ok.mod, by show cenv.scope.kind = _; rw [hsc]; exact ok.kind, by show cenv.globals = _; rw [← hcenv]; exact I.ok.glob, by show cenv.builtins = _; rw [← hcenv]; exact I.ok.blt, by show s.heap.objs.size ≤ cenv.locals; rw [hL]; exact Nat.le_refl _,
      fun y z c e1 e2 => ?_, fun y hy => ?_, fun y c z e => ?_, I.ok.hd, I.ok.frames, .inl rfl, fun b hb => ⟨?_, fun y c e z => ?_⟩, I.bs, Nat.le_trans I.ok.bsz I.sz, fun b o e hb => ?_, fun b hb z => ?_, I.stack, I.stkFree⟩
    · have e1 : cenv.cells.lookup y = some c := e1
      have e2 : cenv.cells.lookup z = some c := e2
      rw [hcl] at e1 e2
      refine cells_inj (fun p hp => ?_) (fun y z c a b => I.ok.inj y z c (cm a).1 (cm b).1) (PySem.mem_of_lookup e1) (PySem.mem_of_lookup e2)
      rw [Heap.size_push]
      exact Nat.lt_succ_of_lt (cm (y := p.1) (c := p.2) hp).2
    · show ∃ c, cenv.cells.lookup y = some c
      have key : ∀ k, cenv.kindOf y = some k → (k = .cell ∨ k = .free) → ∃ c, cenv.cells.lookup y = some c := fun k hk hk' => by
        unfold Env.kindOf at hk
        rw [hsc] at hk
        obtain ⟨k', e, r⟩ := lookup_relS hk
        have : k' = .cell ∨ k' = .free := by
          rcases r with rfl | ⟨rfl, _⟩
          · exact hk'
          · exact .inr rfl
        rcases this with rfl | rfl
        · obtain ⟨c, hm⟩ := cells_has (n := (s.heap.push { cls := .type "dict", data := .dict #[] }).objs.size) (acc := cloFrom X.env.cells scope.names []) (PySem.mem_of_lookup e)
          obtain ⟨c', e'⟩ := mem_lookup hm
          exact ⟨c', by rw [hcl]; exact e'⟩
        · obtain ⟨c, h1, _⟩ := look e
          exact ⟨c, h1⟩
      rcases hy with hy | hy
      · exact key _ hy (.inl rfl)
      · exact key _ hy (.inr rfl)
    · have z : (scope.names.lookup y == some NameKind.cell) = true := z
      have z : scope.names.lookup y = some .cell := by simpa using z
      have e : cenv.cells.lookup y = some c := e
      rw [hcl] at e
      rcases cells_mem (PySem.mem_of_lookup e) with hm | ⟨_, h2, _⟩
      · rcases cloFrom_mem hm with hm | ⟨h1, _⟩
        · cases hm
        · have q := ok.uniq _ h1
          rw [z] at q; cases q
      · rw [Heap.size_push] at h2
        exact Nat.le_of_succ_le h2
    · show b ≠ cenv.locals
      rw [hL]; exact Nat.ne_of_lt (hfp b hb).2
    · have e : cenv.cells.lookup y = some c := e
      rcases mem e with ⟨h1, _⟩ | ⟨h1, _⟩
      · exact (hfp b hb).1.2.2.2.2.1 y c h1 z
      · have h2 : s.heap.objs.size + 1 ≤ b := by rw [← z]; exact h1
        exact absurd (Nat.lt_of_lt_of_le (hfp b hb).2 (Nat.le_of_succ_le h2)) (Nat.lt_irrefl _)
    · rcases (hfp b hb).1.2.2.2.1 with z | z
      · exact I.ok.noex b o e z
      · exact absurd (Nat.lt_of_lt_of_le (Heap.lt_size e) (Nat.le_trans I.ok.bsz z)) (Nat.lt_irrefl _)
    · rcases List.mem_cons.mp (I.stkSub b z) with z | z
      · exact (hfp b hb).1.2.1 z
      · exact (hfp b hb).1.2.2.1 z
  refine ⟨okB, rfl, I.bare, Un.kept kp, ⟨fun _ => none, ?_, fun i y av e1 e2 e3 => ?_⟩, fun y c e => ?_, ?_, fun y c e => ?_, fun p hp => ?_, I.hok.kept kp, by rw [wipe_length]; exact I.len⟩
  · show Heap.Ns _ cenv.locals _
    rw [hL]
    exact Heap.Ns.keeps (Heap.Ns.new ..) fun b o e => pushCells_keeps _ _ _ _ e
  · obtain ⟨e2, hne⟩ := wipe_some e2
    have hfr : scope.names.lookup y = some .free ∧ (cenv.kindOf y = some .cell ∨ cenv.kindOf y = some .free) := by
      have key : ∀ k, cenv.scope.names.lookup y = some k → k = .local ∨ k = .cell ∨ k = .free → scope.names.lookup y = some .free ∧ (cenv.kindOf y = some .cell ∨ cenv.kindOf y = some .free) := fun k hk hk' => by
        have hk0 := hk
        rw [hsc] at hk
        obtain ⟨k', e, r⟩ := lookup_relS hk
        have no : ¬ (k' = .local ∨ k' = .cell) := fun hh => by
          rcases ok.own _ (PySem.mem_of_lookup e) hh with e' | e'
          · obtain ⟨p, hp, hpy⟩ := List.mem_map.mp e'
            have e3 := ok.ix p hp
            have : p.1 = y := hpy
            rw [this] at e3
            exact hne (List.mem_map.mpr ⟨p, hp, nodup_ix hN e3 e1⟩)
          · exact e' (List.mem_of_getElem? e1)
        rcases r with rfl | ⟨rfl, rfl⟩
        · rcases hk' with rfl | rfl | rfl
          · exact absurd (.inl rfl) no
          · exact absurd (.inr rfl) no
          · exact ⟨e, .inr hk0⟩
        · exact ⟨e, .inl hk0⟩
      have e3 : Vis cenv.scope y := e3
      rcases e3 with e3 | e3 | e3
      · exact key _ e3 (.inl rfl)
      · exact key _ e3 (.inr (.inl rfl))
      · exact key _ e3 (.inr (.inr rfl))
    obtain ⟨m, hn, hl⟩ := I.loc
    have hvis : Vis X.env.scope y := (ok.free _ (PySem.mem_of_lookup hfr.1) rfl).elim (fun k => .inr (.inl k)) (fun k => .inr (.inr k))
    obtain ⟨w, r, q⟩ := hl i y av e1 e2 hvis
    refine ⟨w, r, .inr ⟨hfr.2, ?_⟩⟩
    obtain ⟨c, h1, h2⟩ := look hfr.1
    rcases q with ⟨k, _⟩ | ⟨_, c', e', z⟩
    · have k : X.env.scope.names.lookup y = some .local := k
      rcases ok.free _ (PySem.mem_of_lookup hfr.1) rfl with k' | k' <;> rw [show X.env.scope.names.lookup y = _ from k'] at k <;> cases k
    · rw [h2] at e'; cases e'
      exact ⟨c, h1, z.keeps kp⟩
  · have e : cenv.cells.lookup y = some c := e
    rcases mem e with ⟨h1, _⟩ | ⟨_, z⟩
    · obtain ⟨w, z⟩ := I.cell y c h1
      exact ⟨w, z.keeps kp⟩
    · exact ⟨_, z⟩
  · show H cenv.locals = none
    rw [hL]; exact I.hok.fresh (Nat.le_refl _)
  · have e : cenv.cells.lookup y = some c := e
    rcases mem e with ⟨h1, _⟩ | ⟨h1, _⟩
    · exact I.freeC y c h1
    · exact I.hok.fresh (Nat.le_of_succ_le h1)
  · exact absurd (show p ∈ ([] : List (Addr × Obj)) ++ [] from hp) (by simp)
/-- an item appended to a tracked list -/
theorem app_ok {E : Value → Shared → Prop} {D : Addr} {xs : List V} {y : V} {v : Value} {Q : Value → Shared → Prop} (I : Inv X pins σ H s) (hD : H D = some (.lst xs)) (hz : xs.length < sizeLine) (r : RelV y v)
    (h : ∀ s', Inv X pins σ (upd H D (.lst (xs ++ [y]))) s' → Q .none s') : wpAny (model X.prog X.w) X.A (call (.builtin "list.append") [.ref D, v]) Q E s := by
  obtain ⟨hz', its, n, ri, e⟩ := I.hok D _ hD
  have hl := ri.length
  refine append_at (hsz := by rw [List.size_toArray]; omega) e fun h' sb ho' => ?_
  refine h { s with heap := h' } (I.write (t' := s.toks) (by rw [hD]; trivial) (.inl rfl) (fun b u hb q => (sb.2 b hb).trans q) ⟨_, ho'⟩ ⟨by rw [List.length_append]; exact hz, its ++ [v], n + 1, ri.append (.cons r .nil), ?_⟩)
  rw [ho']
  simp
/-- a clause's tests -/
def PTs (X : Cx) (ifs : List Expr) (t : TT) : Prop :=
  ∀ (pins : List (Addr × Obj)) (s : Shared) (σ : St) (H : Hp) (Q : Bool → Hp → Prop), Inv X pins σ H s → t σ H Q →
    wpAny (model X.prog X.w) X.A (forIn ifs true fun c r => if r = true then do let ok ← isTrue c X.env (eval c X.env); pure (ForInStep.yield ok) else pure (ForInStep.yield r)) (TP X pins σ Q) X.xe s
def tYes : TT := fun _ H Q => Q true H
theorem pts_nil : PTs X [] tYes := fun _ _ _ H _ I h => wpAny_tests_nil ⟨H, I, h⟩
theorem pts_one {c : Expr} {t : TT} (h : PT X c t) : PTs X [c] t := fun pins s σ H Q I hw => wpAny_tests_one (h pins s σ H Q I hw)
end
theorem thnF {α : Type} {t : Sem α} {Q Q' : α → Shared → Prop} {M : Model} {A : Around} {E : Value → Shared → Prop} {s : Shared} (h : wpAny M A t Q (fun _ _ => False) s) (hQ : ∀ a s, Q a s → Q' a s) : wpAny M A t Q' E s := wpAny_mono h hQ fun _ _ z => False.elim z
/-- the loop of a list comprehension's block, the target of any form (codeAny_compLoop_tests asks a target that no tuple goes to; statement and proof follow it, PyProof/CompMap.lean:41-61, with the step letOwnedTupleGo kept) -/
theorem compLoop_any {prog : Program} {w : World} {A : Around} {R : Result → Shared → Prop} {s : Shared} {elt target iter : Expr} {ifs : List Expr} {scope : Scope} {pos : Pos} {it acc : Value} {env : Env} (I : Nat → Shared → Prop)
    (turn : ∀ n s, I n s → wpAny (model prog w) A (pyNext it) (fun r s₁ => match r with
      | none => R (.ok .next) s₁
      | some v => wpAny (model prog w) A (letOwnedTupleGo target it v) (fun _ s₁' => wpAny (model prog w) A (assign target env v) (fun _ s₂ =>
          wpAny (model prog w) A (forIn ifs true fun c r => if r = true then do let ok ← isTrue c env (eval c env); pure (ForInStep.yield ok) else pure (ForInStep.yield r)) (fun ok s₃ =>
            if ok = true then wpAny (model prog w) A (eval elt env) (fun x s₄ =>
              wpAny (model prog w) A (call (.builtin "list.append") [acc, x]) (fun _ s₅ => ∃ m, m < n ∧ I m s₅) (notedBy (model prog w) A env fun e s' => R (.error e) s') s₄) (notedBy (model prog w) A env fun e s' => R (.error e) s') s₃
            else ∃ m, m < n ∧ I m s₃) (notedBy (model prog w) A env fun e s' => R (.error e) s') s₂) (notedBy (model prog w) A env fun e s' => R (.error e) s') s₁') (notedBy (model prog w) A env fun e s' => R (.error e) s') s₁) (notedBy (model prog w) A env fun e s' => R (.error e) s') s)
    (n : Nat) (h : I n s) :
    codeAny (model prog w) A (.compLoop (.ListComp elt [⟨target, iter, ifs, 0⟩] scope pos) 0 it acc env) R s := by
  refine codeAny_loop rfl I (fun n s hI => ?_) n h
  show wpAny _ A ((compTurn (.ListComp elt [⟨target, iter, ifs, 0⟩] scope pos) 0 it acc env).onRaise (fun x => do noteFrame x env; theTreesLotGoes x)) _ _ s
  refine wpAny_noted ?_
  rw [compTurn_list]
  refine wpAny_bind (wpAny_standAt (wpAny_bind (wpAny_mono (turn n s hI) (fun r s₁ h₁ => ?_) fun _ _ h' => h')))
  cases r with
  | none => exact wpAny_pure h₁
  | some v =>
    refine wpAny_bind (wpAny_mono h₁ (fun _ s₁' h₁' => ?_) fun _ _ h' => h')
    refine wpAny_bind (wpAny_mono h₁' (fun _ s₂ h₂ => wpAny_bind (wpAny_mono h₂ (fun ok s₃ h₃ => ?_) fun _ _ h' => h')) fun _ _ h' => h')
    cases ok with
    | false => exact wpAny_pure ⟨rfl, h₃⟩
    | true =>
      exact wpAny_bind (wpAny_bind (wpAny_mono h₃ (fun x s₄ h₄ => wpAny_bind (wpAny_mono h₄ (fun _ s₅ h₅ => wpAny_pure (wpAny_pure ⟨rfl, h₅⟩)) fun _ _ h' => h')) fun _ _ h' => h'))
section
variable {X : Cx}
/-- [elt for target in iter if ..]: D the new list; W by the turn and a measure, Nx what a turn is to reach -/
def tLc (wi : TI) (g : TG) (tt : TT) (te : TE) (vs : List Nat) : TE := fun σ H Q => wi σ H fun J H1 => ∀ D, H1 D = none → ∃ W : Nat → Nat → Hp → Prop, (∃ m, W 0 m (upd H1 D (.lst []))) ∧ ∀ i m H, W i m H →
  (J.stop i H ∧ Q (.ref D) H) ∨ (J.go i H ∧ ∃ Nx : Hp → Prop, (∀ H', Nx H' → ∃ m', m' < m ∧ W (i + 1) m' H') ∧ ∀ x H', J.yld i H x H' → g x (wipe σ vs) H' fun σ2 H2 => wipe σ2 vs = wipe σ vs ∧ tt σ2 H2 fun b H3 =>
    if b = true then te σ2 H3 fun y H4 => ∃ acc, H4 D = some (.lst acc) ∧ acc.length < sizeLine ∧ Nx (upd H4 D (.lst (acc ++ [y]))) else Nx H3)
theorem lc_core {pins : List (Addr × Obj)} {s : Shared} {σ : St} {H : Hp} {Q : VK} {elt tg iter : Expr} {ifs : List Expr} {scope : Scope} {own : List (Str × Nat)} {pos pos' : Pos} {wi : TI} {g : TG} {tt : TT} {te : TE} {use : Option (Value → Sem Unit)} {Qf : Value → Shared → Prop}
    (hc : X.calm = true) (hN : X.N.Nodup) (I : Inv X pins σ H s) (hi : PI X tg iter wi) (ok : BlkOk X.N X.env.scope scope own)
    (hg : ∀ (s : Shared) (H : Hp) (C : Addr) (cl : List (Str × Addr)) (fp : List Addr), PG (X.blk s H scope (compEnvC scope cl C X.env) fp) tg g) (ht : ∀ (s : Shared) (H : Hp) (C : Addr) (cl : List (Str × Addr)) (fp : List Addr), PTs (X.blk s H scope (compEnvC scope cl C X.env) fp) ifs tt)
    (he : ∀ (s : Shared) (H : Hp) (C : Addr) (cl : List (Str × Addr)) (fp : List Addr), PE (X.blk s H scope (compEnvC scope cl C X.env) fp) elt te) (hs : ∀ x, foldedSetIterable iter X.env x = pure x)
    (h : tLc wi g tt te (own.map (·.2)) σ H Q)
    (hRR : ∀ D C s' m H', Inv X pins σ H' s' → Q (.ref D) H' → s'.heap.Ns C m → FpOk X pins H' C → compPost (model X.prog X.w) X.A X.xe use Qf (.ref D) C (.ok .next) s') :
    wpAny (model X.prog X.w) X.A (comprehension (.ListComp elt [⟨tg, iter, ifs, 0⟩] scope pos) scope X.env pos' (newList []) false (eval iter X.env) use) Qf X.xe s := by
  have hfree : ∀ y ∈ scope.names, y.2 = .free → ∃ c, X.env.cells.lookup y.1 = some c := fun y hy e => by
    rcases ok.free y hy e with k | k
    · exact I.ok.has _ (.inl k)
    · exact I.ok.has _ (.inr k)
  refine wpAny_comprehension_free (use := use) rfl hs (closure_ok hfree) ok.kind (fun y hy e => by rw [ok.uniq y hy, e])
    (thn (hi pins s σ H _ I h) fun xv s1 hx => thn hx fun itv s2 h2 => ?_)
  obtain ⟨it, fp, tn, J, H2, e, I2, T, st2, f2, q⟩ := h2
  subst e
  refine wpAny_newObj_type (newEnv_comp ?_) (by show 0 ≤ sizeLine; decide)
  generalize hD : s2.heap.objs.size = D
  have hDn : H2 D = none := I2.hok.fresh (Nat.le_of_eq hD)
  obtain ⟨W, ⟨m0, w0⟩, turn⟩ := q D hDn
  -- the new list
  generalize hs3 : ({ s2 with heap := s2.heap.push { cls := .type "list", data := .seq ([] : List Value).toArray } } : Shared) = s3
  have I3 : Inv X pins σ (upd H2 D (.lst [])) s3 := by
    rw [← hs3]
    refine I2.laid (t' := s2.toks) (fun b o e => Heap.get?_push_of_some _ e) (Nat.le_of_eq hD) ⟨Nat.zero_le _, [], 0, .nil, ?_⟩
    rw [← hD]
    exact Heap.get?_push_size _ rfl
  have h3 : s3.heap = s2.heap.push { cls := .type "list", data := .seq ([] : List Value).toArray } := by rw [← hs3]
  have sz : ∀ b ∈ fp, b < s2.heap.objs.size := fun b hb => by
    obtain ⟨o, e, _⟩ := T.obj _ _ st2 b hb
    exact Heap.lt_size e
  have f3 : ∀ b ∈ fp, FpOk X pins (upd H2 D (.lst [])) b ∧ b < s3.heap.objs.size := fun b hb => by
    have hlt := sz b hb
    refine ⟨⟨?_, (f2 b hb).2⟩, by rw [h3, Heap.size_push]; exact Nat.lt_succ_of_lt hlt⟩
    rw [upd_ne (by rw [← hD]; exact Nat.ne_of_lt hlt)]
    exact (f2 b hb).1
  have st3 : tn 0 s3.heap := T.keep _ _ _ st2 fun b _ o e => by rw [h3]; exact Heap.get?_push_of_some _ e
  have I4 := block_start I3 ok hN f3
  have pg := hg s3 (upd H2 D (.lst [])) s3.heap.objs.size (cellsFrom (s3.heap.objs.size + 1) scope.names (cloFrom X.env.cells scope.names [])) fp
  have pt := ht s3 (upd H2 D (.lst [])) s3.heap.objs.size (cellsFrom (s3.heap.objs.size + 1) scope.names (cloFrom X.env.cells scope.names [])) fp
  have pe := he s3 (upd H2 D (.lst [])) s3.heap.objs.size (cellsFrom (s3.heap.objs.size + 1) scope.names (cloFrom X.env.cells scope.names [])) fp
  show codeAny _ _ (.compStart (.ListComp elt [⟨tg, iter, ifs, 0⟩] scope pos) 0 (.ref it) (.ref D) (compEnvC scope (cellsFrom (s3.heap.objs.size + 1) scope.names (cloFrom X.env.cells scope.names [])) s3.heap.objs.size X.env)) (compPost (model X.prog X.w) X.A X.xe use Qf (.ref D) s3.heap.objs.size) { s3 with heap := pushCells (s3.heap.push { cls := .type "dict", data := .dict #[] }) scope.names }
  have nfp : ∀ b ∈ fp, (upd H2 D (.lst [])) b = none := fun b hb => (f3 b hb).1.1
  generalize hce : compEnvC scope (cellsFrom (s3.heap.objs.size + 1) scope.names (cloFrom X.env.cells scope.names [])) s3.heap.objs.size X.env = ce at I4 pg pt pe ⊢
  have cL : ce.locals = s3.heap.objs.size := by subst hce; rfl
  generalize hH3 : upd H2 D (.lst []) = H3 at I3 I4 pg pt pe w0 nfp f3
  generalize hs4 : ({ s3 with heap := pushCells (s3.heap.push { cls := .type "dict", data := .dict #[] }) scope.names } : Shared) = s4 at I4 ⊢
  have st4 : tn 0 s4.heap := T.keep _ _ _ st3 fun b _ o e => by rw [← hs4]; exact pushCells_keeps _ _ _ _ (Heap.get?_push_of_some _ e)
  have stat : ∀ {σ' : St} {H' : Hp} {s' : Shared}, Inv (X.blk s3 H3 scope ce fp) [] σ' H' s' → (∀ b ∈ fp, H' b = none) → ∀ b ∈ fp, FpOk (X.blk s3 H3 scope ce fp) [] H' b := fun {σ' H' s'} I' hn b hb =>
    ⟨hn b hb, (I'.ok.exf b hb).1, I'.ok.exfs b hb, .inl hb, fun x c e => (I'.ok.exf b hb).2 x c e, fun p hp => absurd (show p ∈ ([] : List (Addr × Obj)) ++ [] from hp) (by simp)⟩
  have loop : codeAny (model X.prog X.w) X.A (.compLoop (.ListComp elt [⟨tg, iter, ifs, 0⟩] scope pos) 0 (.ref it) (.ref D) ce) (compPost (model X.prog X.w) X.A X.xe use Qf (.ref D) s3.heap.objs.size) s4 := by
    refine compLoop_any (fun n s' => ∃ i H', Inv (X.blk s3 H3 scope ce fp) [] (wipe σ (own.map (·.2))) H' s' ∧ tn i s'.heap ∧ (∀ b ∈ fp, H' b = none) ∧ W i n H') ?_ m0 ⟨0, H3, I4, st4, nfp, w0⟩
    rintro n s5 ⟨i, H5, I5, st5, n5, w5⟩
    rcases turn i n H5 w5 with ⟨stop, qq⟩ | ⟨go, Nx, hNx, step⟩
    · have td := T.done (X.blk s3 H3 scope ce fp) rfl rfl rfl hc i [] s5 _ H5 (fun _ _ => False) I5 (stat I5 n5) st5 stop
      refine thnF td fun r s6 ⟨hr, I6⟩ => ?_
      subst hr
      -- back in the def's context
      have I7 : Inv X pins σ H5 s6 := I3.call' (ch := fp) I6.os I6.base I6.hok I6.bare fun b hb => ⟨(f3 b hb).1.2.2.2.1, (f3 b hb).1.2.1, (f3 b hb).1.2.2.2.2.1, (f3 b hb).1.2.2.2.2.2⟩
      have nC : H5 s3.heap.objs.size = none := by
        have z : H5 ce.locals = none := I6.free
        rw [cL] at z
        exact z
      obtain ⟨m, hn, _⟩ := I6.loc
      have hn : s6.heap.Ns ce.locals m := hn
      rw [cL] at hn
      exact hRR D s3.heap.objs.size s6 m H5 I7 qq hn (I3.fpOk (Nat.le_refl _) nC)
    · have ti := T.item (X.blk s3 H3 scope ce fp) rfl rfl rfl hc i [] s5 _ H5 (fun _ _ => False) I5 (stat I5 n5) st5 go
      refine thnF ti fun r s6 ⟨u, hr, h6⟩ => ?_
      subst hr
      refine thnF h6 fun _ s7 ⟨x, H7, I7, r7, y7, st7, n7⟩ => ?_
      have I7' := I7.pinned (stat I7 n7) (T.obj _ _ st7)
      refine thnF (pg _ s7 _ H7 x u _ I7' r7 (step x H7 y7)) fun _ s8 ⟨σ8, H8, I8, hw8, q8⟩ => ?_
      refine thnF (pt _ s8 σ8 H8 _ I8 q8) fun b s9 ⟨H9, I9, q9⟩ => ?_
      -- the turn's end
      have fin : ∀ {s' : Shared} {H' : Hp}, Inv (X.blk s3 H3 scope ce fp) ([] ++ pinsAt fp s7.heap) σ8 H' s' → Nx H' → ∃ m, m < n ∧ ∃ i H', Inv (X.blk s3 H3 scope ce fp) [] (wipe σ (own.map (·.2))) H' s' ∧ tn i s'.heap ∧ (∀ b ∈ fp, H' b = none) ∧ W i m H' := fun {s' H'} I' nx => by
        obtain ⟨m', hm, w'⟩ := hNx H' nx
        have pin' : ∀ b ∈ fp, ∀ o, s7.heap.get? b = some o → s'.heap.get? b = some o ∧ H' b = none := fun b hb o e =>
          let z := I'.pin (b, o) (List.mem_append_right _ (List.mem_append_right _ (mem_pinsAt hb e)))
          ⟨z.1, z.2.1⟩
        have hl : (wipe σ (own.map (·.2))).length = σ8.length := by rw [← hw8, wipe_length]
        refine ⟨m', hm, i + 1, H', (I'.unpinned (pins := [])).weak hl (fun j v e => ?_), T.keep _ _ _ st7 fun b hb o e => (pin' b hb o e).1, fun b hb => ?_, w'⟩
        · rw [← hw8] at e
          exact (wipe_some e).1
        · obtain ⟨o, e, _⟩ := T.obj _ _ st7 b hb
          exact (pin' b hb o e).2
      cases b with
      | false =>
        simp only [Bool.false_eq_true, if_false] at q9 ⊢
        exact fin I9 q9
      | true =>
        simp only [if_true] at q9 ⊢
        refine thnF (pe _ s9 σ8 H9 _ I9 q9) fun z s10 ⟨yv, H10, I10, r10, acc, hD10, hz10, nx⟩ => ?_
        exact app_ok (X := X.blk s3 H3 scope ce fp) I10 hD10 hz10 r10 fun s11 I11 => fin I11 nx
  exact codeAny_compStart_list loop (T.self X.A 0 _ _ _ st4 loop)
/-- as a value -/
theorem pe_lc {elt tg iter : Expr} {ifs : List Expr} {scope : Scope} {own : List (Str × Nat)} {pos : Pos} {wi : TI} {g : TG} {tt : TT} {te : TE} (hc : X.calm = true) (hN : X.N.Nodup) (hi : PI X tg iter wi) (ok : BlkOk X.N X.env.scope scope own)
    (hg : ∀ (s : Shared) (H : Hp) (C : Addr) (cl : List (Str × Addr)) (fp : List Addr), PG (X.blk s H scope (compEnvC scope cl C X.env) fp) tg g) (ht : ∀ (s : Shared) (H : Hp) (C : Addr) (cl : List (Str × Addr)) (fp : List Addr), PTs (X.blk s H scope (compEnvC scope cl C X.env) fp) ifs tt)
    (he : ∀ (s : Shared) (H : Hp) (C : Addr) (cl : List (Str × Addr)) (fp : List Addr), PE (X.blk s H scope (compEnvC scope cl C X.env) fp) elt te) (hs : ∀ x, foldedSetIterable iter X.env x = pure x := by intro _; rfl) :
    PE X (.ListComp elt [⟨tg, iter, ifs, 0⟩] scope pos) (tLc wi g tt te (own.map (·.2))) := by
  intro pins s σ H Q I h
  rw [eval_ListComp]
  refine lc_core hc hN I hi ok hg ht he hs h fun D C s' m H' I' q hn f => ⟨m, hn, fun h'' sb => ?_⟩
  obtain ⟨f0, f1, f2, f3, f4, f5⟩ := f
  exact ⟨.ref D, H', I'.turned (t' := s'.toks) (fun b o hb e => (sb.2 b hb).trans e) f0 f1 f3 f4 f5, rfl, q⟩
/-- name = [..] on one line, the name a local -/
theorem ps_setLc {i : Nat} {y : Str} {py : Pos} {elt tg iter : Expr} {ifs : List Expr} {scope : Scope} {own : List (Str × Nat)} {pos spos : Pos} {wi : TI} {g : TG} {tt : TT} {te : TE} (hc : X.calm = true) (hN : X.N.Nodup) (hy : X.N[i]? = some y) (hyl : X.env.scope.names.lookup y = some .local)
    (hsw : swapsWith (.ListComp elt [⟨tg, iter, ifs, 0⟩] scope pos) (some (.Name y py)) spos.line X.env = pure true) (hi : PI X tg iter wi) (ok : BlkOk X.N X.env.scope scope own)
    (hg : ∀ (s : Shared) (H : Hp) (C : Addr) (cl : List (Str × Addr)) (fp : List Addr), PG (X.blk s H scope (compEnvC scope cl C X.env) fp) tg g) (ht : ∀ (s : Shared) (H : Hp) (C : Addr) (cl : List (Str × Addr)) (fp : List Addr), PTs (X.blk s H scope (compEnvC scope cl C X.env) fp) ifs tt)
    (he : ∀ (s : Shared) (H : Hp) (C : Addr) (cl : List (Str × Addr)) (fp : List Addr), PE (X.blk s H scope (compEnvC scope cl C X.env) fp) elt te) (hs : ∀ x, foldedSetIterable iter X.env x = pure x := by intro _; rfl) :
    PS X (.Assign [.Name y py] (.ListComp elt [⟨tg, iter, ifs, 0⟩] scope pos) spos) (tAsg (tLc wi g tt te (own.map (·.2))) (gName i)) := by
  intro pins s σ H D I h
  rw [exec_Assign_Name_used _ _ _ _ hsw]
  refine wpAny_bind (wpAny_standAt (wpAny_bind ?_))
  show wpAny _ X.A (do let _ ← comprehension (.ListComp elt [⟨tg, iter, ifs, 0⟩] scope pos) scope X.env (firstIterPos [⟨tg, iter, ifs, 0⟩] pos) (newList []) false (eval iter X.env) (some (assign (.Name y py) X.env))) _ _ s
  have h : tLc wi g tt te (own.map (·.2)) σ H (fun x H1 => gName i x σ H1 D.nx) := h
  refine wpAny_bind (thn (lc_core (Qf := fun _ s' => SP X pins D .next s') hc hN I hi ok hg ht he hs h fun L C s' m H' I' q hn f => ?_) fun _ s' hq => wpAny_pure (wpAny_pure hq))
  show wpAny _ _ (assign (.Name y py) X.env (.ref L)) _ _ _
  refine wpAny_assign_Name (store_ok2 (v := V.ref L) I' hN hy (.inl hyl) rfl (fun s2 I2 ⟨a, sb, ha⟩ => ?_) (.inr hyl))
  obtain ⟨f0, f1, f2, f3, f4, f5⟩ := f
  have haC : C ≠ a := by
    rcases ha with z | z
    · rw [z]; exact f1
    · exact fun e => f4 y a z e.symm
  refine ⟨m, hn.sameBut sb haC, fun h3 sb3 => ?_⟩
  exact ⟨_, H', I2.turned (t' := s2.toks) (fun b o hb e => (sb3.2 b hb).trans e) f0 f1 f3 f4 f5, q⟩
theorem sw_true {elt : Expr} {gs : List Comprehension} {scope : Scope} {pos py : Pos} {y : Str} {l : Nat} {env : Env} (hk : env.scope.kind = .function) (hy : env.scope.names.lookup y = some .local) (hl : (py.line == pos.line) = true)
    (ha : (scope.names.any fun (n, k) => n == y && (k == .local || k == .cell)) = false) : swapsWith (.ListComp elt gs scope pos) (some (.Name y py)) l env = pure true := by
  have ky : env.kindOf y = some .local := hy
  have hb : env.blockKind = .function := by unfold Env.blockKind; rw [hk]; rfl
  unfold swapsWith
  simp only [hb, ky, ha, Expr.pos, hl]
  rfl
end
/-- over a list that the block leaves as it is -/
theorem lc_list {K : PySem.W.Frag} {a : Addr} {xs : List V} {g : TG} {tt : TT} {te : TE} {vs : List Nat} {σ : St} {H1 : Hp} {D : Addr} {Qd : Hp → Prop} (Pv : Nat → Hp → Prop) (h0 : Pv 0 (upd H1 D (.lst []))) (hl : ∀ i H, i ≤ xs.length → Pv i H → SqL K H a xs)
    (hs : ∀ i x H, xs[i]? = some x → Pv i H → g x (wipe σ vs) H fun σ2 H2 => wipe σ2 vs = wipe σ vs ∧ tt σ2 H2 fun b H3 =>
      if b = true then te σ2 H3 fun y H4 => ∃ acc, H4 D = some (.lst acc) ∧ acc.length < sizeLine ∧ Pv (i + 1) (upd H4 D (.lst (acc ++ [y]))) else Pv (i + 1) H3) (hd : ∀ H, Pv xs.length H → Qd H) :
    ∃ W : Nat → Nat → Hp → Prop, (∃ m, W 0 m (upd H1 D (.lst []))) ∧ ∀ i m H, W i m H →
      ((Itl K a).stop i H ∧ Qd H) ∨ ((Itl K a).go i H ∧ ∃ Nx : Hp → Prop, (∀ H', Nx H' → ∃ m', m' < m ∧ W (i + 1) m' H') ∧ ∀ x H', (Itl K a).yld i H x H' → g x (wipe σ vs) H' fun σ2 H2 => wipe σ2 vs = wipe σ vs ∧ tt σ2 H2 fun b H3 =>
        if b = true then te σ2 H3 fun y H4 => ∃ acc, H4 D = some (.lst acc) ∧ acc.length < sizeLine ∧ Nx (upd H4 D (.lst (acc ++ [y]))) else Nx H3) := by
  refine ⟨fun i m H => m = xs.length - i ∧ i ≤ xs.length ∧ Pv i H, ⟨xs.length, by simp, Nat.zero_le _, h0⟩, ?_⟩
  rintro i m H ⟨rfl, hi, p⟩
  have q := hl i H hi p
  by_cases hlt : i < xs.length
  · refine .inr ⟨⟨xs, xs[i], q, by simp [hlt]⟩, Pv (i + 1), fun H' p' => ⟨xs.length - (i + 1), by omega, rfl, hlt, p'⟩, fun x H' y => ?_⟩
    obtain ⟨e, y⟩ := y
    subst e
    exact hs i x _ (y xs q) p
  · have e : i = xs.length := by omega
    subst e
    exact .inl ⟨⟨xs, q, Nat.le_refl _⟩, hd H p⟩
def blkC (N : List Str) (sc scope : Scope) (own : List (Str × Nat)) : Bool :=
  (match scope.kind with | .function => true | _ => false) && (scope.names.all fun y => decide (scope.names.lookup y.1 = some y.2)) && (own.all fun p => decide (N[p.2]? = some p.1)) &&
    (scope.names.all fun y => match y.2 with
      | .free => (match sc.names.lookup y.1 with | some .cell => true | some .free => true | _ => false)
      | .local => decide (y.1 ∈ own.map (·.1)) || decide (y.1 ∉ N)
      | .cell => decide (y.1 ∈ own.map (·.1)) || decide (y.1 ∉ N)
      | _ => true)
theorem blkOk_by {N : List Str} {sc scope : Scope} {own : List (Str × Nat)} (h : blkC N sc scope own = true) : BlkOk N sc scope own := by
  unfold blkC at h
  simp only [Bool.and_eq_true, List.all_eq_true, decide_eq_true_eq] at h
  obtain ⟨⟨⟨h1, h2⟩, h3⟩, h4⟩ := h
  refine ⟨?_, h2, h3, fun y hy e => ?_, fun y hy e => ?_⟩
  · split at h1
    · assumption
    · cases h1
  · have q := h4 y hy
    simp only [e] at q
    split at q <;> first | exact .inl (by assumption) | exact .inr (by assumption) | cases q
  · have q := h4 y hy
    rcases e with e | e <;> (simp only [e, Bool.or_eq_true, decide_eq_true_eq] at q; exact q)
end L2
namespace L2
open PySem PySem.Spec PyProof.Rows
section
variable {prog : Program} {w : World} {A : Around} {R : Result → Shared → Prop} {s : Shared} {elt t0 i0 t1 i1 : Expr} {ifs0 ifs1 : List Expr} {scope : Scope} {pos : Pos} {it acc : Value} {env : Env}
end
section
variable {X : Cx}
end
end L2
namespace L2
open PySem PySem.Spec PyProof.Rows
section
variable {κ : Type} [DecidableEq κ]
def valV (kvs : List (κ × V)) (k : κ) : Option V := (kvs.find? fun kv => decide (kv.1 = k)).map (·.2)
/-- in its place, or at the end -/
def putK (kvs : List (κ × V)) (k : κ) (v : V) : List (κ × V) :=
  if (kvs.any fun kv => decide (kv.1 = k)) = true then kvs.map (fun kv => if kv.1 = k then (kv.1, v) else kv) else kvs ++ [(k, v)]
def dropK (kvs : List (κ × V)) (k : κ) : List (κ × V) := kvs.filter fun kv => decide (kv.1 ≠ k)
theorem valV_pos {p : κ × V} {r : List (κ × V)} {k : κ} (e : p.1 = k) : valV (p :: r) k = some p.2 := by simp [valV, List.find?_cons, e]
theorem valV_neg {p : κ × V} {r : List (κ × V)} {k : κ} (e : ¬ p.1 = k) : valV (p :: r) k = valV r k := by simp [valV, List.find?_cons, e]
theorem valV_any (k : κ) : ∀ kvs : List (κ × V), (kvs.any fun kv => decide (kv.1 = k)) = (valV kvs k).isSome
  | [] => rfl
  | p :: r => by
    rw [List.any_cons]
    by_cases e : p.1 = k
    · simp only [valV_pos e, decide_eq_true e, Bool.true_or, Option.isSome_some]
    · rw [valV_neg e, decide_eq_false e, Bool.false_or]; exact valV_any k r
theorem length_putK (kvs : List (κ × V)) (k : κ) (v : V) : (putK kvs k v).length ≤ kvs.length + 1 := by
  unfold putK
  split
  · rw [List.length_map]; omega
  · rw [List.length_append, List.length_cons, List.length_nil]; omega
theorem putK_new {kvs : List (κ × V)} {k : κ} (v : V) (h : valV kvs k = none) : putK kvs k v = kvs ++ [(k, v)] := by
  unfold putK
  rw [valV_any, h]
  exact if_neg (by decide)
theorem RelO.isSome_eq {o : Option V} {u : Option Value} (r : RelO o u) : o.isSome = u.isSome := by
  cases o with
  | none => cases u with
    | none => rfl
    | some _ => exact (show False from r).elim
  | some _ => cases u with
    | none => exact (show False from r).elim
    | some _ => rfl
theorem RelO.getD {o : Option V} {u : Option Value} {d : V} {d' : Value} (r : RelO o u) (rd : RelV d d') : RelV (o.getD d) (u.getD d') := by
  cases o with
  | none => cases u with
    | none => exact rd
    | some _ => exact (show False from r).elim
  | some _ => cases u with
    | none => exact (show False from r).elim
    | some _ => exact r
/-- raw tables of the same keys -/
theorem KV.val {kvs : List (κ × V)} {vs : List (κ × Value)} (r : KV kvs vs) (k : κ) : RelO (valV kvs k) (valueAt vs k) := by
  unfold KV at r
  induction r with
  | nil => exact True.intro
  | @cons p q ps qs h t ih =>
    obtain ⟨h1, h2⟩ := h
    by_cases e : p.1 = k
    · have e' : q.1 = k := h1.symm.trans e
      have b : valueAt (q :: qs) k = some q.2 := by simp [valueAt, List.find?_cons, e']
      rw [valV_pos e, b]; exact h2
    · have e' : ¬ q.1 = k := fun z => e (h1.trans z)
      have b : valueAt (q :: qs) k = valueAt qs k := by simp [valueAt, List.find?_cons, e']
      rw [valV_neg e, b]; exact ih
theorem KV.any {kvs : List (κ × V)} {vs : List (κ × Value)} (r : KV kvs vs) (k : κ) : (kvs.any fun kv => decide (kv.1 = k)) = vs.any fun kv => decide (kv.1 = k) := by
  unfold KV at r
  induction r with
  | nil => rfl
  | cons h t ih => rw [List.any_cons, List.any_cons, ih, h.1]
theorem KV.repl {kvs : List (κ × V)} {vs : List (κ × Value)} (r : KV kvs vs) (k : κ) {y : V} {u : Value} (ry : RelV y u) :
    KV (kvs.map fun kv => if kv.1 = k then (kv.1, y) else kv) (vs.map fun kv => if kv.1 = k then (kv.1, u) else kv) := by
  unfold KV at r ⊢
  induction r with
  | nil => exact .nil
  | @cons p q ps qs h t ih =>
    rw [List.map_cons, List.map_cons]
    refine .cons ?_ ih
    obtain ⟨h1, h2⟩ := h
    by_cases e : p.1 = k
    · rw [if_pos e, if_pos (h1.symm.trans e)]; exact ⟨h1, ry⟩
    · rw [if_neg e, if_neg (fun z => e (h1.trans z))]; exact ⟨h1, h2⟩
theorem KV.put {kvs : List (κ × V)} {vs : List (κ × Value)} (r : KV kvs vs) (k : κ) {y : V} {u : Value} (ry : RelV y u) : KV (putK kvs k y) (stored vs k u) := by
  unfold putK stored
  rw [r.any k]
  by_cases e : (vs.any fun kv => decide (kv.1 = k)) = true
  · rw [if_pos e, if_pos e]; exact r.repl k ry
  · rw [if_neg e, if_neg e]; exact Paired.snoc r ⟨rfl, ry⟩
theorem KV.drop {kvs : List (κ × V)} {vs : List (κ × Value)} (r : KV kvs vs) (k : κ) : KV (dropK kvs k) (without vs k) := by
  unfold KV at r ⊢
  unfold dropK without
  induction r with
  | nil => exact .nil
  | @cons p q ps qs h t ih =>
    obtain ⟨h1, h2⟩ := h
    rw [List.filter_cons, List.filter_cons]
    by_cases e : p.1 = k
    · have a : ¬ decide (p.1 ≠ k) = true := by simp [e]
      have b : ¬ decide (q.1 ≠ k) = true := by simp [h1.symm.trans e]
      rw [if_neg a, if_neg b]; exact ih
    · have e' : ¬ q.1 = k := fun z => e (h1.trans z)
      have a : decide (p.1 ≠ k) = true := by simp [e]
      have b : decide (q.1 ≠ k) = true := by simp [e']
      rw [if_pos a, if_pos b]; exact .cons ⟨h1, h2⟩ ih
theorem KV.length {kvs : List (κ × V)} {vs : List (κ × Value)} (r : KV kvs vs) : kvs.length = vs.length := Paired.length r
theorem dropK_le (kvs : List (κ × V)) (k : κ) : (dropK kvs k).length ≤ kvs.length := List.length_filter_le _ _
end
theorem kV_is {P : Program} {w : World} {k : Key} {u : Value} (r : RelV (kV k) u) : (mixKind P w).is k u = true := by
  cases k with
  | inl i => obtain ⟨t, e⟩ := (show ∃ t, u = Value.int i t from r); subst e; exact mixKind_int P w i t
  | inr x => obtain ⟨t, e⟩ := (show ∃ t, u = Value.str x t from r); subst e; exact mixKind_str P w x t
theorem items_are {P : Program} {w : World} : ∀ {ks : List Key} {us : List Value}, Vals (ks.map kV) us → ItemsAre (mixKind P w) ks us
  | [], _, r => by rw [List.map_nil] at r; cases r; exact .nil
  | k :: ks, _, r => by
    rw [List.map_cons] at r
    cases r with
    | cons h t => exact .cons (kV_is h) (items_are t)
/-- raw entries of a dict with tuple keys -/
abbrev KT (H : Hp) : List (List Key × V) → List (List Key × Addr × Value) → Prop := Paired fun p q => p.1 = q.1 ∧ H q.2.1 = some (.tup (p.1.map kV)) ∧ RelV p.2 q.2.2
theorem KT.val {H : Hp} {kvs : List (List Key × V)} {xs : List (List Key × Addr × Value)} (r : KT H kvs xs) (k : List Key) : RelO (valV kvs k) ((atKey xs k).map (·.2)) := by
  induction r with
  | nil => exact True.intro
  | @cons p q ps qs h t ih =>
    obtain ⟨h1, _, h2⟩ := h
    by_cases e : p.1 = k
    · have e' : q.1 = k := h1.symm.trans e
      have b : atKey (q :: qs) k = some q.2 := by simp [atKey, List.find?_cons, e']
      rw [valV_pos e, b]; exact h2
    · have e' : ¬ q.1 = k := fun z => e (h1.trans z)
      have b : atKey (q :: qs) k = atKey qs k := by simp [atKey, List.find?_cons, e']
      rw [valV_neg e, b]; exact ih
theorem KT.repl {H : Hp} {kvs : List (List Key × V)} {xs : List (List Key × Addr × Value)} (r : KT H kvs xs) (k : List Key) {y : V} {u : Value} (ry : RelV y u) :
    KT H (kvs.map fun kv => if kv.1 = k then (kv.1, y) else kv) (xs.map (putAt k u)) := by
  induction r with
  | nil => exact .nil
  | @cons p q ps qs h t ih =>
    rw [List.map_cons, List.map_cons]
    refine .cons ?_ ih
    obtain ⟨h1, h2, h3⟩ := h
    unfold putAt
    by_cases e : p.1 = k
    · rw [if_pos e, if_pos (h1.symm.trans e)]; exact ⟨h1, h2, ry⟩
    · rw [if_neg e, if_neg (fun z => e (h1.trans z))]; exact ⟨h1, h2, h3⟩
theorem KT.put {H : Hp} {kvs : List (List Key × V)} {xs : List (List Key × Addr × Value)} (r : KT H kvs xs) (k : List Key) {b : Addr} {y : V} {u : Value} (hb : H b = some (.tup (k.map kV))) (ry : RelV y u) :
    KT H (putK kvs k y) (storedH xs k b u) := by
  have e : (kvs.any fun kv => decide (kv.1 = k)) = (atKey xs k).isSome := by
    rw [valV_any, (r.val k).isSome_eq, Option.isSome_map]
  unfold putK storedH
  rw [e]
  by_cases q : (atKey xs k).isSome = true
  · rw [if_pos q, if_pos q]; exact r.repl k ry
  · rw [if_neg q, if_neg q]; exact Paired.snoc r ⟨rfl, hb, ry⟩
theorem KT.keeps {H H' : Hp} {kvs : List (List Key × V)} {xs : List (List Key × Addr × Value)} (r : KT H kvs xs) (ht : ∀ b ys, H b = some (.tup ys) → H' b = some (.tup ys)) : KT H' kvs xs :=
  Paired.mapP r fun _ _ z => ⟨z.1, ht _ _ z.2.1, z.2.2⟩
section
variable {P : Program} {w : World} {H : Hp} {h : Heap} {a : Addr}
theorem rd_of {u : HO} (ok : HOk P w H h) (e : Rd H a u) : ObjOk P w H h a u := e.ok ok
theorem dk_rd {kvs : List (Key × V)} (ok : HOk P w H h) (e : Rd H a (.dK kvs)) : kvs.length ≤ sizeLine ∧ (a == sysModules) = false ∧ ∃ vs, KV kvs vs ∧ h.DictOf (mixKind P w) a vs :=
  show ObjOk P w H h a (.dK kvs) from rd_of ok e
theorem dk_of {kvs : List (Key × V)} (ok : HOk P w H h) (e : H a = some (.dK kvs)) : kvs.length ≤ sizeLine ∧ (a == sysModules) = false ∧ ∃ vs, KV kvs vs ∧ h.DictOf (mixKind P w) a vs := dk_rd ok (.inl e)
/-- a tracked tuple of ints and texts is a key -/
theorem key_of {ks : List Key} (ok : HOk P w H h) (e : H a = some (.tup (ks.map kV))) : (tupleKind (mixKind P w)).is h ks a := by
  obtain ⟨_, its, r, o, h1, h2, n, h3⟩ := (show ObjOk P w H h a (.tup (ks.map kV)) from ok a _ e)
  exact ⟨o, its.toArray, n, h1, h2, h3, by simpa using items_are r⟩
theorem dt_rd {kvs : List (List Key × V)} (ok : HOk P w H h) (e : Rd H a (.dT kvs)) : kvs.length ≤ sizeLine ∧ (a == sysModules) = false ∧
    ∃ xs, KT H kvs xs ∧ h.DictOfH (tupleKind (mixKind P w)) a xs := by
  obtain ⟨z, y, xs, r, o, es, ep, h1, h2, h3, h4, h5⟩ := (show ObjOk P w H h a (.dT kvs) from rd_of ok e)
  refine ⟨z, y, xs, r, o, es, ep, h1, h2, h3, h4, fun x hx => ?_, h5⟩
  have all : ∀ {l : List (List Key × V)} {m : List (List Key × Addr × Value)}, KT H l m → ∀ x ∈ m, (tupleKind (mixKind P w)).is h x.1 x.2.1 := by
    intro l m q
    induction q with
    | nil => intro x hx; exact nomatch hx
    | @cons p q ps qs hq t ih =>
      intro x hx
      rcases List.mem_cons.mp hx with e | hx
      · subst e
        exact key_of ok (by rw [← hq.1]; exact hq.2.1)
      · exact ih x hx
  exact all r x hx
theorem dt_of {kvs : List (List Key × V)} (ok : HOk P w H h) (e : H a = some (.dT kvs)) : kvs.length ≤ sizeLine ∧ (a == sysModules) = false ∧
    ∃ xs, KT H kvs xs ∧ h.DictOfH (tupleKind (mixKind P w)) a xs := dt_rd ok (.inl e)
end
/-- what the dict at a holds at the key y -/
def DGet (H : Hp) (a : Addr) (y : V) (r : Option V) : Prop :=
  (∃ kvs k, Rd H a (.dK kvs) ∧ y = kV k ∧ r = valV kvs k) ∨ ∃ kvs k b, Rd H a (.dT kvs) ∧ y = .ref b ∧ H b = some (.tup (k.map kV)) ∧ r = valV kvs k
/-- the heap behind a[y] = v -/
def DPut (H : Hp) (a : Addr) (y v : V) (H' : Hp) : Prop :=
  (∃ kvs k, H a = some (.dK kvs) ∧ y = kV k ∧ kvs.length < sizeLine ∧ H' = upd H a (.dK (putK kvs k v))) ∨
  ∃ kvs k b, H a = some (.dT kvs) ∧ y = .ref b ∧ H b = some (.tup (k.map kV)) ∧ kvs.length < sizeLine ∧ H' = upd H a (.dT (putK kvs k v))
theorem DGet.k {H : Hp} {a : Addr} {kvs : List (Key × V)} {k : Key} (e : H a = some (.dK kvs)) : DGet H a (kV k) (valV kvs k) := .inl ⟨kvs, k, .inl e, rfl, rfl⟩
theorem DPut.k {H : Hp} {a : Addr} {kvs : List (Key × V)} {k : Key} {v : V} (e : H a = some (.dK kvs)) (hl : kvs.length < sizeLine) : DPut H a (kV k) v (upd H a (.dK (putK kvs k v))) := .inl ⟨kvs, k, e, rfl, hl, rfl⟩
section
variable {X : Cx} {pins : List (Addr × Obj)} {σ : St} {H : Hp} {s : Shared} {a : Addr} {y v : V} {u r : Value} {o : Option V} {A : Around} {E : Value → Shared → Prop}
theorem Inv.big (I : Inv X pins σ H s) : sysModules < s.heap.objs.size := by
  have h : mainGlobals < s.heap.objs.size := (I.mod.glob.keeps I.bk).lt
  exact Nat.lt_trans (by decide) h
/-- d[y], there -/
theorem d_getItem {Q : Value → Shared → Prop} (hu : A.units + 1 < cLine) (I : Inv X pins σ H s) (g : DGet H a y (some v)) (ry : RelV y u) (h : ∀ w' s', Inv X pins σ H s' → RelV v w' → Q w' s') :
    wpAny (model X.prog X.w) A (getItem (.ref a) u) Q E s := by
  rcases g with ⟨kvs, k, e, ey, l⟩ | ⟨kvs, k, b, e, ey, eb, l⟩
  · subst ey
    obtain ⟨z, hd, vs, rel, dd⟩ := dk_rd I.hok e
    obtain ⟨w', hw, rw'⟩ := RelO.some_of (v := v) (o := valueAt vs k) (by rw [l]; exact rel.val k)
    exact wpAny_getItem_of (kV_is ry) dd.mapOf hw (h w' _ (I.tok _) rw')
  · subst ey
    cases (show u = Value.ref b from ry)
    obtain ⟨z, hd, xs, rel, dd⟩ := dt_rd I.hok e
    obtain ⟨w', hw, rw'⟩ := RelO.some_of (v := v) (o := (atKey xs k).map (·.2)) (by rw [l]; exact rel.val k)
    obtain ⟨p, hp, hp2⟩ := Option.map_eq_some_iff.mp hw
    refine wpAny_getItem_heap (tupleKind_room_in1 hu) (key_of I.hok eb) dd hp ?_
    rw [hp2]
    exact h w' _ (I.tok _) rw'
/-- a dict's object is replaced -/
theorem d_write {h' : Heap} {t' : Nat} {ob : HO} (I : Inv X pins σ H s) (mu : Mut (H a)) (hs : Heap.SameBut a s.heap h') (he : ∃ q, h'.get? a = some q) (new : ObjOk X.prog X.w (upd H a ob) h' a ob) :
    Inv X pins σ (upd H a ob) { s with heap := h', toks := t' } :=
  I.write (x := a) (e := a) mu (.inl rfl) (fun b q hb z => (hs.2 b hb).trans z) he new
theorem dk_new {P : Program} {w : World} {H' : Hp} {h' : Heap} {kvs : List (Key × V)} {vs : List (Key × Value)} (z : kvs.length ≤ sizeLine) (hd : (a == sysModules) = false) (rel : KV kvs vs) (dd : h'.DictOf (mixKind P w) a vs) :
    ObjOk P w H' h' a (.dK kvs) := ⟨z, hd, vs, rel, dd⟩
/-- d[y] = v -/
theorem d_setItem {H' : Hp} {Q : Unit → Shared → Prop} (hu : A.units + 1 < cLine) (I : Inv X pins σ H s) (g : DPut H a y v H') (ry : RelV y u) (rv : RelV v r) (h : ∀ s', Inv X pins σ H' s' → Q () s') :
    wpAny (model X.prog X.w) A (setItem (.ref a) u r) Q E s := by
  rcases g with ⟨kvs, k, e, ey, l, eH⟩ | ⟨kvs, k, b, e, ey, eb, l, eH⟩
  · subst ey eH
    obtain ⟨z, hd, vs, rel, dd⟩ := dk_of I.hok e
    have hz : vs.length ≤ sizeLine := by rw [← rel.length]; exact z
    have hl : (putK kvs k v).length ≤ sizeLine := by have := length_putK kvs k v; omega
    refine wpAny_setItem_pairs (hsz := hz) (kV_is ry) dd fun h' dd' hs => h _ ?_
    have he : ∃ q, h'.get? a = some q := let ⟨q, _, _, hq, _⟩ := dd'; ⟨q, hq⟩
    exact d_write I (by rw [e]; exact True.intro) hs he (dk_new hl hd (rel.put k rv) dd')
  · subst ey eH
    cases (show u = Value.ref b from ry)
    obtain ⟨z, hd, xs, rel, dd⟩ := dt_of I.hok e
    have hz : xs.length ≤ sizeLine := by rw [← Paired.length rel]; exact z
    have hl : (putK kvs k v).length ≤ sizeLine := by have := length_putK kvs k v; omega
    refine wpAny_setItem_heap (hsz := hz) (tupleKind_room_in1 hu) (key_of I.hok eb) dd fun h' dd' hs => h _ ?_
    obtain ⟨q, es, ep, hq, h2, h3, h4, _, h5⟩ := dd'
    refine d_write I (by rw [e]; exact True.intro) hs ⟨q, hq⟩ ⟨hl, hd, _, (rel.put k eb rv).keeps fun c ys ec => ?_, q, es, ep, hq, h2, h3, h4, h5⟩
    rw [upd_ne (ne_of ec e (fun z => nomatch z))]
    exact ec
end
section
variable {X : Cx} {pins : List (Addr × Obj)} {σ : St} {H : Hp} {s : Shared} {a : Addr} {kvs : List (Key × V)} {k : Key} {u : Value} {A : Around} {E : Value → Shared → Prop}
/-- del d[k] -/
theorem d_delItem {Q : Unit → Shared → Prop} (I : Inv X pins σ H s) (e : H a = some (.dK kvs)) (ry : RelV (kV k) u) (l : (valV kvs k).isSome = true) (h : ∀ s', Inv X pins σ (upd H a (.dK (dropK kvs k))) s' → Q () s') :
    wpAny (model X.prog X.w) A (delItem (.ref a) u) Q E s := by
  obtain ⟨z, hd, vs, rel, dd⟩ := dk_of I.hok e
  refine wpAny_delItem_slot dd.typeIs (by decide) PySem.F.slot_dict_delitem
    (call_meetsIn PySem.F.slot_dict_delitem dd.typeIs PySem.F.entry_dict_delitem (PySem.F.args_dict_delitem_2 _ _) (meets_dict_delitem_pairs (mixKind X.prog X.w) a (kV_is ry)) ⟨vs, dd, by rw [← rel.length]; exact z, by rw [← (rel.val k).isSome_eq]; exact l, fun h' dd' hs => h _ ?_⟩)
  have he : ∃ q, h'.get? a = some q := let ⟨q, _, _, hq, _⟩ := dd'; ⟨q, hq⟩
  exact d_write I (by rw [e]; exact True.intro) hs he (dk_new (Nat.le_trans (dropK_le kvs k) z) hd (rel.drop k) dd')
/-- d.pop(k[, x]), there -/
theorem d_pop {v : V} {more : List Value} {Q : Value → Shared → Prop} (I : Inv X pins σ H s) (e : H a = some (.dK kvs)) (ry : RelV (kV k) u) (l : valV kvs k = some v) (hm : more = [] ∨ ∃ x, more = [x])
    (h : ∀ w' s', Inv X pins σ (upd H a (.dK (dropK kvs k))) s' → RelV v w' → Q w' s') : wpAny (model X.prog X.w) A (call (.builtin "dict.pop") (.ref a :: u :: more)) Q E s := by
  obtain ⟨z, hd, vs, rel, dd⟩ := dk_of I.hok e
  obtain ⟨w', hw, rw'⟩ := RelO.some_of (v := v) (o := valueAt vs k) (by rw [← l]; exact rel.val k)
  have hp : (keyPart u).isSome = true := by
    cases k with
    | inl i => obtain ⟨t, q⟩ := (show ∃ t, u = Value.int i t from ry); subst q; rfl
    | inr x => obtain ⟨t, q⟩ := (show ∃ t, u = Value.str x t from ry); subst q; rfl
  have ha : argsOk "dict.pop" ⟨.ref a :: u :: more, []⟩ := by
    rcases hm with q | ⟨x, q⟩
    · subst q; exact PySem.F.args_dict_pop_2 _ _
    · subst q; exact PySem.F.args_dict_pop_3 _ _ _
  refine call_meetsIn PySem.F.slot_dict_pop dd.typeIs PySem.F.entry_dict_pop ha (meets_dict_pop_there (mixKind X.prog X.w) a (kV_is ry) more hm hp)
    ⟨vs, w', dd, by rw [← rel.length]; exact z, hw, fun h' dd' hs => h w' _ ?_ rw'⟩
  have he : ∃ q, h'.get? a = some q := let ⟨q, _, _, hq, _⟩ := dd'; ⟨q, hq⟩
  exact d_write I (by rw [e]; exact True.intro) hs he (dk_new (Nat.le_trans (dropK_le kvs k) z) hd (rel.drop k) dd')
/-- len(d) -/
theorem d_len {Q : Value → Shared → Prop} (I : Inv X pins σ H s) (e : Rd H a (.dK kvs)) (h : ∀ t s', Inv X pins σ H s' → Q (.int kvs.length t) s') : wpAny (model X.prog X.w) A (call (.builtin "len") [.ref a]) Q E s := by
  obtain ⟨z, hd, vs, rel, dd⟩ := dk_rd I.hok e
  refine call_len_dict hd dd (by rw [← rel.length]; rw [sizeLine_eq] at z; omega) ?_
  rw [← rel.length]
  exact h _ _ (I.tok _)
end
/-- the element of a subscription, not a slice -/
def NoSl (i : Expr) : Prop := ∀ ov iv, subscripted i false ov iv = operate [ov, iv] (getItem ov iv)
theorem subD_of {prog : Program} {w : World} {A : Around} {E : Value → Shared → Prop} {s : Shared} {env : Env} {value slice : Expr} {pos : Pos} {T id : String} {Q : Value → Shared → Prop}
    (hl : typeLookup (.type T) "__getitem__" = pure (some (.builtin id))) (hs : NoSl slice)
    (h : wpAny (model prog w) A (eval value env) (fun o s₁ => wpAny (model prog w) A (eval slice env) (fun i s₂ => s₂.TypeIs o T ∧ wpAny (model prog w) A (getItem o i) Q E s₂) E s₁) E s) :
    wpAny (model prog w) A (eval (.Subscript value slice pos) env) Q E s := by
  refine Subscript_ (wpAny_mono h (fun o s₁ h₁ => wpAny_mono h₁ (fun i s₂ h₂ => ?_) fun _ _ x => x) fun _ _ x => x)
  obtain ⟨hT, h₂⟩ := h₂
  unfold subscriptTail
  refine wpAny_bind ?_
  rw [getitemInPython_of_ne hT.not_modules]
  refine wpAny_bind (wpAny_specialOf hT hl ?_)
  have fin : wpAny (model prog w) A (subscripted slice false o i) (fun r s₃ => wpAny (model prog w) A (letTemporaryGo value o r >>= fun _ => pure r) Q E s₃) E s₂ := by
    rw [hs o i]
    exact wpAny_operating (wpAny_mono h₂ (fun r s₃ h₃ => wpAny_bind (wpAny_letTemporaryGo (wpAny_pure h₃))) fun _ _ x => x)
  first
    | exact wpAny_pure (wpAny_bind fin)
    | exact wpAny_bind (wpAny_pure (wpAny_bind fin))
    | exact wpAny_bind fin
theorem dict_typeIs {X : Cx} {pins : List (Addr × Obj)} {σ : St} {H : Hp} {s : Shared} {a : Addr} {y : V} {o : Option V} (I : Inv X pins σ H s) (g : DGet H a y o) : s.TypeIs (.ref a) "dict" := by
  rcases g with ⟨kvs, k, e, _, _⟩ | ⟨kvs, k, b, e, _, _, _⟩
  · obtain ⟨_, _, vs, _, dd⟩ := dk_rd I.hok e
    exact dd.typeIs
  · obtain ⟨_, _, xs, _, dd⟩ := dt_rd I.hok e
    exact dd.typeIs
/-- d[y] -/
def tDGet (td ty : TE) : TE := fun σ H Q => td σ H fun x H1 => ty σ H1 fun y H2 => ∃ a v, x = .ref a ∧ DGet H2 a y (some v) ∧ Q v H2
/-- d[y] = v -/
def sDPut (td ty tv : TE) : TS := fun D σ H => tv σ H fun v H1 => td σ H1 fun x H2 => ty σ H2 fun y H3 => ∃ a H4, x = .ref a ∧ DPut H3 a y v H4 ∧ D.nx σ H4
section
variable {X : Cx} {o i e value : Expr} {pos pos' tpos : Pos} {td ty tv : TE}
theorem pe_dget (hu : X.A.units + 1 < cLine) (ho : PE X o td) (hi : PE X i ty) (hs : NoSl i) : PE X (.Subscript o i pos) (tDGet td ty) := by
  intro pins s σ H Q I h
  refine subD_of PySem.F.slot_dict_getitem.lookup hs (thn (ho pins s σ H _ I h) fun u s1 ⟨x, H1, I1, rx, q1⟩ => thn (hi pins s1 σ H1 _ I1 q1) fun iv s2 ⟨y, H2, I2, ry, a, v, ex, g, q2⟩ => ?_)
  subst ex
  obtain rfl : u = Value.ref a := rx
  exact ⟨dict_typeIs I2 g, d_getItem hu I2 g ry fun w' s3 I3 rw' => ⟨v, H2, I3, rw', q2⟩⟩
theorem ps_dput (hu : X.A.units + 1 < cLine) (ho : PE X o td) (hi : PE X i ty) (hv : PE X value tv) (hs : swapsWith value (some (.Subscript o i pos')) pos.line X.env = pure false) :
    PS X (.Assign [.Subscript o i pos'] value pos) (sDPut td ty tv) := by
  intro pins s σ H D I h
  refine wpAny_Assign_Subscript (thn (hv pins s σ H _ I h) fun r s1 ⟨v, H1, I1, rv, q1⟩ => thn (ho pins s1 σ H1 _ I1 q1) fun u s2 ⟨x, H2, I2, rx, q2⟩ => thn (hi pins s2 σ H2 _ I2 q2) fun iv s3 ⟨y, H3, I3, ry, a, H4, ex, g, q3⟩ => ?_) hs
  subst ex
  obtain rfl : u = Value.ref a := rx
  exact d_setItem hu I3 g ry rv fun s4 I4 => ⟨σ, H4, I4, q3⟩
end
theorem dk_empty {P : Program} {w : World} {H : Hp} (h : Heap) (hb : sysModules < h.objs.size) : ObjOk P w H (h.push { cls := .type "dict", data := .dict #[] }) h.objs.size (.dK []) :=
  ⟨Nat.zero_le _, beq_eq_false_iff_ne.mpr (Ne.symm (Nat.ne_of_lt hb)), [], .nil, Heap.DictOf.new h⟩
/-- {}, to be a dict of the kind that is wanted -/
def tDNewK : TE := fun _ H Q => ∀ p, H p = none → Q (.ref p) (upd H p (.dK []))
section
variable {X : Cx} {pos : Pos}
theorem pe_dnewK : PE X (.Dict [] [] pos) tDNewK := fun pins s σ H Q I h =>
  wpAny_Dict_empty ⟨.ref s.heap.objs.size, _, I.laid (a := s.heap.objs.size) (o := .dK []) (t' := s.toks) (fun _ _ q => Heap.get?_push_of_some _ q) (Nat.le_refl _) (dk_empty s.heap I.big), rfl, h _ (I.hok.fresh (Nat.le_refl _))⟩
end
def mergeK (kvs more : List (Key × V)) : List (Key × V) := more.foldl (fun acc kv => putK acc kv.1 kv.2) kvs
theorem KV.merge : ∀ {more : List (Key × V)} {rs : List (Key × Value)} {kvs : List (Key × V)} {vs : List (Key × Value)}, KV more rs → KV kvs vs → KV (mergeK kvs more) (merged vs rs) := by
  intro more rs kvs vs r
  unfold KV at r
  induction r generalizing kvs vs with
  | nil => intro q; exact q
  | @cons p q ps qs h t ih =>
    intro r0
    have e : KV (putK kvs p.1 p.2) (stored vs q.1 q.2) := by
      have := r0.put p.1 h.2
      rw [← h.1]; exact this
    exact ih e
theorem length_mergeK : ∀ (more kvs : List (Key × V)), (mergeK kvs more).length ≤ kvs.length + more.length
  | [], kvs => by show kvs.length ≤ kvs.length + 0; omega
  | p :: r, kvs => by
    have h1 := length_mergeK r (putK kvs p.1 p.2)
    have h2 := length_putK kvs p.1 p.2
    show (mergeK (putK kvs p.1 p.2) r).length ≤ _
    rw [List.length_cons]; omega
/-- a method call o.m(e) of a built-in, with one argument: what must be seen of the text -/
structure M1 (X : Cx) (o : Expr) (m : Str) (apos : Pos) (e : Expr) (cpos : Pos) : Prop where
  base : attributeBase o m X.env (eval o X.env) = eval o X.env
  few : ((backTo cpos (starEach [e] X.env)).all (fun x => !x.1) && (backToKw cpos (keywordEach [] X.env)).all (fun x => x.1.isSome)
    && decide (([e] : List Expr).length + ([] : List Keyword).length + (if ([] : List Keyword).isEmpty then 0 else 1) < 30)) = true
  line : (apos.endLine == cpos.line) = true
  trees : backTo cpos (starEach [e] X.env) = [(false, eval e X.env)]
/-- a is a dict, whatever its keys -/
def IsD (H : Hp) (a : Addr) : Prop := (∃ kvs, Rd H a (.dK kvs)) ∨ ∃ kvs, Rd H a (.dT kvs)
theorem isD_at {X : Cx} {pins : List (Addr × Obj)} {σ : St} {H : Hp} {s : Shared} {a : Addr} (I : Inv X pins σ H s) (d : IsD H a) :
    s.TypeIs (.ref a) "dict" ∧ (∀ b, Value.ref a = .ref b → ∃ ob, s.heap.get? b = some ob ∧ ob.dict = none) ∧ (a == sysModules) = false := by
  rcases d with ⟨kvs, e⟩ | ⟨kvs, e⟩
  · obtain ⟨_, hd, vs, _, dd⟩ := dk_rd I.hok e
    refine ⟨dd.typeIs, fun b q => ?_, hd⟩
    cases q
    obtain ⟨ob, _, _, h1, h2, _⟩ := dd
    exact ⟨ob, h1, h2.2.1⟩
  · obtain ⟨_, hd, xs, _, dd⟩ := dt_rd I.hok e
    refine ⟨dd.typeIs, fun b q => ?_, hd⟩
    cases q
    obtain ⟨ob, _, _, h1, h2, _⟩ := dd
    exact ⟨ob, h1, h2.2.1⟩
section
variable {X : Cx} {pins : List (Addr × Obj)} {σ : St} {H : Hp} {s : Shared} {a : Addr} {y d : V} {u r : Value} {o : Option V} {A : Around} {E : Value → Shared → Prop}
/-- d.get(y) -/
theorem d_get1 {Q : Value → Shared → Prop} (hu : A.units + 1 < cLine) (I : Inv X pins σ H s) (g : DGet H a y o) (ry : RelV y u) (h : ∀ w' s', Inv X pins σ H s' → RelV (o.getD .non) w' → Q w' s') :
    wpAny (model X.prog X.w) A (call (.builtin "dict.get") [.ref a, u]) Q E s := by
  rcases g with ⟨kvs, k, e, ey, l⟩ | ⟨kvs, k, b, e, ey, eb, l⟩
  · subst ey
    obtain ⟨z, hd, vs, rel, dd⟩ := dk_rd I.hok e
    refine call_meetsIn PySem.F.slot_dict_get dd.typeIs PySem.F.entry_dict_get (PySem.F.args_dict_get_2 _ _) (meets_dict_get (mixKind X.prog X.w) a (kV_is ry) hd) ⟨_, dd.mapOf, h _ _ (I.tok _) ?_⟩
    rw [l]
    exact (rel.val k).getD rfl
  · subst ey
    cases (show u = Value.ref b from ry)
    obtain ⟨z, hd, xs, rel, dd⟩ := dt_rd I.hok e
    refine call_meetsIn PySem.F.slot_dict_get dd.typeIs PySem.F.entry_dict_get (PySem.F.args_dict_get_2 _ _) (meetsH_dict_get (tupleKind (mixKind X.prog X.w)) a b hd) ⟨tupleKind_room_in1 hu, k, xs, key_of I.hok eb, dd, h _ _ (I.tok _) ?_⟩
    rw [l]
    exact (rel.val k).getD rfl
end
def tDGet1 (td ty : TE) : TE := fun σ H Q => td σ H fun x H1 => ∃ a, x = .ref a ∧ IsD H1 a ∧ ty σ H1 fun y H2 => ∃ o, DGet H2 a y o ∧ Q (o.getD .non) H2
/-- d.pop(k): there; d.pop(k, x): there or not -/
def tDPop1 (td ty : TE) : TE := fun σ H Q => td σ H fun x H1 => ∃ a, x = .ref a ∧ IsD H1 a ∧ ty σ H1 fun y H2 => ∃ kvs k v, H2 a = some (.dK kvs) ∧ y = kV k ∧ valV kvs k = some v ∧ Q v (upd H2 a (.dK (dropK kvs k)))
section
variable {X : Cx} {o e f : Expr} {apos cpos : Pos} {td ty tx : TE}
theorem pe_dget1 (hu : X.A.units + 1 < cLine) (ho : PE X o td) (he : PE X e ty) (m : M1 X o "get" apos e cpos) : PE X (.Call (.Attribute o "get" apos) [e] [] cpos) (tDGet1 td ty) := by
  intro pins s σ H Q I h
  refine wpAny_Call_method m.base m.few m.line PySem.F.plainAttrs_dict PySem.F.slot_dict_get PySem.F.type_dict_get (thn (ho pins s σ H _ I h) fun u s1 ⟨x, H1, I1, rx, a, ex, d, q1⟩ => ?_)
  subst ex
  obtain rfl : u = Value.ref a := rx
  obtain ⟨t1, t2, _⟩ := isD_at I1 d
  refine ⟨t1, t2, ?_⟩
  rw [m.trees]
  refine Calls.callWith_builtin rfl (Calls.evalArgs_plain (Calls.spliced_cons (thn (he pins s1 σ H1 _ I1 q1) fun iv s2 ⟨y, H2, I2, ry, ov, g, q2⟩ => Calls.spliced_nil ?_)))
  exact d_get1 hu I2 g ry fun w' s3 I3 rw' => ⟨_, H2, I3, rw', q2⟩
theorem pe_dpop1 (ho : PE X o td) (he : PE X e ty) (m : M1 X o "pop" apos e cpos) : PE X (.Call (.Attribute o "pop" apos) [e] [] cpos) (tDPop1 td ty) := by
  intro pins s σ H Q I h
  refine wpAny_Call_method m.base m.few m.line PySem.F.plainAttrs_dict PySem.F.slot_dict_pop PySem.F.type_dict_pop (thn (ho pins s σ H _ I h) fun u s1 ⟨x, H1, I1, rx, a, ex, d, q1⟩ => ?_)
  subst ex
  obtain rfl : u = Value.ref a := rx
  obtain ⟨t1, t2, _⟩ := isD_at I1 d
  refine ⟨t1, t2, ?_⟩
  rw [m.trees]
  refine Calls.callWith_builtin rfl (Calls.evalArgs_plain (Calls.spliced_cons (thn (he pins s1 σ H1 _ I1 q1) fun iv s2 ⟨y, H2, I2, ry, kvs, k, v, ea, ey, l, q2⟩ => Calls.spliced_nil ?_)))
  subst ey
  exact d_pop I2 ea ry l (.inl rfl) fun w' s3 I3 rw' => ⟨v, _, I3, rw', q2⟩
end
section
variable {X : Cx} {pins : List (Addr × Obj)} {σ : St} {H : Hp} {s : Shared} {a : Addr} {kvs : List (Key × V)} {A : Around} {E : Value → Shared → Prop}
end
section
variable {X : Cx} {pins : List (Addr × Obj)} {σ : St} {H : Hp} {s : Shared} {a : Addr} {y : V} {u : Value} {A : Around} {E : Value → Shared → Prop}
end
end L2
namespace L2
open PySem PySem.Spec PyProof.Rows
theorem list_keys_none : typeLookup (.type "list") "keys" = pure none := am_miss_of_fast (by first | decide +kernel | rfl)
theorem ud_entry : entryFor table "dict.update.loop" = some Builtin.«dict.update.loop» := entryFor_of_tree (by kernel_rfl)
theorem ud_plain : plainId "dict.update.loop" = true := by decide +kernel
section
variable {prog : Program} {w : World} {A : Around} {E : Value → Shared → Prop}
/-- a list has no attribute 'keys': an AttributeError is made, and forgotten -/
theorem miss_list {s : Shared} {a : Addr} {o : Obj} {xs : Array Value} {k : Nat} {Q : Option Value → Shared → Prop} (hx : s.heap.get? a = some o) (hc : o.cls = .type "list") (hdat : o.data = .seq xs k) (hd : o.dict = none) (hA : A.handled = none)
    (h : ∀ h' tk, (∀ b ob, s.heap.get? b = some ob → h'.get? b = some ob) → Q none { s with heap := h', toks := tk }) : wpAny (model prog w) A (getAttr? (.ref a) "keys") Q E s := by
  obtain ⟨c, dct, dat, sl⟩ := o
  simp only at hc hdat hd
  subst hc hdat hd
  obtain ⟨hp, g, d, tk, os⟩ := s
  have hT : ∀ tk', (⟨hp, g, d, tk', os⟩ : Shared).TypeIs (.ref a) "list" := fun _ => ⟨_, hx, rfl⟩
  have hmiss := list_keys_none
  have hname : (["__module__", "__name__", "__qualname__", "__doc__", "__annotations__"] : List Str).contains "keys" = false := by decide +kernel
  have hsz : ("keys" : Str).length + 100 ≤ sizeLine := by first | size_fits | decide +kernel
  have f1 := sub_AttributeError
  have f3 := PySem.F.slot_list_getattribute.lookup
  have f4 := PySem.F.slot_list_getattribute.bind (.ref a)
  have f5 := am_list_getattr_none
  unfold getAttr? getAttrBy? getAttrBy
  repeat (any_goals (first | assumption | exact hT _ | ((with_reducible show wpAny _ _ (call (Value.builtin "list.__getattribute__") _ _) _ _ _); refine call_meets PySem.F.slot_list_getattribute (hT _) am_entry_list_getattribute (PySem.F.args_list_getattribute_2 _ _) (meets_getattribute_miss_list a xs k sl "keys" _ hmiss hname hsz) ⟨hx, hA, fun h' tk' e hx' => ?_⟩) | wp_step))
  obtain ⟨t', u', he⟩ := hx'.there
  show wpAny _ _ (getattributeRaised _ _ _ _ _ _ _) _ _ _
  unfold getattributeRaised
  repeat (any_goals (first | assumption | wp_step))
  all_goals first | exact h _ _ hx'.keeps | (dsimp only; repeat (any_goals (first | assumption | exact h _ _ hx'.keeps | wp_step)))
/-- the walk over the pairs -/
theorem upd_loop {R : Result → Shared → Prop} {S I l : Addr} {items : Array Value} {res : Value} (hh : A.handled = none) (hlI : l ≠ I) (hSI : S ≠ I) (hSl : S ≠ l) :
    ∀ (rest : List (Key × Value)) (i : Nat) (acc : List (Key × Value)) (ix : Int) (t : Tok) (s : Shared), items.size = i + rest.length → acc.length + rest.length ≤ sizeLine →
      (∀ (j : Nat) (q : Key × Value), rest[j]? = some q → ∃ (b : Addr) (u : Value), items[i + j]? = some (.ref b) ∧ b ≠ S ∧ b ≠ I ∧ IsTup s.heap b #[u, q.2] ∧ keyIs q.1 u = true) →
      s.heap.IsListIter I l i → s.heap.IsList l items → s.heap.DictOf (mixKind prog w) S acc →
      (∀ h' tk, h'.DictOf (mixKind prog w) S (merged acc rest) → (∀ b o, b ≠ S → b ≠ I → s.heap.get? b = some o → h'.get? b = some o) → R (.ok (.ret res)) { s with heap := h', toks := tk }) →
      codeAny (model prog w) A (.builtin "dict.update.loop" ⟨[.ref S, .ref I, .int ix t, res], []⟩) R s
  | [], i, acc, ix, t, s, hsz, hln, ht, hit, hl, hm, hR => by
    refine codeAny_builtin ud_entry ?_
    rw [Around.under_plainId ud_plain _]
    show wpAny _ A.in1 (pyNext (.ref I) >>= _) _ _ s
    refine wpAny_bind (wpAny_pyNext_list_end (A := A.in1) hh hit hl (by first | exact Array.getElem?_eq_none (Nat.le_of_eq hsz) | (simp at hsz; simp; omega)) fun h' he => ?_)
    show wpAny _ A.in1 (Builtin.Dict.addKeywords S [] >>= _) _ _ _
    refine wpAny_bind (wpAny_pure (wpAny_pure ?_))
    exact hR h' s.toks (hm.extBut he hSI) fun b o _ hb e => he b o hb e
  | q :: rest, i, acc, ix, t, s, hsz, hln, ht, hit, hl, hm, hR => by
    obtain ⟨b, u, hb, hbS, hbI, htup, hk⟩ := ht 0 q rfl
    rw [List.length_cons] at hsz hln
    refine codeAny_builtin ud_entry ?_
    rw [Around.under_plainId ud_plain _]
    show wpAny _ A.in1 (pyNext (.ref I) >>= _) _ _ s
    refine wpAny_bind (wpAny_pyNext_list_item (x := .ref b) hit hl (by simpa using hb) fun h1 hit1 hs1 => ?_)
    have ht1 : IsTup h1 b #[u, q.2] := htup.extBut hs1.extBut hbI
    have hl1 : h1.IsList l items := hl.extBut hs1.extBut hlI
    have hm1 : h1.DictOf (mixKind prog w) S acc := hm.extBut hs1.extBut hSI
    obtain ⟨o, ho, hc, n, hd⟩ := id ht1
    show wpAny _ A.in1 (holding [Value.ref b] _ >>= _) _ _ _
    refine wpAny_bind (wpAny_holding ?_)
    refine wpAny_bind (wpAny_tryCatch ?_)
    unfold Builtin.Dict.pairItems
    refine wpAny_bind (wpAny_typeOf (T := "tuple") ⟨o, ho, hc⟩ ?_)
    rw [if_pos (by first | decide | rfl | simp)]
    refine wpAny_bind (wpAny_seqItems ho hd (wpAny_pure ?_))
    show wpAny _ A.in1 (holding [u, q.2] (dictSet S u q.2)) _ _ _
    refine wpAny_holding (wpAny_dictSet_pairs (knd := mixKind prog w) (k := q.1) hk hm1 (fun h2 hm2 hs2 => ?_) (by omega))
    refine wpAny_pure ⟨plainId_quiet ud_plain _, upd_loop (items := items) hh hlI hSI hSl rest (i + 1) (stored acc q.1 q.2) (ix + 1) 0 _ (show items.size = i + 1 + rest.length by omega) ?_ (fun j q' e => ?_) ?_ ?_ hm2 fun h' tk hd' k => ?_⟩
    · have z := stored_length_le acc q.1 q.2
      omega
    · obtain ⟨b', u', hb', hbS', hbI', htup', hk'⟩ := ht (j + 1) q' (by simpa using e)
      refine ⟨b', u', ?_, hbS', hbI', (htup'.extBut hs1.extBut hbI').extBut hs2.extBut hbS', hk'⟩
      rw [show i + 1 + j = i + (j + 1) by omega]
      exact hb'
    · exact hit1.at fun o' e => hs2.extBut I o' (Ne.symm hSI) e
    · exact hl1.extBut hs2.extBut (Ne.symm hSl)
    · exact hR h' tk hd' fun c oc h3 h4 e => k c oc h3 h4 (hs2.extBut c oc h3 (hs1.extBut c oc h4 e))
/-- dict(l) of a list of pairs -/
theorem call_dict_pairs {s : Shared} {l : Addr} {ol : Obj} {items : Array Value} {n : Nat} {prs : List (Key × Value)} {Q : Value → Shared → Prop} (hh : A.handled = none) (hl : s.heap.get? l = some ol) (hc : ol.cls = .type "list") (hd : ol.dict = none)
    (hdat : ol.data = .seq items n) (hsz : items.size = prs.length) (hln : prs.length ≤ sizeLine)
    (ht : ∀ (j : Nat) (q : Key × Value), prs[j]? = some q → ∃ (b : Addr) (u : Value), items[j]? = some (.ref b) ∧ IsTup s.heap b #[u, q.2] ∧ keyIs q.1 u = true)
    (h : ∀ h' tk, h'.DictOf (mixKind prog w) s.heap.objs.size (merged [] prs) → (∀ b o, s.heap.get? b = some o → h'.get? b = some o) → Q (.ref s.heap.objs.size) { s with heap := h', toks := tk }) :
    wpAny (model prog w) A (call (.type "dict") [.ref l]) Q E s := by
  refine callType_codes (Q₁ := fun obj s₁ => obj = .ref s.heap.objs.size ∧ s₁ = { s with heap := s.heap.push { cls := .type "dict", data := .dict #[] } }) PySem.F.kt_called_dict (PySem.F.kt_typeCall_dict_1 _) PySem.F.entry_dict_init (kt_code_dict_new _ ⟨rfl, rfl⟩) ?_
  rintro obj s₁ ⟨rfl, rfl⟩
  have hnew : (s.heap.push { cls := .type "dict", data := .dict #[] }).DictOf (mixKind prog w) s.heap.objs.size [] := Heap.DictOf.new s.heap
  have k0 : ∀ b o, s.heap.get? b = some o → (s.heap.push { cls := .type "dict", data := .dict #[] }).get? b = some o := fun b o e => Heap.get?_push_of_some _ e
  refine ⟨hnew.typeIs, PySem.F.args_dict_init_2 _ _, ?_⟩
  unfold Builtin.«dict.__init__»
  refine wpAny_bind ?_
  unfold Builtin.Dict.selfAndRest
  refine wpAny_bind (wpAny_notOrdered_dict hnew.typeIs ?_)
  show wpAny _ _ (pure (s.heap.objs.size, [Value.ref l])) _ _ _
  refine wpAny_pure ?_
  show wpAny _ _ (Builtin.Dict.updateFrom "dict.__init__" s.heap.objs.size (.ref l) [] .none) _ _ _
  unfold Builtin.Dict.updateFrom
  refine wpAny_bind (wpAny_typeOf (T := "list") ⟨ol, k0 _ _ hl, hc⟩ ?_)
  rw [if_pos (by first | decide | rfl | simp)]
  refine wpAny_bind (miss_list (k0 _ _ hl) hc hdat hd hh fun h1 tk1 hk1 => ?_)
  rw [if_pos (show (none : Option Value).isNone = true from rfl)]
  refine wpAny_bind (wpAny_rule ?_)
  have hl1 : h1.IsList l items := ⟨ol, hk1 _ _ (k0 _ _ hl), hc, n, hdat⟩
  have hS1 : s.heap.objs.size < h1.objs.size := by
    have e : (s.heap.push { cls := .type "dict", data := .dict #[] }).get? s.heap.objs.size = some { cls := .type "dict", data := .dict #[] } := Heap.get?_push_size _ rfl
    exact Heap.lt_size (hk1 _ _ e)
  refine wpAny_bind (wpAny_pyIter_list hl1 ?_)
  have k2 : ∀ b o, h1.get? b = some o → (h1.push { cls := .type "list_iterator", data := .fields #[.ref l, .int 0 0] }).get? b = some o := fun b o e => Heap.get?_push_of_some _ e
  have hlt : l < s.heap.objs.size := Heap.lt_size hl
  have key := upd_loop (prog := prog) (w := w) (A := A.in1) (R := wants (fun r s₂ => r = .none ∧ Q (.ref s.heap.objs.size) s₂) E) (S := s.heap.objs.size) (I := h1.objs.size) (l := l) (items := items) (res := Value.none) hh
    (Nat.ne_of_lt (Nat.lt_trans hlt hS1)) (Nat.ne_of_lt hS1) (Nat.ne_of_gt hlt) prs 0 [] 0 0
    { s with heap := h1.push { cls := .type "list_iterator", data := .fields #[.ref l, .int 0 0] }, toks := tk1 } (by rw [hsz, Nat.zero_add]) (by rw [List.length_nil, Nat.zero_add]; exact hln)
    (fun j q e => by
      obtain ⟨b, u, e1, e2, e3⟩ := ht j q e
      have hb : b < s.heap.objs.size := e2.lt
      exact ⟨b, u, by rw [Nat.zero_add]; exact e1, Nat.ne_of_lt hb, Nat.ne_of_lt (Nat.lt_trans hb hS1), e2.keeps fun c o z => k2 _ _ (hk1 _ _ (k0 _ _ z)), e3⟩)
    ⟨_, Heap.get?_push_size _ rfl, rfl, rfl⟩ (hl1.at fun o e => k2 _ _ e) ((hnew.at fun o e => hk1 _ _ e).at fun o e => k2 _ _ e)
    (fun h' tk hd' k => ⟨rfl, h h' tk hd' fun b o e => k b o (Nat.ne_of_lt (Heap.lt_size e)) (Nat.ne_of_lt (Nat.lt_trans (Heap.lt_size e) hS1)) (k2 _ _ (hk1 _ _ (k0 _ _ e)))⟩)
  first
    | exact wpAny_pure ⟨plainId_quiet ud_plain _, key⟩
    | exact wpAny_bind (wpAny_pure (wpAny_pure ⟨plainId_quiet ud_plain _, key⟩))
end
section
variable {X : Cx}
theorem pairs_of {pins : List (Addr × Obj)} {σ : St} {H : Hp} {s : Shared} (I : Inv X pins σ H s) : ∀ {ps : List Addr} {kvs : List (Key × V)}, Paired (fun p kv => SqT X.K H p [kV kv.1, kv.2]) ps kvs →
    ∃ prs : List (Key × Value), KV kvs prs ∧ prs.length = ps.length ∧ ∀ (j : Nat) (q : Key × Value), prs[j]? = some q → ∃ (b : Addr) (u : Value), ps[j]? = some b ∧ IsTup s.heap b #[u, q.2] ∧ keyIs q.1 u = true
  | _, _, .nil => ⟨[], .nil, rfl, fun j q e => by simp at e⟩
  | _, _, .cons (a := p) (b := kv) h t => by
    obtain ⟨prs, r, hl, hp⟩ := pairs_of I t
    obtain ⟨its, rv, ht, _⟩ := I.tuple h
    obtain ⟨u, y, ei, ru, ry⟩ := vals2 rv
    subst ei
    refine ⟨(kv.1, y) :: prs, .cons ⟨rfl, ry⟩ r, by rw [List.length_cons, List.length_cons, hl], fun j q e => ?_⟩
    cases j with
    | zero =>
      have e' : (kv.1, y) = q := Option.some.inj e
      subst e'
      exact ⟨p, u, rfl, ht, kV_is (P := X.prog) (w := X.w) ru⟩
    | succ j =>
      obtain ⟨b, u', e1, e2, e3⟩ := hp j q (by simpa using e)
      exact ⟨b, u', by simpa using e1, e2, e3⟩
theorem refs_at : ∀ {ps : List Addr} {us : List Value}, Vals (ps.map V.ref) us → us = ps.map Value.ref
  | [], us, r => by
    rw [List.map_nil] at r
    cases r
    rfl
  | p :: ps, us, r => by
    rw [List.map_cons] at r
    cases r with
    | cons h t =>
      cases h
      rw [List.map_cons, ← refs_at t]
/-- dict(xs) of a list of pairs (key, value): later pairs win, the place is the first one's -/
theorem call_dictP (hcalm : X.calm = true) : CallR X (.type "dict") (fun xs H Q => ∃ (a : Addr) (ps : List Addr) (kvs : List (Key × V)), xs = [.ref a] ∧ SqL X.K H a (ps.map V.ref) ∧ Paired (fun p kv => SqT X.K H p [kV kv.1, kv.2]) ps kvs ∧
    ∀ p, H p = none → Q (.ref p) (upd H p (.dK (mergeK [] kvs)))) := by
  intro pins s σ H xs us Q I r q
  obtain ⟨a, ps, kvs, ex, hq, hp, q⟩ := q
  subst ex
  obtain ⟨u, eu, rx⟩ := vals1 r
  subst eu
  cases rx
  obtain ⟨its, rv, pl, hz⟩ := I.list hq
  have ei := refs_at rv
  subst ei
  rw [List.length_map] at hz
  obtain ⟨prs, rel, hl, hpr⟩ := pairs_of I hp
  obtain ⟨o, n, ho, hc, hd, hdat⟩ := pl
  refine call_dict_pairs (prs := prs) (I.ok.hd hcalm) ho hc hd hdat (by simp [hl]) (by rw [hl]; exact hz) (fun j q' e => ?_) fun h' tk hd' k => ?_
  · obtain ⟨b, u, e1, e2, e3⟩ := hpr j q' e
    exact ⟨b, u, by simp [e1], e2, e3⟩
  · have hm : (s.heap.objs.size == sysModules) = false := beq_eq_false_iff_ne.mpr (Nat.ne_of_gt I.big)
    have hlen : (mergeK [] kvs).length ≤ sizeLine := by
      refine Nat.le_trans (length_mergeK kvs []) ?_
      rw [List.length_nil, Nat.zero_add, rel.length, hl]
      exact hz
    exact ⟨.ref s.heap.objs.size, upd H s.heap.objs.size (.dK (mergeK [] kvs)), I.laid (t' := tk) k (Nat.le_refl _) (show ObjOk X.prog X.w _ _ _ (.dK (mergeK [] kvs)) from ⟨hlen, hm, merged [] prs, KV.merge rel .nil, hd'⟩), rfl, q _ (I.hok.fresh (Nat.le_refl _))⟩
end
end L2
namespace L2
open PySem PySem.Spec PyProof.Rows
section
variable {X : Cx} {pins : List (Addr × Obj)} {σ : St} {H : Hp} {s : Shared} {h' : Heap}
/-- several records of ours have turned -/
theorem Inv.turnedL {t' : Nat} {ch : List Addr} (I : Inv X pins σ H s) (k : ∀ b o, b ∉ ch → s.heap.get? b = some o → h'.get? b = some o) (hf : ∀ b ∈ ch, FpOk X pins H b) : Inv X pins σ H { s with heap := h', toks := t' } := by
  have nit : ∀ b u, H b = some u → b ∉ ch := fun b u e z => by
    have q := (hf b z).1
    rw [q] at e; cases e
  refine I.step (g' := s.gens) (d' := s.drawn) (ch := ch) (fun b hb => ⟨(hf b hb).2.2.2.1, (hf b hb).2.1, (hf b hb).2.2.2.2.1, (hf b hb).2.2.2.2.2⟩) (fun b o _ _ hc e _ => k b o hc e) (fun b o _ _ hc e _ => ⟨o.slots, k b o hc e⟩)
    (fun _ _ _ _ n => n) (fun b o hc e => ⟨o, k b o hc e⟩) (fun _ _ e => e) (fun _ _ _ e => e) (fun b ps e => ⟨#[], by rw [e]; simp⟩) (fun m hm => ?_) (fun b u e => ?_) I.bare
  · obtain ⟨o, es, ep, ho, r⟩ := hm
    exact ⟨o, es, ep, k _ o (fun z => (hf _ z).2.1 rfl) ho, r⟩
  · refine (I.hok b u e).stay (fun c v hc q => k c v ?_ q) (fun _ q => q) fun _ _ q => q
    rcases hc with z | z
    · rw [z]; exact nit b u e
    · exact nit c _ z
/-- .. and one new object is laid -/
theorem Inv.turnedNew {t' : Nat} {ch : List Addr} {T : Addr} {ob : HO} (I : Inv X pins σ H s) (k : ∀ b o, b ∉ ch → s.heap.get? b = some o → h'.get? b = some o) (hf : ∀ b ∈ ch, FpOk X pins H b) (hT : s.heap.objs.size ≤ T)
    (new : ObjOk X.prog X.w (upd H T ob) h' T ob) : Inv X pins σ (upd H T ob) { s with heap := h', toks := t' } := by
  have hn : H T = none := I.hok.fresh hT
  have nit : ∀ b u, H b = some u → b ∉ ch := fun b u e z => by
    have q := (hf b z).1
    rw [q] at e; cases e
  refine I.step (g' := s.gens) (d' := s.drawn) (ch := ch) (fun b hb => ⟨(hf b hb).2.2.2.1, (hf b hb).2.1, (hf b hb).2.2.2.2.1, (hf b hb).2.2.2.2.2⟩) (fun b o _ _ hc e _ => k b o hc e) (fun b o _ _ hc e _ => ⟨o.slots, k b o hc e⟩)
    (fun b o _ e n => ?_) (fun b o hc e => ⟨o, k b o hc e⟩) (fun b xs e => ?_) (fun b o u e => ?_) (fun b ps e => ⟨#[], ?_⟩) (fun m hm => ?_) (fun b u e => ?_) I.bare
  · rw [upd_ne (Nat.ne_of_lt (Nat.lt_of_lt_of_le (Heap.lt_size e) hT))]; exact n
  · rw [upd_ne (ne_of_none e hn)]; exact e
  · rw [upd_ne (ne_of_none e hn)]; exact e
  · rw [upd_ne (ne_of_none e hn), e]; simp
  · obtain ⟨o, es, ep, ho, r⟩ := hm
    exact ⟨o, es, ep, k _ o (fun z => (hf _ z).2.1 rfl) ho, r⟩
  · by_cases hb : b = T
    · subst hb
      rw [upd_same] at e
      cases e
      exact new
    · rw [upd_ne hb] at e
      refine (I.hok b u e).stay (fun c v hc q => k c v ?_ q) (fun c q => by rw [upd_ne (ne_of_none q hn)]; exact q) fun c xs q => by rw [upd_ne (ne_of_none q hn)]; exact q
      rcases hc with z | z
      · rw [z]; exact nit b u e
      · exact nit c _ z
theorem Inv.lock {d : Addr} {u : HO} (I : Inv X pins σ H s) (h : H d = some u) (mu : Mut (some u)) : ∃ od, Inv X pins σ (upd H d (.frz od u)) s := by
  have x := I.hok d u h
  have ex : ∃ od, s.heap.get? d = some od := by
    cases u with
    | lst xs => obtain ⟨_, _, _, _, e⟩ := x; exact ⟨_, e⟩
    | dK kvs => obtain ⟨_, _, _, _, o, _, _, e, _⟩ := x; exact ⟨o, e⟩
    | dT kvs => obtain ⟨_, _, _, _, o, _, _, e, _⟩ := x; exact ⟨o, e⟩
    | set S n => obtain ⟨o, _, _, _, e, _⟩ := x; exact ⟨o, e⟩
    | ins C dx fs => obtain ⟨_, _, _, e, _⟩ := x; exact ⟨_, e⟩
    | ext φ => obtain ⟨_, ⟨_, e⟩, _⟩ := x; exact ⟨_, e⟩
    | _ => exact False.elim mu
  obtain ⟨od, e⟩ := ex
  have new : ObjOk X.prog X.w (upd H d (.frz od u)) s.heap d (.frz od u) := by
    refine ⟨e, x.stay (fun b v _ q => q) (fun b q => ?_) fun b xs q => ?_⟩
    · rw [upd_ne (fun z => by rw [z, h] at q; cases q; exact mu)]; exact q
    · rw [upd_ne (fun z => by rw [z, h] at q; cases q; exact mu)]; exact q
  exact ⟨od, I.write (x := d) (e := d) (t' := s.toks) (h' := s.heap) (by rw [h]; exact mu) (.inl rfl) (fun b v _ q => q) ⟨od, e⟩ new⟩
theorem Inv.nofrz {d : Addr} {u : HO} (I : Inv X pins σ H s) (h : H d = some u) (mu : Mut (some u)) : ∀ o' u', X.H_0 d ≠ some (.frz o' u') := fun o' u' e => by
  have q := I.base.frzs d o' u' e
  rw [h] at q
  cases q
  exact mu
theorem Inv.unlock {d : Addr} {od : Obj} {u : HO} (I : Inv X pins σ H s) (h : H d = some (.frz od u)) (hn : ∀ o' u', X.H_0 d ≠ some (.frz o' u')) : Inv X pins σ (upd H d u) s := by
  have neH : ∀ b o, H b = some o → (∀ o' u', o ≠ .frz o' u') → b ≠ d := fun b o e hne z => by
    rw [z, h] at e
    cases e
    exact hne _ _ rfl
  have neN : ∀ b, H b = none → b ≠ d := fun b e z => by rw [z, h] at e; cases e
  refine ⟨I.ok, I.os, I.bare, ⟨I.base.keep, I.base.slot, fun b o e n hx => ?_, I.base.there, fun b xs e => ?_, fun b o x e => ?_, fun b ps e => ?_⟩, I.loc, I.cell, ?_, fun x c e => ?_, fun p hp => ?_, fun b o e => ?_, I.len⟩
  · rw [upd_ne (neN b (I.base.free b o e n hx))]; exact I.base.free b o e n hx
  · have q := I.base.tups b xs e
    rw [upd_ne (neH b _ q (fun _ _ z => nomatch z))]; exact q
  · have q := I.base.frzs b o x e
    rw [upd_ne (fun z => by rw [z] at e; exact hn _ _ e)]; exact q
  · obtain ⟨m, q⟩ := I.base.tbls b ps e
    exact ⟨m, by rw [upd_ne (neH b _ q (fun _ _ z => nomatch z))]; exact q⟩
  · rw [upd_ne (neN _ I.free)]; exact I.free
  · rw [upd_ne (neN c (I.freeC x c e))]; exact I.freeC x c e
  · obtain ⟨e, n, r⟩ := I.pin p hp
    exact ⟨e, by rw [upd_ne (neN _ n)]; exact n, r⟩
  · by_cases hb : b = d
    · rw [hb, upd_same] at e
      cases e
      rw [hb]
      obtain ⟨_, x⟩ := I.hok d _ h
      exact x.stay (fun c v _ q => q) (fun c q => by rw [upd_ne (neH c _ q (fun _ _ z => nomatch z))]; exact q) fun c xs q => by rw [upd_ne (neH c _ q (fun _ _ z => nomatch z))]; exact q
    · rw [upd_ne hb] at e
      exact (I.hok b o e).stay (fun c v _ q => q) (fun c q => by rw [upd_ne (neH c _ q (fun _ _ z => nomatch z))]; exact q) fun c xs q => by rw [upd_ne (neH c _ q (fun _ _ z => nomatch z))]; exact q
end
/-- the statement runs while the thing at d is locked (read, not written); d and what stands there are the reading's choice -/
def tLock (t : TS) : TS := fun D σ H => ∃ d u, H d = some u ∧ Mut (some u) ∧ ∀ od, t ⟨fun σ' H' => H' d = some (.frz od u) ∧ D.nx σ' (upd H' d u), fun v H' => H' d = some (.frz od u) ∧ D.rt v (upd H' d u), fun σ' H' => H' d = some (.frz od u) ∧ D.bk σ' (upd H' d u), fun σ' H' => H' d = some (.frz od u) ∧ D.ct σ' (upd H' d u)⟩ σ (upd H d (.frz od u))
def tLockE (t : TE) : TE := fun σ H Q => ∃ d u, H d = some u ∧ Mut (some u) ∧ ∀ od, t σ (upd H d (.frz od u)) fun v H' => H' d = some (.frz od u) ∧ Q v (upd H' d u)
section
variable {X : Cx}
theorem ps_lock {st : Stmt} {t : TS} (h : PS X st t) : PS X st (tLock t) := by
  intro pins s σ H D I hw
  obtain ⟨d, u, hd, mu, hw⟩ := hw
  obtain ⟨od, I1⟩ := I.lock hd mu
  refine thn (h pins s σ _ _ I1 (hw od)) fun f s1 q => ?_
  cases f with
  | next => obtain ⟨σ', H', I2, e, q⟩ := q; exact ⟨σ', _, I2.unlock e (I.nofrz hd mu), q⟩
  | brk => obtain ⟨σ', H', I2, e, q⟩ := q; exact ⟨σ', _, I2.unlock e (I.nofrz hd mu), q⟩
  | cont => obtain ⟨σ', H', I2, e, q⟩ := q; exact ⟨σ', _, I2.unlock e (I.nofrz hd mu), q⟩
  | ret v => obtain ⟨x, σ', H', I2, r, e, q⟩ := q; exact ⟨x, σ', _, I2.unlock e (I.nofrz hd mu), r, q⟩
theorem pe_lock {e : Expr} {t : TE} (h : PE X e t) : PE X e (tLockE t) := by
  intro pins s σ H Q I hw
  obtain ⟨d, u, hd, mu, hw⟩ := hw
  obtain ⟨od, I1⟩ := I.lock hd mu
  refine thn (h pins s σ _ _ I1 (hw od)) fun v s1 ⟨x, H1, I2, r, e2, q⟩ => ?_
  exact ⟨x, _, I2.unlock e2 (I.nofrz hd mu), r, q⟩
theorem pi_one {tg : Expr} {pins : List (Addr × Obj)} {σ : St} {H : Hp} {s : Shared} {R : It → Hp → Prop} {J : It} {tn : Nat → Heap → Prop} {tk : Nat} (I : Inv X pins σ H s) (o : Obj)
    (T : Turn X.prog X.w X.K tg J [s.heap.objs.size] s.heap.objs.size tn) (st : tn 0 (s.heap.push o)) (q : R J H) : PIE X pins σ tg R (.ref s.heap.objs.size) { s with heap := s.heap.push o, toks := tk } := by
  refine ⟨s.heap.objs.size, [s.heap.objs.size], tn, J, H, rfl, I.kept fun b ob e => Heap.get?_push_of_some _ e, T, st, fun b hb => ?_, q⟩
  have e : b = s.heap.objs.size := by simpa using hb
  subst e
  exact I.fpOk (Nat.le_refl _) (I.hok.fresh (Nat.le_refl _))
end
section
variable {X : Cx} {tg : Expr}
end
section
variable {X : Cx} {tg : Expr}
end
section
variable {prog : Program} {w : World} {A : Around} {E : Value → Shared → Prop} {s : Shared}
theorem iter_keys {d : Addr} {o : Obj} {es : Array DictEntry} {ep : Nat} {Q : Value → Shared → Prop} (hd : (d == sysModules) = false) (ho : s.heap.get? d = some o) (hc : o.ExactDict) (hdat : o.data = .dict es ep)
    (hQ : Q (.ref s.heap.objs.size) { s with heap := s.heap.push { cls := .type "dict_keyiterator", data := .fields #[.ref d, .int 0 0, .int es.size 0, .int ep 0] } }) :
    wpAny (model prog w) A (pyIter (.ref d)) Q E s := by
  have hT : s.TypeIs (.ref d) "dict" := ⟨o, ho, hc.1⟩
  refine wpAny_pyIter_slot hT F.slot_dict_iter (wpAny_call_entry F.slot_dict_iter hT F.entry_dict_iter ?_ (F.args_dict_iter_1 _))
  unfold Builtin.«dict.__iter__»
  refine wpAny_bind ?_
  unfold Builtin.Dict.dictSlotNone
  refine wpAny_bind (wpAny_notOrdered_dict hT ?_)
  show wpAny _ _ (pure (Value.ref d)) _ _ s
  refine wpAny_pure ?_
  show wpAny _ _ (Builtin.Dict.showsAll d >>= _) _ _ s
  unfold Builtin.Dict.showsAll
  rw [if_neg (by rw [hd]; exact Bool.false_ne_true)]
  refine wpAny_bind (wpAny_pure ?_)
  refine wpAny_bind (wpAny_dictEntries ho hdat ?_)
  refine wpAny_bind (wpAny_dictEpoch ho hdat ?_)
  refine wpAny_bind (wpAny_newObj_type (wpAny_pure ⟨_, rfl, "dict_keyiterator", _, ⟨_, Heap.get?_push_size _ rfl, rfl⟩, F.slot_dict_keyiterator_next.lookup, ?_⟩))
  simpa [rawInt] using hQ
end
theorem kv_get {κ : Type} {kvs : List (κ × V)} {vs : List (κ × Value)} (h : KV kvs vs) : ∀ {i : Nat} {k : κ} {v : V}, kvs[i]? = some (k, v) → ∃ u, vs[i]? = some (k, u) ∧ RelV v u := by
  unfold KV at h
  induction h with
  | nil => intro i k v e; simp at e
  | @cons a b l₁ l₂ r t ih =>
    intro i k v e
    cases i with
    | zero =>
      simp only [List.getElem?_cons_zero, Option.some.injEq] at e
      subst e
      refine ⟨b.2, ?_, r.2⟩
      simp only [List.getElem?_cons_zero]
      exact congrArg some (Prod.ext r.1.symm rfl)
    | succ j =>
      simp only [List.getElem?_cons_succ] at e ⊢
      exact ih e
theorem relV_key {k : Key} {u : Value} (h : keyIs k u = true) : RelV (kV k) u := by
  rcases keyIs_shape h with ⟨i, t, rfl, rfl⟩ | ⟨x, t, rfl, rfl⟩
  · exact ⟨t, rfl⟩
  · exact ⟨t, rfl⟩
section
variable {X : Cx} {pins : List (Addr × Obj)} {σ : St} {H : Hp} {s : Shared} {d : Addr} {o : Obj}
theorem Inv.frzK {kvs : List (Key × V)} (I : Inv X pins σ H s) (h : H d = some (.frz o (.dK kvs))) :
    (d == sysModules) = false ∧ s.heap.get? d = some o ∧ o.ExactDict ∧ ∃ (es : Array DictEntry) (ep : Nat) (vs : List (Key × Value)), o.data = .dict es ep ∧ es.size = kvs.length ∧ KV kvs vs ∧ s.heap.DictAt (mixKind X.prog X.w) d vs ep := by
  obtain ⟨hd, z, hs, vs, kv, o', es, ep, ho, hx, hdt, r⟩ := I.hok d _ h
  rw [hd] at ho
  cases ho
  refine ⟨hs, hd, hx, es, ep, vs, hdt, ?_, kv, o, es, hd, hx, hdt, r⟩
  have l1 := r.2.1.length
  have l2 : kvs.length = vs.length := Paired.length kv
  rw [Array.length_toList] at l1
  omega
end
/-- the values -/
def Itd (d : Addr) (o : Obj) (kvs : List (Key × V)) : It :=
  ⟨fun i H => H d = some (.frz o (.dK kvs)) ∧ i < kvs.length, fun i H x H' => H' = H ∧ ∃ k, kvs[i]? = some (k, x), fun i H => H d = some (.frz o (.dK kvs)) ∧ kvs.length ≤ i⟩
/-- the pairs, each a new tuple -/
def Iti (d : Addr) (o : Obj) (kvs : List (Key × V)) : It :=
  ⟨fun i H => H d = some (.frz o (.dK kvs)) ∧ i < kvs.length, fun i H x H' => ∃ T k v, kvs[i]? = some (k, v) ∧ x = .ref T ∧ H T = none ∧ H' = upd H T (.tup [kV k, v]), fun i H => H d = some (.frz o (.dK kvs)) ∧ kvs.length ≤ i⟩
theorem dict_ep {o : Obj} {es es' : Array DictEntry} {ep ep' : Nat} (h : o.data = .dict es ep) (h' : o.data = .dict es' ep') : es' = es ∧ ep' = ep := by
  rw [h] at h'
  cases h'
  exact ⟨rfl, rfl⟩
section
variable {P : Program} {w : World} {K : PySem.W.Frag} {tg : Expr} {d : Addr} {o : Obj} {es : Array DictEntry} {ep : Nat}
theorem turn_vals {kvs : List (Key × V)} (it : Addr) (hod : o.data = .dict es ep) : Turn P w K tg (Itd d o kvs) [it] it (fun i h => h.IsValIter it d i kvs.length ep) where
  mem := by simp
  obj := fun i h st b hb => by
    have e : b = it := by simpa using hb
    subst e
    obtain ⟨oi, e, c, dd⟩ := st
    exact ⟨oi, e, fun v z => by rw [dd] at z; cases z⟩
  keep := fun i h h' st k => st.at fun oi e => k it (by simp) oi e
  item := by
    intro X hP hw hK hc i pins s σ H E I hf st hg
    subst hP hw hK
    obtain ⟨hd, hi⟩ := hg
    obtain ⟨f0, f1, f2, f3, f4, f5⟩ := hf it (by simp)
    obtain ⟨hs, hgd, hx, es', ep', vs, hdt, hsz, kv, hm⟩ := I.frzK hd
    obtain ⟨rfl, rfl⟩ := dict_ep hod hdt
    obtain ⟨⟨k, v⟩, hkv⟩ : ∃ p, kvs[i]? = some p := ⟨kvs[i], List.getElem?_eq_getElem hi⟩
    obtain ⟨u, hu, ru⟩ := kv_get kv hkv
    have hl : kvs.length = vs.length := Paired.length kv
    rw [hl] at st
    refine wpAny_pyNext_values_item st hm hu fun h' st' sb => ?_
    have I1 : Inv X pins σ H { s with heap := h' } := I.turned (t' := s.toks) (fun b ob hb e => (sb.2 b hb).trans e) f0 f1 f3 f4 f5
    obtain ⟨oi, e, c, dd⟩ := id st'
    refine ⟨u, rfl, go_of (s := { s with heap := h' }) e c dd (by decide) ⟨v, H, I1, ru, ⟨rfl, k, hkv⟩, ?_, fun b hb => (hf b hb).1⟩⟩
    show h'.IsValIter it d (i + 1) kvs.length _
    rw [hl]
    exact st'
  done := by
    intro X hP hw hK hc i pins s σ H E I hf st hg
    subst hP hw hK
    obtain ⟨hd, hi⟩ := hg
    obtain ⟨f0, f1, f2, f3, f4, f5⟩ := hf it (by simp)
    obtain ⟨hs, hgd, hx, es', ep', vs, hdt, hsz, kv, hm⟩ := I.frzK hd
    obtain ⟨rfl, rfl⟩ := dict_ep hod hdt
    have hl : kvs.length = vs.length := Paired.length kv
    rw [hl] at st
    exact wpAny_pyNext_values_end (I.ok.hd hc) st hm (List.getElem?_eq_none (by omega)) fun h' eb => ⟨rfl, I.turned (t' := s.toks) (fun b ob hb e => eb b ob hb e) f0 f1 f3 f4 f5⟩
  self := fun A i s Q E st h => wpAny_pyIter_valiter st h
theorem turn_items {kvs : List (Key × V)} {elts : List Expr} {kk : Nat} {tpos : Pos} (it : Addr) (hod : o.data = .dict es ep) :
    Turn P w K (.Tuple elts kk tpos) (Iti d o kvs) [it] it (fun i h => ∃ ok ov, IsItemIter h it d i kvs.length ep ok ov) where
  mem := by simp
  obj := fun i h st b hb => by
    have e : b = it := by simpa using hb
    subst e
    obtain ⟨ok, ov, e⟩ := st
    exact ⟨_, e, fun v z => nomatch z⟩
  keep := fun i h h' st k => let ⟨ok, ov, e⟩ := st; ⟨ok, ov, k it (by simp) _ e⟩
  item := by
    intro X hP hw hK hc i pins s σ H E I hf st hg
    subst hP hw hK
    obtain ⟨hd, hi⟩ := hg
    obtain ⟨hs, hgd, hx, es', ep', vs, hdt, hsz, kv, hm⟩ := I.frzK hd
    obtain ⟨rfl, rfl⟩ := dict_ep hod hdt
    obtain ⟨⟨k, v⟩, hkv⟩ : ∃ p, kvs[i]? = some p := ⟨kvs[i], List.getElem?_eq_getElem hi⟩
    obtain ⟨u, hu, ru⟩ := kv_get kv hkv
    have hl : kvs.length = vs.length := Paired.length kv
    obtain ⟨ok, ov, he⟩ := st
    rw [hl] at he
    have hlt : it < s.heap.objs.size := Heap.lt_size he
    refine wpAny_pyNext_items_item he hm hu fun key h' hkey ho hT hz hk => ?_
    refine ⟨_, rfl, wpAny_letOwnedTupleGo_items (s := { s with heap := h' }) ho fun h'' he' sb => ?_⟩
    have hT2 : h''.get? s.heap.objs.size = some { cls := .type "tuple", data := .seq #[key, u] } := (sb.2 _ (Nat.ne_of_gt hlt)).trans hT
    have new : ObjOk X.prog X.w (upd H s.heap.objs.size (.tup [kV k, v])) h'' s.heap.objs.size (.tup [kV k, v]) :=
      ⟨by show 2 ≤ sizeLine; decide, [key, u], .cons (relV_key (show keyIs k key = true from hkey)) (.cons ru .nil), ⟨_, hT2, rfl, _, rfl⟩⟩
    have I1 : Inv X pins σ (upd H s.heap.objs.size (.tup [kV k, v])) { s with heap := h'' } :=
      I.turnedNew (t' := s.toks) (ch := [it]) (fun b ob hb e => (sb.2 b (by simpa using hb)).trans (hk b ob (by simpa using hb) e)) hf (Nat.le_refl _) new
    refine ⟨.ref s.heap.objs.size, _, I1, rfl, ⟨_, k, v, hkv, rfl, I.hok.fresh (Nat.le_refl _), rfl⟩, ⟨key, u, ?_⟩, fun b hb => ?_⟩
    · rw [hl]; exact he'
    · have e : b = it := by simpa using hb
      rw [e, upd_ne (Nat.ne_of_lt hlt)]
      exact (hf it (by simp)).1
  done := by
    intro X hP hw hK hc i pins s σ H E I hf st hg
    subst hP hw hK
    obtain ⟨hd, hi⟩ := hg
    obtain ⟨f0, f1, f2, f3, f4, f5⟩ := hf it (by simp)
    obtain ⟨hs, hgd, hx, es', ep', vs, hdt, hsz, kv, hm⟩ := I.frzK hd
    obtain ⟨rfl, rfl⟩ := dict_ep hod hdt
    have hl : kvs.length = vs.length := Paired.length kv
    obtain ⟨ok, ov, he⟩ := st
    rw [hl] at he
    exact wpAny_pyNext_items_end (I.ok.hd hc) he hm (List.getElem?_eq_none (by omega)) fun h' eb => ⟨rfl, I.turned (t' := s.toks) (fun b ob hb e => eb b ob hb e) f0 f1 f3 f4 f5⟩
  self := fun A i s Q E st h => let ⟨_, _, e⟩ := st; PySem.W.kcp_self e h
end
def iVals (td : TE) : TI := fun σ H R => td σ H fun x H1 => ∃ d o kvs, x = .ref d ∧ H1 d = some (.frz o (.dK kvs)) ∧ R (Itd d o kvs) H1
def iItems (td : TE) : TI := fun σ H R => td σ H fun x H1 => ∃ d o kvs, x = .ref d ∧ H1 d = some (.frz o (.dK kvs)) ∧ R (Iti d o kvs) H1
section
variable {X : Cx} {tg e : Expr} {td : TE} {apos cpos : Pos}
theorem pi_values (he : PE X e td) (hbase : attributeBase e "values" X.env (eval e X.env) = eval e X.env := by rfl) (hline : (apos.endLine == cpos.line) = true := by rfl) : PI X tg (.Call (.Attribute e "values" apos) [] [] cpos) (iVals td) := by
  intro pins s σ H R I h
  refine wpAny_Call_method (T := "dict") (id := "dict.values") hbase rfl hline F.plainAttrs_dict F.slot_dict_values F.type_dict_values (thn (he pins s σ H _ I h) fun u s1 ⟨x, H1, I1, rx, d, o, kvs, ex, hd, q⟩ => ?_)
  subst ex
  obtain rfl : u = Value.ref d := rx
  obtain ⟨hs, hgd, hx, es, ep, vs, hdt, hsz, kv, hm⟩ := I1.frzK hd
  have hl : kvs.length = vs.length := Paired.length kv
  refine ⟨hm.dictOf.typeIs, hm.dictOf.mapOf.noDict, ?_⟩
  have I2 : Inv X pins σ H1 { s1 with heap := s1.heap.push { cls := .type "dict_values", data := .fields #[.ref d] } } := I1.kept (t' := s1.toks) fun b ob q => Heap.get?_push_of_some _ q
  have fin : wpAny (model X.prog X.w) X.A (pyIter (.ref s1.heap.objs.size)) (PIE X pins σ tg R) X.xe { s1 with heap := s1.heap.push { cls := .type "dict_values", data := .fields #[.ref d] } } := by
    refine wpAny_pyIter_values (d := d) (knd := mixKind X.prog X.w) ⟨_, Heap.get?_push_size _ rfl, rfl, rfl⟩ (hm.push _) (pi_one (tk := s1.toks) I2 _ (turn_vals _ hdt) ⟨_, Heap.get?_push_size _ rfl, rfl, ?_⟩ q)
    rw [hl] <;> rfl
  show wpAny _ _ (callWith cpos (.builtin "dict.values") [.ref d] [] []) _ X.xe s1
  exact method_meetsIn F.slot_dict_values F.entry_dict_values rfl (PySem.evalArgs_none ⟨rfl, hm.dictOf.typeIs, F.args_dict_values_1 _, _, meets_dict_values (mixKind X.prog X.w) d hs, ⟨vs, hm.dictOf⟩, fin⟩)
theorem pi_items {elts : List Expr} {kk : Nat} {tpos : Pos} (he : PE X e td) (hbase : attributeBase e "items" X.env (eval e X.env) = eval e X.env := by rfl) (hline : (apos.endLine == cpos.line) = true := by rfl) :
    PI X (.Tuple elts kk tpos) (.Call (.Attribute e "items" apos) [] [] cpos) (iItems td) := by
  intro pins s σ H R I h
  refine wpAny_Call_method (T := "dict") (id := "dict.items") hbase rfl hline F.plainAttrs_dict F.slot_dict_items F.type_dict_items (thn (he pins s σ H _ I h) fun u s1 ⟨x, H1, I1, rx, d, o, kvs, ex, hd, q⟩ => ?_)
  subst ex
  obtain rfl : u = Value.ref d := rx
  obtain ⟨hs, hgd, hx, es, ep, vs, hdt, hsz, kv, hm⟩ := I1.frzK hd
  have hl : kvs.length = vs.length := Paired.length kv
  refine ⟨hm.dictOf.typeIs, hm.dictOf.mapOf.noDict, ?_⟩
  have I2 : Inv X pins σ H1 { s1 with heap := s1.heap.push { cls := .type "dict_items", data := .fields #[.ref d] } } := I1.kept (t' := s1.toks) fun b ob q => Heap.get?_push_of_some _ q
  have fin : wpAny (model X.prog X.w) X.A (pyIter (.ref s1.heap.objs.size)) (PIE X pins σ (.Tuple elts kk tpos) R) X.xe { s1 with heap := s1.heap.push { cls := .type "dict_items", data := .fields #[.ref d] } } := by
    refine wpAny_pyIter_items (d := d) (knd := mixKind X.prog X.w) ⟨_, Heap.get?_push_size _ rfl, rfl, rfl⟩ (hm.push _) (pi_one (tk := s1.toks) I2 _ (turn_items _ hdt) ⟨.none, .none, ?_⟩ q)
    rw [hl]
    exact Heap.get?_push_size _ rfl
  show wpAny _ _ (callWith cpos (.builtin "dict.items") [.ref d] [] []) _ X.xe s1
  exact method_meetsIn F.slot_dict_items F.entry_dict_items rfl (PySem.evalArgs_none ⟨rfl, hm.dictOf.typeIs, F.args_dict_items_1 _, _, meets_dict_items (mixKind X.prog X.w) d hs, ⟨vs, hm.dictOf⟩, fin⟩)
end
theorem boot_zip5 : bootBuiltins "zip" = some (.type "zip") := by decide +kernel
end L2
section 
namespace Bits
open PySem PyProof.Rows
end Bits
end 
section 
namespace TL
open PySem PySem.Builtin PySem.Builtin.Str PySem.StrLaws
end TL
end 
namespace L2
open PySem PySem.Spec PyProof.Rows
section
variable {X : Cx} {pins : List (Addr × Obj)} {σ : St} {H : Hp} {s : Shared} {Q : VK}
end
section
variable {X : Cx}
end
section
variable {X : Cx} {o e : Expr} {to te : TE}
end
end L2
namespace L2
open PySem PySem.Spec PyProof.Rows
section
variable {X : Cx}
end
end L2
namespace Att
open PySem PySem.W PySem.Calls PyProof.Rows
section
variable {prog : Program} {w : World} {A : Around} {E : Value → Shared → Prop} {s : Shared} {K : Frag}
end
end Att
namespace L2
open PySem PySem.Spec PyProof.Rows
end L2
namespace L2
open PySem PySem.Spec PyProof.Rows
end L2
namespace L2
open PySem PySem.Spec PyProof.Rows
/-- the j-th statement of a class's body -/
def inClass (s : Stmt) (j : Nat) : Stmt := match s with
  | .ClassDef _ _ _ body _ _ _ _ _ _ _ => body.getD j (.Pass ⟨0, 0, 0, 0⟩)
  | _ => .Pass ⟨0, 0, 0, 0⟩
def defArgs (s : Stmt) : Arguments := match s with
  | .FunctionDef _ a _ _ _ _ _ _ _ _ => a
  | _ => { posonlyargs := [], args := [], vararg := none, kwonlyargs := [], kw_defaults := [], kwarg := none, defaults := [] }
def defBody (s : Stmt) : List Stmt := match s with
  | .FunctionDef _ _ b _ _ _ _ _ _ _ => b
  | _ => []
def defScope (s : Stmt) : Scope := match s with
  | .FunctionDef _ _ _ _ _ _ sc _ _ _ => sc
  | _ => { kind := .function, names := [], isGenerator := false, isCoroutine := false }
abbrev CX0 : CXT := fun _ _ _ _ _ _ => False
abbrev E0 : XK := fun _ _ _ => False
theorem pass0 {X : Cx} : Passes CX0 X E0 := fun _ _ _ _ _ _ _ h => h.elim
structure Fun (K : PySem.W.Frag) (x qual : Str) (st : Stmt) (f : Addr) (fd : FuncData) : Prop where
  ex : ∃ (oc : Value) (od : Option Addr) (kV doc pm : Value) (an : Option Addr) (cdv ct : Value) (osl : Array (Option Value)),
    fd = PySem.W.fnOf x qual (defArgs st) (defBody st) (defScope st) .none kV doc pm an cdv ct ∧ K.lookup f = some ⟨oc, od, .func fd, osl⟩ ∧ PySem.W.codeIn K cdv qual = true
  kp : PySem.W.keepIn K (.ref f) = true
section
variable {P : Program} {w : World} {K : PySem.W.Frag} {mg : Str → Option Value} {base : Heap}
/-- THE RULE for a def: its body as a term of rules, and the reading of that term -/
theorem Fun.ok {x qual : Str} {st : Stmt} {f : Addr} {fd : FuncData} {N ps : List Str} {k : Nat} {sp : Sp} (F : Fun K x qual st f fd) (S : FnScope N ps (defScope st)) (len : ∀ vs H Q E, sp vs H Q E → vs.length = ps.length)
    (hbody : ∀ (cdv : Value) (A : Around) (outer : List Env) (s : Shared) (H : Hp) (vs : List V) (Q : VK) (E : XK), Room k (A.deeper (envOfC qual (defScope st) s.heap.objs.size f cdv)) → sp vs H Q E →
      ∃ t, PSs (cxOf CX0 P w K mg base N qual (defScope st) f cdv A outer s H E).nox (defBody st) t ∧ t { nx := fun _ H' => Q .non H', rt := Q } (start N vs) H) : FnOk P w K mg base CX0 (k + 1) f fd ps sp := by
  obtain ⟨oc, od, kV, doc, pm, an, cdv, ct, osl, rfl, lk, hcd⟩ := F.ex
  refine fn_of lk hcd S len fun A outer s H vs Q E hr hsp => ?_
  obtain ⟨t, h, q⟩ := hbody cdv A outer s H vs Q E hr hsp
  exact ⟨t, h.nox, q⟩
/-- how its arguments bind (no defaults): h is «fun _ _ _ _ _ _ us hl => match us, hl with | [_, _], _ => rfl», one _ a parameter -/
theorem Fun.binds {x qual : Str} {st : Stmt} {f : Addr} {fd : FuncData} {ps : List Str} (F : Fun K x qual st f fd)
    (h : ∀ (kV doc pm : Value) (an : Option Addr) (cdv ct : Value) (us : List Value), us.length = ps.length → bindArgs (PySem.W.fnOf x qual (defArgs st) (defBody st) (defScope st) .none kV doc pm an cdv ct) ⟨us, []⟩ = pure (ps.zip us)) : Binds K fd ps [] := by
  obtain ⟨oc, od, kV, doc, pm, an, cdv, ct, osl, rfl, lk, hcd⟩ := F.ex
  exact .all (h kV doc pm an cdv ct)
end
theorem hu_of {A : Around} {k : Nat} (hr : Room k A) : A.units + 1 < cLine := Nat.lt_of_le_of_lt (Nat.add_le_add_left (by decide : 1 ≤ 64) _) hr.units
theorem small1000 {n : Nat} (h : n ≤ 1000) : n < sizeLine := Nat.lt_of_le_of_lt h (by decide)
section
variable {X : Cx}
theorem pv (i : Nat) {x : Str} {pos : Pos} (hN : X.N[i]? = some x := by rfl) (hv : Vis X.env.scope x := by first | exact Or.inl rfl | exact Or.inr (Or.inl rfl) | exact Or.inr (Or.inr rfl)) (hd : (x == ("__debug__" : Str)) = false := by decide)
    (hcd : (x == ("__classdict__" : Str)) = false := by decide) : PE X (.Name x pos) (tVar i) := pe_var hN hv hd hcd
/-- len of a dict -/
theorem call_lenD : CallR X (.builtin "len") (fun xs H Q => ∃ a kvs, xs = [V.ref a] ∧ H a = some (.dK kvs) ∧ Q (.int kvs.length) H) := by
  intro pins s σ H xs us Q I r h
  obtain ⟨a, kvs, rfl, ha, q⟩ := h
  obtain ⟨u, rfl, ru⟩ := vals1 r
  cases ru
  exact d_len I (.inl ha) fun t s' I' => ⟨.int kvs.length, H, I', ⟨t, rfl⟩, q⟩
end
theorem iteF {A B : Prop} (h : B) : if false = true then A else B := by
  rw [if_neg Bool.false_ne_true]
  exact h
theorem iteT {A B : Prop} (h : A) : if true = true then A else B := by
  rw [if_pos rfl]
  exact h
theorem ite2 {c A B : Prop} [Decidable c] (h1 : c → A) (h2 : ¬ c → B) : if c then A else B := by
  by_cases h : c
  · rw [if_pos h]
    exact h1 h
  · rw [if_neg h]
    exact h2 h
/-- all that was tracked is as it was -/
def Same (H H' : Hp) : Prop := ∀ b o, H b = some o → H' b = some o
theorem Same.refl (H : Hp) : Same H H := fun _ _ h => h
theorem Same.trans {H H1 H2 : Hp} (a : Same H H1) (b : Same H1 H2) : Same H H2 := fun c o h => b c o (a c o h)
theorem Same.free {H H' : Hp} (e : Same H H') {l : Addr} (h : H' l = Option.none) : H l = Option.none := by
  cases q : H l with
  | none => rfl
  | some o =>
    rw [e l o q] at h
    cases h
theorem Same.seq {K : PySem.W.Frag} {H H' : Hp} {a : Addr} {xs : List V} (e : Same H H') (h : SqL K H a xs) : SqL K H' a xs := by
  rcases h with (h | ⟨o, h⟩) | h
  · exact .inl (.inl (e _ _ h))
  · exact .inl (.inr ⟨o, e _ _ h⟩)
  · exact .inr h
section
variable {κ : Type} [DecidableEq κ]
theorem valV_in {kvs : List (κ × V)} {k : κ} {v : V} (h : valV kvs k = some v) : k ∈ kvs.map (·.1) := by
  have q : (kvs.any fun kv => decide (kv.1 = k)) = true := by
    rw [valV_any, h]
    all_goals rfl
  obtain ⟨p, hp, e⟩ := List.any_eq_true.mp q
  exact List.mem_map.mpr ⟨p, hp, of_decide_eq_true e⟩
theorem nd_snoc : ∀ {l : List κ} {k : κ}, l.Nodup → ¬ k ∈ l → (l ++ [k]).Nodup
  | [], k, _, _ => by simp
  | a :: r, k, h, hk => by
    obtain ⟨h1, h2⟩ := List.nodup_cons.mp h
    show (a :: (r ++ [k])).Nodup
    refine List.nodup_cons.mpr ⟨fun m => ?_, nd_snoc h2 fun m => hk (List.mem_cons.mpr (Or.inr m))⟩
    rcases List.mem_append.mp m with q | q
    · exact h1 q
    · exact hk (List.mem_cons.mpr (Or.inl (List.mem_singleton.mp q).symm))
theorem dropK_pos {p : κ × V} {r : List (κ × V)} {k : κ} (e : p.1 = k) : dropK (p :: r) k = dropK r k := by
  unfold dropK
  rw [List.filter_cons, if_neg (by simp [e])]
theorem dropK_neg {p : κ × V} {r : List (κ × V)} {k : κ} (e : ¬ p.1 = k) : dropK (p :: r) k = p :: dropK r k := by
  unfold dropK
  rw [List.filter_cons, if_pos (by simp [e])]
end
theorem nd_ix {α : Type} {l : List α} (hN : l.Nodup) {i j : Nat} {x : α} (a : l[i]? = some x) (b : l[j]? = some x) : i = j := by
  obtain ⟨h1, e1⟩ := List.getElem?_eq_some_iff.mp a
  obtain ⟨h2, e2⟩ := List.getElem?_eq_some_iff.mp b
  exact (List.getElem_inj hN).mp (e1.trans e2.symm)
/-- a new instance and its __init__ leave all that was tracked as it was -/
theorem Same.made {H H1 : Hp} {x dx C : Addr} (nx : H x = Option.none) (nd : H dx = Option.none) (k : ∀ b o, (upd (upd H dx (.own x)) x (.ins C dx [])) b = some o → b ≠ x → H1 b = some o) : Same H H1 := fun b o e =>
  k b o (by rw [upd_ne (ne_of_none e nx), upd_ne (ne_of_none e nd)]; exact e) (ne_of_none e nx)
end L2
end

section
set_option Elab.async false
set_option linter.all false
set_option maxRecDepth 100000
set_option maxHeartbeats 2000000
namespace L2
open PySem PySem.Spec PyProof.Rows
open PySem.W (WData Codec OpenSpec Well WellAll ReadsW ReadsAllW)
mutual
/-- x stands for the datum d, lists and tuples all the way -/
inductive Dw (K : PySem.W.Frag) (H : Hp) : V → WData → Prop
  | non : Dw K H .non .none
  | bl (b : Bool) : Dw K H (.bl b) (.bool b)
  | int (i : Int) : Dw K H (.int i) (.int i)
  | str (x : Str) : Dw K H (.str x) (.str x)
  | byt (b : Array UInt8) : Dw K H (.byt b) (.bytes b.toList)
  | lst {a : Addr} {xs : List V} {ds : List WData} : SqL K H a xs → DwAll K H xs ds → Dw K H (.ref a) (.list ds)
  | tup {a : Addr} {xs : List V} {ds : List WData} : SqT K H a xs → DwAll K H xs ds → Dw K H (.ref a) (.tuple ds)
inductive DwAll (K : PySem.W.Frag) (H : Hp) : List V → List WData → Prop
  | nil : DwAll K H [] []
  | cons {v : V} {vs : List V} {d : WData} {ds : List WData} : Dw K H v d → DwAll K H vs ds → DwAll K H (v :: vs) (d :: ds)
end
theorem dw_ints {K : PySem.W.Frag} {H : Hp} : ∀ ns : List Int, DwAll K H (ns.map V.int) (ns.map WData.int)
  | [] => .nil
  | n :: r => .cons (.int n) (dw_ints r)
theorem ints_dw {K : PySem.W.Frag} {H : Hp} : ∀ (ns : List Int) (xs : List V), DwAll K H xs (ns.map WData.int) → xs = ns.map V.int
  | [], xs, h => by
    cases h
    rfl
  | n :: r, xs, h => by
    cases h with
    | cons h1 h2 =>
      cases h1
      rw [ints_dw r _ h2] <;> rfl
section
variable {P : Program} {w : World} {K : PySem.W.Frag} {H : Hp} {h : Heap} {R : PySem.W.WRecords} {cl : Str → Option Addr}
theorem sqL_at {a : Addr} {xs : List V} (hok : HOk P w H h) (KX : K.In h) (q : SqL K H a xs) : ∃ (its : List Value) (o : Obj) (n : Nat), Vals xs its ∧ h.get? a = some o ∧ o.cls = .type "list" ∧ o.data = .seq its.toArray n := by
  rcases q with q | ⟨o, its, n, e, hc, _, hd, _, hv⟩
  · obtain ⟨_, its, n, hv, e⟩ := (show ObjOk P w H h a (.lst xs) from q.ok hok)
    exact ⟨its, _, n, hv, e, rfl, rfl⟩
  · exact ⟨its.toList, o, n, hv, KX _ _ e, hc, by simp [hd]⟩
theorem sqT_at {a : Addr} {xs : List V} (hok : HOk P w H h) (KX : K.In h) (q : SqT K H a xs) : ∃ (its : List Value) (o : Obj) (n : Nat), Vals xs its ∧ h.get? a = some o ∧ o.cls = .type "tuple" ∧ o.data = .seq its.toArray n := by
  rcases q with q | ⟨o, its, n, e, hc, hd, _, hv⟩
  · obtain ⟨_, its, hv, o, e, hc, n, hd⟩ := (show ObjOk P w H h a (.tup xs) from q.ok hok)
    exact ⟨its, o, n, hv, e, hc, hd⟩
  · exact ⟨its.toList, o, n, hv, KX _ _ e, hc, by simp [hd]⟩
mutual
theorem Dw.reads (hok : HOk P w H h) (KX : K.In h) : ∀ (d : WData) (v : V) (u : Value), Dw K H v d → RelV v u → ∃ as, ReadsW R cl h u d as
  | .none, _, _, x, r => by
    cases x
    cases r
    exact ⟨_, ReadsW.none⟩
  | .bool b, _, _, x, r => by
    cases x
    cases r
    exact ⟨_, ReadsW.bool b⟩
  | .int i, _, _, x, r => by
    cases x
    obtain ⟨t, rfl⟩ := r
    exact ⟨_, ReadsW.int i t⟩
  | .str s, _, _, x, r => by
    cases x
    obtain ⟨t, rfl⟩ := r
    exact ⟨_, ReadsW.str s t⟩
  | .bytes b, _, _, x, r => by
    cases x
    obtain ⟨t, rfl⟩ := r
    exact ⟨_, ReadsW.bytes _ t⟩
  | .list ds, _, _, x, r => by
    cases x with
    | lst hs ha =>
      cases r
      obtain ⟨its, o, n, rv, ho, hc, hd⟩ := sqL_at hok KX hs
      obtain ⟨as, hr⟩ := Dw.readsAll hok KX ds _ its ha rv
      exact ⟨_, ReadsW.list ho hc hd hr⟩
  | .tuple ds, _, _, x, r => by
    cases x with
    | tup hs ha =>
      cases r
      obtain ⟨its, o, n, rv, ho, hc, hd⟩ := sqT_at hok KX hs
      obtain ⟨as, hr⟩ := Dw.readsAll hok KX ds _ its ha rv
      exact ⟨_, ReadsW.tuple ho hc hd hr⟩
  | .float _, _, _, x, _ => by cases x
  | .dict _, _, _, x, _ => by cases x
  | .bytearray _, _, _, x, _ => by cases x
  | .set _, _, _, x, _ => by cases x
  | .frozenset _, _, _, x, _ => by cases x
  | .obj _ _, _, _, x, _ => by cases x
theorem Dw.readsAll (hok : HOk P w H h) (KX : K.In h) : ∀ (ds : List WData) (vs : List V) (us : List Value), DwAll K H vs ds → Vals vs us → ∃ as, ReadsAllW R cl h us ds as
  | [], _, _, x, r => by
    cases x
    cases r
    exact ⟨_, ReadsAllW.nil⟩
  | d :: ds, _, _, x, r => by
    cases x with
    | cons h1 h2 =>
      cases r with
      | cons r1 r2 =>
        obtain ⟨as, q1⟩ := Dw.reads hok KX d _ _ h1 r1
        obtain ⟨bs, q2⟩ := Dw.readsAll hok KX ds _ _ h2 r2
        exact ⟨_, ReadsAllW.cons q1 q2⟩
end
end
mutual
/-- data that a codec tells -/
def plW : WData → Bool
  | .none => true
  | .bool _ => true
  | .int _ => true
  | .str _ => true
  | .bytes _ => true
  | .list xs => plWs xs
  | .tuple xs => plWs xs
  | _ => false
def plWs : List WData → Bool
  | [] => true
  | x :: r => plW x && plWs r
end
theorem plWs_map {α : Type} {f : α → WData} (h : ∀ a, plW (f a) = true) : ∀ l : List α, plWs (l.map f) = true
  | [] => rfl
  | x :: r => by
    show (plW (f x) && plWs (r.map f)) = true
    rw [h x, plWs_map h r] <;> rfl
theorem pl_enc : ∀ (c : Codec) (a : c.denote), plW (c.enc a) = true
  | .unit, _ => rfl
  | .bool, _ => rfl
  | .int _ _, _ => rfl
  | .nat _ _, _ => rfl
  | .u8, _ => rfl
  | .bytes _ _, _ => rfl
  | .text _ _ _ _, _ => rfl
  | .list _ _ c, a => plWs_map (fun x => pl_enc c x) a
  | .pair c d, a => by
    show (plW (c.enc a.1) && (plW (d.enc a.2) && true)) = true
    rw [pl_enc c a.1, pl_enc d a.2] <;> rfl
  | .triple c d e, a => by
    show (plW (c.enc a.1) && (plW (d.enc a.2.1) && (plW (e.enc a.2.2) && true))) = true
    rw [pl_enc c a.1, pl_enc d a.2.1, pl_enc e a.2.2] <;> rfl
  | .option c, none => rfl
  | .option c, some x => pl_enc c x
theorem pl_encAll : ∀ (cs : List Codec) (a : Codec.denoteAll cs), plWs (Codec.encAll cs a) = true
  | [], _ => rfl
  | c :: cs, a => by
    show (plW (c.enc a.1) && plWs (Codec.encAll cs a.2)) = true
    rw [pl_enc c a.1, pl_encAll cs a.2] <;> rfl
theorem weight_mem : ∀ {xs : List WData} {d : WData}, d ∈ xs → d.weight ≤ WData.weightAll xs
  | [], d, h => absurd h (by simp)
  | x :: r, d, h => by
    show d.weight ≤ x.weight + 1 + WData.weightAll r
    rcases List.mem_cons.mp h with e | m
    · rw [e]
      omega
    · have z := weight_mem m
      omega
def toV : Value → V
  | .none => .non
  | .bool b => .bl b
  | .int i _ => .int i
  | .str x _ => .str x
  | .bytes b _ => .byt b
  | .ref a => .ref a
  | _ => .non
/-- a value of the arguments, its objects among A -/
def OkU (A : List Addr) : Value → Prop
  | .none => True
  | .bool _ => True
  | .int _ _ => True
  | .str _ _ => True
  | .bytes _ _ => True
  | .ref a => a ∈ A
  | _ => False
theorem OkU.mono {A B : List Addr} (h : ∀ a ∈ A, a ∈ B) : ∀ {u : Value}, OkU A u → OkU B u := fun {u} x => by
  cases u with
  | ref a => exact h a x
  | none => trivial
  | bool b => trivial
  | int i t => trivial
  | str s t => trivial
  | bytes b t => trivial
  | _ => exact False.elim x
theorem relV_toV {A : List Addr} {u : Value} (x : OkU A u) : RelV (toV u) u := by
  cases u with
  | ref a => rfl
  | none => rfl
  | bool b => rfl
  | int i t => exact ⟨t, rfl⟩
  | str s t => exact ⟨t, rfl⟩
  | bytes b t => exact ⟨t, rfl⟩
  | _ => exact False.elim x
theorem vals_toV {A : List Addr} : ∀ {vs : List Value}, (∀ u ∈ vs, OkU A u) → Vals (vs.map toV) vs
  | [], _ => .nil
  | u :: r, h => .cons (relV_toV (h u (List.mem_cons_self ..))) (vals_toV fun x hx => h x (List.mem_cons_of_mem _ hx))
/-- an object of the arguments -/
def ArgOb (h : Heap) (A : List Addr) (a : Addr) : Prop := ∃ vs : List Value, vs.length ≤ sizeLine ∧ (∀ u ∈ vs, OkU A u) ∧
  (h.get? a = some { cls := .type "list", data := .seq vs.toArray } ∨ h.get? a = some { cls := .type "tuple", data := .seq vs.toArray })
theorem ArgOb.mono {h : Heap} {A B : List Addr} {a : Addr} (k : ∀ a ∈ A, a ∈ B) (x : ArgOb h A a) : ArgOb h B a := by
  obtain ⟨vs, h1, h2, h3⟩ := x
  exact ⟨vs, h1, fun u hu => (h2 u hu).mono k, h3⟩
theorem wellAll_len {P : Params} {h : Heap} : ∀ {vs : List Value} {ds : List WData}, WellAll P h vs ds → vs.length = ds.length
  | _, _, .nil => rfl
  | _, _, .cons _ b => by
    show _ + 1 = _ + 1
    rw [wellAll_len b]
theorem well_list {P : Params} {h : Heap} {v : Value} {ds : List WData} (x : Well P h v (.list ds)) : ∃ (a : Addr) (vs : List Value), v = .ref a ∧ h.get? a = some { cls := .type "list", data := .seq vs.toArray } ∧ WellAll P h vs ds := by
  cases x with
  | list ho hall => exact ⟨_, _, rfl, ho, hall⟩
theorem well_tuple {P : Params} {h : Heap} {v : Value} {ds : List WData} (x : Well P h v (.tuple ds)) : ∃ (a : Addr) (vs : List Value), v = .ref a ∧ h.get? a = some { cls := .type "tuple", data := .seq vs.toArray } ∧ WellAll P h vs ds := by
  cases x with
  | tuple ho hall => exact ⟨_, _, rfl, ho, hall⟩
theorem well_cons {P : Params} {h : Heap} {us : List Value} {d : WData} {ds : List WData} (x : WellAll P h us (d :: ds)) : ∃ (v : Value) (vs : List Value), us = v :: vs ∧ Well P h v d ∧ WellAll P h vs ds := by
  cases x with
  | cons a b => exact ⟨_, _, rfl, a, b⟩
theorem line_of {n : Nat} (h : n ≤ 1048576) : n ≤ sizeLine := Nat.le_trans h (by decide)
section
variable {P : Params} {h : Heap}
mutual
theorem area_one : ∀ (d : WData) (v : Value), Well P h v d → plW d = true → d.weight ≤ 1048576 → ∃ A : List Addr, OkU A v ∧ ∀ a ∈ A, ArgOb h A a
  | .none, _, x, _, _ => by
    cases x
    exact ⟨[], trivial, fun a m => absurd m (by simp)⟩
  | .bool b, _, x, _, _ => by
    cases x
    exact ⟨[], trivial, fun a m => absurd m (by simp)⟩
  | .int i, _, x, _, _ => by
    cases x
    exact ⟨[], trivial, fun a m => absurd m (by simp)⟩
  | .str s, _, x, _, _ => by
    cases x
    exact ⟨[], trivial, fun a m => absurd m (by simp)⟩
  | .bytes b, _, x, _, _ => by
    cases x
    exact ⟨[], trivial, fun a m => absurd m (by simp)⟩
  | .list ds, _, x, p, z => by
    obtain ⟨a, vs, rfl, ho, hall⟩ := well_list x
    have z2 : WData.weightAll ds ≤ 1048576 := z
    obtain ⟨A, h1, h2⟩ := area_all ds _ hall p fun d hd => Nat.le_trans (weight_mem hd) z2
    have k : ∀ b ∈ A, b ∈ a :: A := fun b hb => List.mem_cons_of_mem _ hb
    refine ⟨a :: A, List.mem_cons_self .., fun b hb => ?_⟩
    rcases List.mem_cons.mp hb with e | m
    · rw [e]
      exact ⟨vs, line_of (by rw [wellAll_len hall]; exact Nat.le_trans (PySem.W.length_le_weightAllW ds) z2), fun u hu => (h1 u hu).mono k, .inl ho⟩
    · exact (h2 b m).mono k
  | .tuple ds, _, x, p, z => by
    obtain ⟨a, vs, rfl, ho, hall⟩ := well_tuple x
    have z2 : WData.weightAll ds ≤ 1048576 := z
    obtain ⟨A, h1, h2⟩ := area_all ds _ hall p fun d hd => Nat.le_trans (weight_mem hd) z2
    have k : ∀ b ∈ A, b ∈ a :: A := fun b hb => List.mem_cons_of_mem _ hb
    refine ⟨a :: A, List.mem_cons_self .., fun b hb => ?_⟩
    rcases List.mem_cons.mp hb with e | m
    · rw [e]
      exact ⟨vs, line_of (by rw [wellAll_len hall]; exact Nat.le_trans (PySem.W.length_le_weightAllW ds) z2), fun u hu => (h1 u hu).mono k, .inr ho⟩
    · exact (h2 b m).mono k
  | .float _, _, _, p, _ => Bool.noConfusion (show false = true from p)
  | .dict _, _, _, p, _ => Bool.noConfusion (show false = true from p)
  | .bytearray _, _, _, p, _ => Bool.noConfusion (show false = true from p)
  | .set _, _, _, p, _ => Bool.noConfusion (show false = true from p)
  | .frozenset _, _, _, p, _ => Bool.noConfusion (show false = true from p)
  | .obj _ _, _, _, p, _ => Bool.noConfusion (show false = true from p)
theorem area_all : ∀ (ds : List WData) (vs : List Value), WellAll P h vs ds → plWs ds = true → (∀ d ∈ ds, d.weight ≤ 1048576) → ∃ A : List Addr, (∀ u ∈ vs, OkU A u) ∧ ∀ a ∈ A, ArgOb h A a
  | [], _, x, _, _ => by
    cases x
    exact ⟨[], fun u m => absurd m (by simp), fun a m => absurd m (by simp)⟩
  | d :: ds, _, x, p, z => by
    obtain ⟨v, vs, rfl, x1, x2⟩ := well_cons x
    have q : plW d = true ∧ plWs ds = true := Bool.and_eq_true_iff.mp p
    obtain ⟨A, a1, a2⟩ := area_one d v x1 q.1 (z d (List.mem_cons_self ..))
    obtain ⟨B, b1, b2⟩ := area_all ds vs x2 q.2 fun e he => z e (List.mem_cons_of_mem _ he)
    have kA : ∀ b ∈ A, b ∈ A ++ B := fun b hb => List.mem_append.mpr (.inl hb)
    have kB : ∀ b ∈ B, b ∈ A ++ B := fun b hb => List.mem_append.mpr (.inr hb)
    refine ⟨A ++ B, fun u hu => ?_, fun b hb => ?_⟩
    · rcases List.mem_cons.mp hu with e | m
      · rw [e]
        exact a1.mono kA
      · exact (b1 u m).mono kB
    · rcases List.mem_append.mp hb with m | m
      · exact (a2 b m).mono kA
      · exact (b2 b m).mono kB
end
end
/-- what is tracked of an argument's object -/
def hoOf (o : Obj) : Option HO := match o.data with
  | .seq vs _ => if (o.cls == Value.type "list") = true then some (.frz o (.lst (vs.toList.map toV))) else some (.frz o (.tup (vs.toList.map toV)))
  | _ => none
def argH (K : PySem.W.Frag) (h : Heap) (A : List Addr) : Hp := fun b => if b ∈ A then (if (K.lookup b).isNone = true then (h.get? b).bind hoOf else none) else none
/-- nothing is tracked but what is known to the object -/
def OnlyF (H : Hp) : Prop := ∀ b, H b = none ∨ ∃ o u, H b = some (.frz o u)
theorem hoOf_lst (vs : List Value) : hoOf { cls := .type "list", data := .seq vs.toArray } = some (.frz { cls := .type "list", data := .seq vs.toArray } (.lst (vs.map toV))) := by
  show (if (Value.type "list" == Value.type "list") = true then some (HO.frz { cls := .type "list", data := .seq vs.toArray } (.lst (vs.toArray.toList.map toV))) else some (HO.frz { cls := .type "list", data := .seq vs.toArray } (.tup (vs.toArray.toList.map toV)))) = _
  rw [if_pos (beq_self_eq_true _)]
theorem hoOf_tup (vs : List Value) : hoOf { cls := .type "tuple", data := .seq vs.toArray } = some (.frz { cls := .type "tuple", data := .seq vs.toArray } (.tup (vs.map toV))) := by
  show (if (Value.type "tuple" == Value.type "list") = true then some (HO.frz { cls := .type "tuple", data := .seq vs.toArray } (.lst (vs.toArray.toList.map toV))) else some (HO.frz { cls := .type "tuple", data := .seq vs.toArray } (.tup (vs.toArray.toList.map toV)))) = _
  rw [if_neg (by decide)]
section
variable {P : Program} {w : World} {K : PySem.W.Frag} {h : Heap} {A : List Addr}
theorem argH_at {b : Addr} {o : Obj} (hb : b ∈ A) (hk : K.lookup b = none) (e : h.get? b = some o) : argH K h A b = hoOf o := by
  unfold argH
  rw [if_pos hb, hk, if_pos (show (none : Option Obj).isNone = true from rfl), e] <;> rfl
theorem of_argH {b : Addr} {u : HO} (q : argH K h A b = some u) : b ∈ A ∧ K.lookup b = none := by
  unfold argH at q
  by_cases hb : b ∈ A
  · rw [if_pos hb] at q
    cases hk : K.lookup b with
    | none => exact ⟨hb, rfl⟩
    | some o =>
      rw [hk, if_neg (by simp)] at q
      cases q
  · rw [if_neg hb] at q
    cases q
/-- what stands tracked -/
theorem argH_is (ar : ∀ a ∈ A, ArgOb h A a) {b : Addr} {u : HO} (q : argH K h A b = some u) : K.lookup b = none ∧ ∃ vs : List Value, vs.length ≤ sizeLine ∧ (∀ u ∈ vs, OkU A u) ∧
    ((h.get? b = some { cls := .type "list", data := .seq vs.toArray } ∧ u = .frz { cls := .type "list", data := .seq vs.toArray } (.lst (vs.map toV))) ∨
     (h.get? b = some { cls := .type "tuple", data := .seq vs.toArray } ∧ u = .frz { cls := .type "tuple", data := .seq vs.toArray } (.tup (vs.map toV)))) := by
  obtain ⟨hb, hk⟩ := of_argH q
  obtain ⟨vs, h1, h2, h3⟩ := ar b hb
  refine ⟨hk, vs, h1, h2, ?_⟩
  rcases h3 with e | e
  · rw [argH_at hb hk e, hoOf_lst] at q
    exact .inl ⟨e, (Option.some.inj q).symm⟩
  · rw [argH_at hb hk e, hoOf_tup] at q
    exact .inr ⟨e, (Option.some.inj q).symm⟩
theorem argH_only (ar : ∀ a ∈ A, ArgOb h A a) : OnlyF (argH K h A) := fun b => by
  cases q : argH K h A b with
  | none => exact .inl rfl
  | some u =>
    obtain ⟨_, vs, _, _, ⟨_, e⟩ | ⟨_, e⟩⟩ := argH_is ar q
    · exact .inr ⟨_, _, by rw [e]⟩
    · exact .inr ⟨_, _, by rw [e]⟩
theorem argH_ok (ar : ∀ a ∈ A, ArgOb h A a) : HOk P w (argH K h A) h := fun b u q => by
  obtain ⟨_, vs, h1, h2, ⟨e, rfl⟩ | ⟨e, rfl⟩⟩ := argH_is ar q
  · exact ⟨e, by rw [List.length_map]; exact h1, vs, _, vals_toV h2, e⟩
  · exact ⟨e, by rw [List.length_map]; exact h1, vs, vals_toV h2, _, e, rfl, _, rfl⟩
theorem seq_inj {c c' : Value} {vs us : List Value} (e : (some { cls := c, data := .seq vs.toArray } : Option Obj) = some { cls := c', data := .seq us.toArray }) : c = c' ∧ vs = us := by
  have e1 := Option.some.inj e
  have e2 : c = c' := congrArg Obj.cls e1
  have e3 : Data.seq vs.toArray = Data.seq us.toArray := congrArg Obj.data e1
  injection e3 with e4
  refine ⟨e2, ?_⟩
  have e5 := congrArg Array.toList e4
  simpa using e5
/-- a list argument -/
theorem argL (KX : K.In h) (ar : ∀ a ∈ A, ArgOb h A a) {a : Addr} {vs : List Value} (ha : a ∈ A) (e : h.get? a = some { cls := .type "list", data := .seq vs.toArray }) : (∀ u ∈ vs, OkU A u) ∧ SqL K (argH K h A) a (vs.map toV) := by
  obtain ⟨us, h1, h2, h3⟩ := ar a ha
  have hu : us = vs := by
    rcases h3 with q | q
    · rw [e] at q
      exact (seq_inj q).2.symm
    · rw [e] at q
      exact absurd (Value.type.inj (seq_inj q).1) (by decide)
  subst hu
  refine ⟨h2, ?_⟩
  cases hk : K.lookup a with
  | none => exact .inl (.inr ⟨_, by rw [argH_at ha hk e, hoOf_lst]⟩)
  | some o =>
    have e2 := KX a o hk
    rw [e] at e2
    obtain rfl := Option.some.inj e2
    exact .inr ⟨_, us.toArray, _, hk, rfl, rfl, rfl, by rw [List.size_toArray]; exact h1, by simpa using vals_toV h2⟩
theorem argT (KX : K.In h) (ar : ∀ a ∈ A, ArgOb h A a) {a : Addr} {vs : List Value} (ha : a ∈ A) (e : h.get? a = some { cls := .type "tuple", data := .seq vs.toArray }) : (∀ u ∈ vs, OkU A u) ∧ SqT K (argH K h A) a (vs.map toV) := by
  obtain ⟨us, h1, h2, h3⟩ := ar a ha
  have hu : us = vs := by
    rcases h3 with q | q
    · rw [e] at q
      exact absurd (Value.type.inj (seq_inj q).1) (by decide)
    · rw [e] at q
      exact (seq_inj q).2.symm
  subst hu
  refine ⟨h2, ?_⟩
  cases hk : K.lookup a with
  | none => exact .inl (.inr ⟨_, by rw [argH_at ha hk e, hoOf_tup]⟩)
  | some o =>
    have e2 := KX a o hk
    rw [e] at e2
    obtain rfl := Option.some.inj e2
    exact .inr ⟨_, us.toArray, _, hk, rfl, rfl, by rw [List.size_toArray]; exact h1, by simpa using vals_toV h2⟩
mutual
theorem dw_one {Pm : Params} (KX : K.In h) (ar : ∀ a ∈ A, ArgOb h A a) : ∀ (d : WData) (v : Value), Well Pm h v d → plW d = true → OkU A v → Dw K (argH K h A) (toV v) d
  | .none, _, x, _, _ => by
    cases x
    exact .non
  | .bool b, _, x, _, _ => by
    cases x
    exact .bl b
  | .int i, _, x, _, _ => by
    cases x
    exact .int i
  | .str s, _, x, _, _ => by
    cases x
    exact .str s
  | .bytes b, _, x, _, _ => by
    cases x
    have z := Dw.byt (K := K) (H := argH K h A) b.toArray
    exact z
  | .list ds, _, x, p, hu => by
    obtain ⟨a, vs, rfl, ho, hall⟩ := well_list x
    obtain ⟨h2, hs⟩ := argL KX ar hu ho
    exact .lst hs (dw_all KX ar ds _ hall p h2)
  | .tuple ds, _, x, p, hu => by
    obtain ⟨a, vs, rfl, ho, hall⟩ := well_tuple x
    obtain ⟨h2, hs⟩ := argT KX ar hu ho
    exact .tup hs (dw_all KX ar ds _ hall p h2)
  | .float _, _, _, p, _ => Bool.noConfusion (show false = true from p)
  | .dict _, _, _, p, _ => Bool.noConfusion (show false = true from p)
  | .bytearray _, _, _, p, _ => Bool.noConfusion (show false = true from p)
  | .set _, _, _, p, _ => Bool.noConfusion (show false = true from p)
  | .frozenset _, _, _, p, _ => Bool.noConfusion (show false = true from p)
  | .obj _ _, _, _, p, _ => Bool.noConfusion (show false = true from p)
theorem dw_all {Pm : Params} (KX : K.In h) (ar : ∀ a ∈ A, ArgOb h A a) : ∀ (ds : List WData) (vs : List Value), WellAll Pm h vs ds → plWs ds = true → (∀ u ∈ vs, OkU A u) → DwAll K (argH K h A) (vs.map toV) ds
  | [], _, x, _, _ => by
    cases x
    exact .nil
  | d :: ds, _, x, p, hu => by
    obtain ⟨v, vs, rfl, x1, x2⟩ := well_cons x
    have q : plW d = true ∧ plWs ds = true := Bool.and_eq_true_iff.mp p
    exact .cons (dw_one KX ar d v x1 q.1 (hu _ (List.mem_cons_self ..))) (dw_all KX ar ds vs x2 q.2 fun u m => hu u (List.mem_cons_of_mem _ m))
end
end
theorem layable_weight {ds : List WData} (h : WData.layableAll ds = true) : ∀ d ∈ ds, d.weight ≤ 1048576 := fun d hd =>
  (PySem.W.layableW_iff.mp (List.all_eq_true.mp h d hd)).2.2
theorem encAll_len : ∀ (cs : List Codec) (a : Codec.denoteAll cs), (Codec.encAll cs a).length = cs.length
  | [], _ => rfl
  | c :: cs, a => by
    show (Codec.encAll cs a.2).length + 1 = cs.length + 1
    rw [encAll_len cs a.2]
end L2
end

section
set_option Elab.async false
set_option linter.all false
set_option maxRecDepth 100000
/-! A lambda: its object, its call, its making. -/
namespace L2
open PySem PySem.Spec PyProof.Rows

/-- a lambda without captured names -/
abbrev lamObj (qual : Str) (params : Arguments) (body : Expr) (scope : Scope) (pm : Value) (c : Addr) (ct : Value) : Obj := PySem.W.kla_obj "<lambda>" qual params body scope [] pm c ct

section
variable {P : Program} {w : World} {K : PySem.W.Frag} {mg : Str → Option Value} {base : Heap}
theorem lam_run {k : Nat} {A : Around} {outer : List Env} {s : Shared} {H : Hp} {f c : Addr} {qual : Str} {params : Arguments} {body : Expr} {scope : Scope} {pm ct : Value} {N ps : List Str} {us : List Value} {vs : List V} {t : TE} {Q : VK}
    (ho : s.heap.get? f = some (lamObj qual params body scope pm c ct)) (hcd : s.heap.CodeRec (.ref c) qual) (S : FnScope N ps scope) (hr : Room (k + 1) A) (e0 : Env0 P w K mg base A outer s H)
    (hb : bindArgs (PySem.W.kla_fn "<lambda>" qual params body scope [] pm (.ref c) ct) ⟨us, []⟩ = pure (ps.zip us)) (hl : vs.length = ps.length) (r : Vals vs us)
    (hbody : PE (cxOf CX0 P w K mg base N qual scope f (.ref c) A outer s H E0).nox body t) (hq : t (start N vs) H Q) :
    codeAny (model P w) A (.call (.ref f) ⟨us, []⟩) (CR CX0 outer P w H s Q E0) s := by
  have lim : s.heap.NoLimit := e0.mod.nolimit.keeps fun b o e => (e0.bs b o e).1
  have hkind : ∀ y ∈ ps.zip us, scope.names.lookup y.1 = some .local ∨ (scope.names.lookup y.1 = some .cell ∧ ((cellsFrom (s.heap.objs.size + 1) scope.names []).lookup y.1).isSome = true) := fun ⟨n, v⟩ hy => by
    rcases S.par n (List.of_mem_zip hy).1 with q | q
    · exact .inl q
    · exact .inr ⟨q, PySem.W.cellsFrom_some _ _ _ (.inl q)⟩
  refine PySem.W.kla_callFunE hr.depth ho rfl S.co S.gen rfl hcd ?_
  rw [hb]
  refine wpAny_pure (wpAny_newFunctionEnv_cells S.kind hkind fun env he s1 x => ?_)
  subst he
  refine ⟨lim.keeps x.toInCall.keep, PySem.W.kla_codeExpr ?_⟩
  have I : Inv (cxOf CX0 P w K mg base N qual scope f (.ref c) A outer s H E0) [] (start N vs) H s1 := inv_start S hr.hd e0 hl r x
  refine wpAny_mono (hbody.nox [] s1 (start N vs) H _ I hq) (fun u s' hs => ?_) fun e s' hs => hs
  obtain ⟨v, H', J, rv, q⟩ := hs
  exact ⟨v, H', J.os, J.bare, J.base, J.hok, rv, q⟩
end

/-- the module `builtins`, as it stands in the base -/
def BmIn (mg : Str → Option Value) (base : Heap) : Prop := ∃ bm ob, mg "__builtins__" = some (.ref bm) ∧ bm ≠ builtinsNs ∧ base.get? bm = some ob ∧ ob.cls = .type "module" ∧ ob.dict = some builtinsNs ∧ ob.data = .plain

/-- the record of a lambda's code -/
abbrev cdO (c : Addr) (qual : Str) : HO := .ext fun h => h.CodeRec (.ref c) qual
/-- the table of a def's code: the lambda at pos has not been made yet, or its code is known -/
def TabOk (H : Hp) (pos : Pos) (qual : Str) (ps : Array Value) : Prop :=
  TriplesOk ps.toList ∧ (codeAmong pos ps.toList = none ∨ ∃ c, codeAmong pos ps.toList = some (.ref c) ∧ H c = some (cdO c qual))

theorem codeRec_stay {h h' : Heap} {c : Addr} {qual : Str} (x : h.CodeRec (.ref c) qual) (k : ∀ o, h.get? c = some o → h'.get? c = some o) : h'.CodeRec (.ref c) qual := by
  obtain ⟨c2, oc, vs, tq, e, ho, r⟩ := x
  cases e
  exact ⟨c, oc, vs, tq, rfl, k _ ho, r⟩

section
variable {X : Cx} {pins : List (Addr × Obj)} {σ : St} {H : Hp} {s : Shared}
theorem lam_make {E : Value → Shared → Prop} {Q : Value → Shared → Prop} {params : Arguments} {body : Expr} {scope : Scope} {pos : Pos} {c P : Addr} {ps : Array Value}
    (I : Inv X pins σ H s) (hcode : X.env.code = .ref c) (C : PySem.W.CodeHd X.base c P) (B : BmIn X.mg X.base) (hP : H P = some (.tbl ps)) (T : TabOk H pos (X.env.qual ++ "<lambda>") ps)
    (hdef : defaultsOf params X.env = ([], [])) (hcl : closureFor scope X.env = pure [])
    (h : ∀ f c' pm ct s' H', Inv X pins σ H' s' → s'.heap.get? f = some (lamObj (X.env.qual ++ "<lambda>") params body scope pm c' ct) → H' f = none → s.heap.objs.size ≤ f → H' c' = some (cdO c' (X.env.qual ++ "<lambda>")) →
      (∃ ps', H' P = some (.tbl ps') ∧ TabOk H' pos (X.env.qual ++ "<lambda>") ps') → (∀ b o, H b = some o → b ≠ P → H' b = some o) → Q (.ref f) s') :
    wpAny (model X.prog X.w) X.A (eval (.Lambda params body scope pos) X.env) Q E s := by
  obtain ⟨bm, ob, b1, b2, b3, b4, b5, b6⟩ := B
  have gAt : s.heap.Ns mainGlobals X.mg := I.mod.glob.keeps I.bk
  have hPh : s.heap.get? P = some (PySem.W.tabObj ps) := I.hok P _ hP
  have hbm := I.bs bm ob b3
  have gOff : mainGlobals ≠ P := fun q => by
    obtain ⟨o, es, ep, e, hd, _⟩ := gAt
    rw [q, hPh] at e; cases e; cases hd
  have bOff : bm ≠ P := fun q => by
    have e := hbm.1
    rw [q, hPh] at e; cases e; cases b4
  have bNotG : bm ≠ mainGlobals := fun q => by
    obtain ⟨o, es, ep, e, hd, _⟩ := gAt
    rw [q, e] at hbm; cases hbm.1; rw [hd] at b6; cases b6
  have hC := C.keeps I.bk
  refine PySem.W.kla_eval hdef ?_
  rcases T.2 with hnf | ⟨c', hf, hc'⟩
  · refine PySem.W.kla_makeFunction (mg := X.mg) hcl I.ok.glob gAt hcode hC hPh T.1 hnf gOff ⟨bm, ob, b1, b2, bNotG, bOff, hbm.1, b4, b5, b6⟩ fun c' ctv h' tk hx hge hlt hrec htb => ?_
    have hc0 : H c' = none := I.hok.fresh hge
    have hPc : P ≠ c' := ne_of_none hP hc0
    have hsz : s.heap.objs.size ≤ h'.objs.size := Nat.le_of_lt (Nat.lt_of_le_of_lt hge hlt)
    have hk : ∀ b o, b ≠ P → s.heap.get? b = some o → (h'.push (lamObj (X.env.qual ++ "<lambda>") params body scope ((X.mg "__name__").getD .none) c' ctv)).get? b = some o := fun b o n e => Heap.get?_push_of_some _ (hx b o n e)
    have hrec2 : (h'.push (lamObj (X.env.qual ++ "<lambda>") params body scope ((X.mg "__name__").getD .none) c' ctv)).CodeRec (.ref c') (X.env.qual ++ "<lambda>") := codeRec_stay hrec fun o e => Heap.get?_push_of_some _ e
    have hPh2 : (h'.push (lamObj (X.env.qual ++ "<lambda>") params body scope ((X.mg "__name__").getD .none) c' ctv)).get? P = some (PySem.W.tabObj (ps ++ #[rawInt pos.line, rawInt pos.col, .ref c'])) := Heap.get?_push_of_some _ htb
    have hL : X.env.locals ≠ P := fun q => by
      have := I.free
      rw [q, hP] at this; cases this
    have I' : Inv X pins σ (upd (upd H P (.tbl (ps ++ #[rawInt pos.line, rawInt pos.col, .ref c']))) c' (cdO c' (X.env.qual ++ "<lambda>")))
        { s with heap := h'.push (lamObj (X.env.qual ++ "<lambda>") params body scope ((X.mg "__name__").getD .none) c' ctv), toks := tk } := by
      refine I.step (g' := s.gens) (d' := s.drawn) (ch := []) (fun _ z => nomatch z) (fun b o _ _ _ e n => hk b o (fun q => by rw [q, hP] at n; cases n) e)
        (fun b o _ _ _ e n => ⟨o.slots, hk b o (fun q => by rw [q, hP] at n; cases n) e⟩) (fun b o _ e n => ?_) (fun b o _ e => ?_) (fun b xs e => ?_) (fun b o u e => ?_) (fun b qs e => ?_) (fun m hm => ?_) (fun b u e => ?_) I.bare
      · rw [upd_ne (fun q => by rw [q] at e; exact absurd (Heap.lt_size e) (Nat.not_lt.mpr hge)), upd_ne (fun q => by rw [q, hP] at n; cases n)]
        exact n
      · by_cases q : b = P
        · rw [q]; exact ⟨_, hPh2⟩
        · exact ⟨o, hk b o q e⟩
      · rw [upd_ne (ne_of_none e hc0), upd_ne (ne_of e hP (by intro z; cases z))]
        exact e
      · rw [upd_ne (ne_of_none e hc0), upd_ne (ne_of e hP (by intro z; cases z))]
        exact e
      · by_cases q : b = P
        · subst q
          rw [hP] at e; cases e
          exact ⟨_, by rw [upd_ne hPc, upd_same]⟩
        · exact ⟨#[], by rw [upd_ne (ne_of_none e hc0), upd_ne q, e]; simp⟩
      · obtain ⟨o, es, ep, ho, r⟩ := hm
        exact ⟨o, es, ep, hk _ o hL ho, r⟩
      · by_cases q : b = c'
        · subst q
          rw [upd_same] at e; cases e
          refine ⟨hrec2, ?_, fun h1 h2 x kk => codeRec_stay x kk⟩
          obtain ⟨c2, oc, vs, tq, e2, ho, _⟩ := hrec2
          cases e2
          exact ⟨oc, ho⟩
        · rw [upd_ne q] at e
          by_cases q2 : b = P
          · subst q2
            rw [upd_same] at e; cases e
            exact hPh2
          · rw [upd_ne q2] at e
            refine (I.hok b u e).stay (fun d v hd r => hk d v (fun z => ?_) r) (fun d r => ?_) fun d xs r => ?_
            · rcases hd with z2 | z2
              · exact q2 (z2.symm.trans z)
              · rw [z, hP] at z2; cases z2
            · rw [upd_ne (ne_of_none r hc0), upd_ne (ne_of r hP (by intro z; cases z))]; exact r
            · rw [upd_ne (ne_of_none r hc0), upd_ne (ne_of r hP (by intro z; cases z))]; exact r
    refine h _ c' _ ctv _ _ I' (Heap.get?_push_size _ rfl) ?_ hsz upd_same ⟨_, by rw [upd_ne hPc, upd_same], ?_⟩ fun b o e n => by rw [upd_ne (ne_of_none e hc0), upd_ne n]; exact e
    · rw [upd_ne (Nat.ne_of_gt hlt), upd_ne (fun q => by
        have := Heap.lt_size htb
        rw [← q] at this
        exact Nat.lt_irrefl _ this)]
      exact I.hok.fresh hsz
    · have e : (ps ++ #[rawInt pos.line, rawInt pos.col, Value.ref c']).toList = ps.toList ++ [rawInt pos.line, rawInt pos.col, Value.ref c'] := by simp
      refine ⟨by rw [e]; exact TriplesOk_snoc _ _ _ _ T.1, .inr ⟨c', by rw [e]; exact codeAmong_snoc _ T.1 hnf, upd_same⟩⟩
  · have hrec : s.heap.CodeRec (.ref c') (X.env.qual ++ "<lambda>") := (I.hok c' _ hc').1
    refine PySem.W.kla_makeFunctionHit (mg := X.mg) hcl I.ok.glob gAt hcode hC hPh T.1 hf ⟨bm, ob, b1, b2, bNotG, bOff, hbm.1, b4, b5, b6⟩ fun ctv h' tk hk hsz => ?_
    have hk2 : ∀ b o, s.heap.get? b = some o → (h'.push (lamObj (X.env.qual ++ "<lambda>") params body scope ((X.mg "__name__").getD .none) c' ctv)).get? b = some o := fun b o e => Heap.get?_push_of_some _ (hk b o e)
    exact h _ c' _ ctv _ H (I.kept (t' := tk) hk2) (Heap.get?_push_size _ rfl) (I.hok.fresh hsz) hsz hc' ⟨ps, hP, T⟩ fun b o e _ => e
end
end L2
end

section
set_option Elab.async false
set_option linter.all false
set_option maxRecDepth 100000
set_option maxHeartbeats 1000000
/-! sorted(xs, key=lambda ..) where each key is a pair of ints -/
namespace L2
open PySem PySem.Spec PyProof.Rows PyProof.Rows.G

def lexLe (p q : Int × Int) : Prop := p.1 < q.1 ∨ (p.1 = q.1 ∧ p.2 ≤ q.2)
abbrev sh0 : Nat → Bool := fun _ => false

/-- the keys' values: each a tuple of two ints -/
def KeysAt (H : Hp) : List Value → List (Int × Int) → Prop := Paired fun u kk => ∃ p, u = .ref p ∧ H p = some (.tup [.int kk.1, .int kk.2])

section
variable {P : Program} {w : World} {H : Hp} {h : Heap}
theorem key_tup (ok : HOk P w H h) {p : Addr} {a b : Int} (e : H p = some (.tup [.int a, .int b])) :
    ∃ o n t u, h.get? p = some o ∧ o.cls = .type "tuple" ∧ o.data = .seq #[.int a t, .int b u] n := by
  obtain ⟨_, its, r, o, ho, hc, n, hd⟩ := ok p _ e
  obtain ⟨t, u, rfl⟩ := Vals.int2 r
  exact ⟨o, n, t, u, ho, hc, by simpa using hd⟩
theorem key_of2 (ok : HOk P w H h) {p : Addr} {a b : Int} (e : H p = some (.tup [.int a, .int b])) : tupKeyC h sh0 (.ref p) = some [Sum.inl a, Sum.inl b] := by
  obtain ⟨o, n, t, u, ho, hc, hd⟩ := key_tup ok e
  exact tupKeyC_of ho hc hd rfl
theorem keys_tups (ok : HOk P w H h) : ∀ {us : List Value} {kz : List (Int × Int)}, KeysAt H us kz → ∃ fs, TupsOf h sh0 us fs
  | _, _, .nil => ⟨[], .nil⟩
  | _, _, .cons ⟨p, e, hp⟩ r => by
    obtain ⟨fs, ih⟩ := keys_tups ok r
    obtain ⟨o, n, t, u, ho, hc, hd⟩ := key_tup ok hp
    subst e
    exact ⟨_, .cons ⟨p, o, _, n, rfl, ho, hc, hd, rfl, fun _ => ⟨_, t, rfl⟩, fun z => by cases z⟩ ih⟩
theorem KeysAt.same {H' : Hp} (sm : Same H H') : ∀ {us : List Value} {kz : List (Int × Int)}, KeysAt H us kz → KeysAt H' us kz
  | _, _, .nil => .nil
  | _, _, .cons ⟨p, e, hp⟩ r => .cons ⟨p, e, sm _ _ hp⟩ (KeysAt.same sm r)
theorem KeysAt.snoc : ∀ {us : List Value} {kz : List (Int × Int)} {u : Value} {kk : Int × Int}, KeysAt H us kz → (∃ p, u = .ref p ∧ H p = some (.tup [.int kk.1, .int kk.2])) → KeysAt H (us ++ [u]) (kz ++ [kk])
  | _, _, _, _, .nil, q => .cons q .nil
  | _, _, _, _, .cons a r, q => .cons a (KeysAt.snoc r q)
theorem KeysAt.length {us : List Value} {kz : List (Int × Int)} (r : KeysAt H us kz) : us.length = kz.length := Paired.length r
end

/-- what a pair of values stands for -/
def kF (h : Heap) (p : Keyed) : (Int × Int) × V := ((match tupKeyC h sh0 p.1 with | some [Sum.inl a, Sum.inl b] => (a, b) | _ => (0, 0)), (absV p.2).getD .non)
theorem kF_of {P : Program} {w : World} {H : Hp} {h : Heap} (ok : HOk P w H h) {p : Addr} {a b : Int} {v : Value} {x : V} (e : H p = some (.tup [.int a, .int b])) (r : RelV x v) : kF h (.ref p, v) = ((a, b), x) := by
  unfold kF
  rw [key_of2 ok e, r.abs]
  rfl
theorem zip_kF {P : Program} {w : World} {H : Hp} {h : Heap} (ok : HOk P w H h) : ∀ {us : List Value} {kz : List (Int × Int)} {vs : List Value} {xs : List V}, KeysAt H us kz → Vals xs vs → (us.zip vs).map (kF h) = kz.zip xs
  | _, _, _, _, .nil, _ => rfl
  | _, _, _, _, .cons _ _, .nil => rfl
  | _, _, _, _, .cons ⟨p, e, hp⟩ r, .cons rv r2 => by
    subst e
    rw [List.zip_cons_cons, List.zip_cons_cons, List.map_cons, kF_of ok hp rv, zip_kF ok r r2]
theorem lex_of {a b c d : Int} (h : (listOrd itemOrd).kle [Sum.inl a, Sum.inl b] [Sum.inl c, Sum.inl d]) : lexLe (a, b) (c, d) := by
  unfold KeyOrd.kle at h
  have h : PyProof.Rows.lexLt itemOrd [Sum.inl c, Sum.inl d] [Sum.inl a, Sum.inl b] = false := h
  rw [PyProof.Rows.lex_false] at h
  obtain ⟨h1, h2⟩ := h
  have h1 : ¬ c < a := of_decide_eq_false (show decide (c < a) = false from h1)
  rcases h2 with h2 | h2
  · have h2 : a < c := of_decide_eq_true (show decide (a < c) = true from h2)
    exact .inl h2
  · rw [PyProof.Rows.lex_false] at h2
    have h3 : ¬ d < b := of_decide_eq_false (show decide (d < b) = false from h2.1)
    by_cases e : a < c
    · exact .inl e
    · exact .inr ⟨by show a = c; omega, by show b ≤ d; omega⟩
/-- the sorted pairs, in plain words -/
theorem sorted_pairs {P : Program} {w : World} {H : Hp} {h : Heap} (ok : HOk P w H h) {us vs : List Value} {kz : List (Int × Int)} {xs : List V} (hk : KeysAt H us kz) (hv : Vals xs vs) {arr : Array Keyed}
    (hp : arr.Perm (us.toArray.zip vs.toArray)) (hs : SortedToK (tupKindC h sh0) arr arr.size) :
    ∃ prs : List ((Int × Int) × V), prs.Perm (kz.zip xs) ∧ prs.Pairwise (fun p q => lexLe p.1 q.1) ∧ Vals (prs.map (·.2)) (arr.map (·.2)).toList := by
  have hp' : arr.toList.Perm (us.zip vs) := by
    have q := Array.perm_iff_toList_perm.mp hp
    simpa using q
  have mem : ∀ q ∈ arr.toList, ∃ p a b x, q.1 = .ref p ∧ H p = some (.tup [.int a, .int b]) ∧ RelV x q.2 := by
    have all : ∀ {us : List Value} {kz : List (Int × Int)} {vs : List Value} {xs : List V}, KeysAt H us kz → Vals xs vs → ∀ q ∈ us.zip vs, ∃ p a b x, q.1 = .ref p ∧ H p = some (.tup [.int a, .int b]) ∧ RelV x q.2 := by
      intro us
      induction us with
      | nil => intro _ _ _ _ _ q hq; simp at hq
      | cons u us ih =>
        intro kz vs xs hk hv q hq
        cases hk with
        | cons k1 k2 =>
          cases hv with
          | nil => simp at hq
          | cons v1 v2 =>
            rw [List.zip_cons_cons] at hq
            rcases (List.mem_cons.mp hq) with rfl | hq
            · obtain ⟨p, e, hp⟩ := k1
              exact ⟨p, _, _, _, e, hp, v1⟩
            · exact ih k2 v2 q hq
    exact fun q hq => all hk hv q (hp'.mem_iff.mp hq)
  refine ⟨arr.toList.map (kF h), ?_, ?_, ?_⟩
  · have q := hp'.map (kF h)
    rw [zip_kF ok hk hv] at q
    exact q
  · rw [List.pairwise_map, List.pairwise_iff_getElem]
    intro i j hi hj hij
    have hi' : i < arr.size := by simpa using hi
    have hj' : j < arr.size := by simpa using hj
    have z := hs i j (Nat.le_of_lt hij) hj'
    obtain ⟨p, a, b, x, e1, e2, e3⟩ := mem arr.toList[i] (List.getElem_mem hi)
    obtain ⟨p', a', b', x', f1, f2, f3⟩ := mem arr.toList[j] (List.getElem_mem hj)
    have c1 : KK (tupKindC h sh0) arr i = [Sum.inl a, Sum.inl b] := by
      unfold KK
      rw [Array.getElem?_eq_getElem hi']
      have : arr[i].1 = .ref p := by simpa using e1
      show (tupKeyC h sh0 arr[i].1).getD _ = _
      rw [this, key_of2 ok e2]
      rfl
    have c2 : KK (tupKindC h sh0) arr j = [Sum.inl a', Sum.inl b'] := by
      unfold KK
      rw [Array.getElem?_eq_getElem hj']
      have : arr[j].1 = .ref p' := by simpa using f1
      show (tupKeyC h sh0 arr[j].1).getD _ = _
      rw [this, key_of2 ok f2]
      rfl
    rw [c1, c2] at z
    have g1 : (kF h arr.toList[i]).1 = (a, b) := by
      have : arr.toList[i] = (.ref p, arr.toList[i].2) := Prod.ext e1 rfl
      rw [this, kF_of ok e2 e3]
    have g2 : (kF h arr.toList[j]).1 = (a', b') := by
      have : arr.toList[j] = (.ref p', arr.toList[j].2) := Prod.ext f1 rfl
      rw [this, kF_of ok f2 f3]
    rw [g1, g2]
    exact lex_of z
  · have all : ∀ l : List Keyed, (∀ q ∈ l, ∃ p a b x, q.1 = .ref p ∧ H p = some (.tup [.int a, .int b]) ∧ RelV x q.2) → Vals ((l.map (kF h)).map (·.2)) (l.map (·.2)) := by
      intro l
      induction l with
      | nil => intro _; exact .nil
      | cons q l ih =>
        intro hm
        obtain ⟨p, a, b, x, e1, e2, e3⟩ := hm q List.mem_cons_self
        refine .cons ?_ (ih fun q hq => hm q (List.mem_cons_of_mem _ hq))
        have : q = (.ref p, q.2) := Prod.ext e1 rfl
        show RelV (kF h q).2 q.2
        rw [this, kF_of ok e2 e3]
        exact e3
    have q := all arr.toList mem
    simpa using q
end L2
end

section
set_option Elab.async false
set_option linter.all false
set_option maxRecDepth 100000
set_option maxHeartbeats 1000000
namespace L2
open PySem PySem.Spec PyProof.Rows PyProof.Rows.G

section
variable {X : Cx} {pins : List (Addr × Obj)} {σ : St} {H : Hp} {s : Shared}
/-- the sort itself and the store of its outcome -/
theorem sort_end {A : Around} {E : Value → Shared → Prop} {Pf : PySem.Fin → Shared → Prop} {D kS : Addr} {keys : Array Value} {vs : List Value} {e e1 : Nat} {kz : List (Int × Int)} {xs : List V}
    (ok : HOk X.prog X.w H s.heap) (hkS : s.heap.get? kS = some (seqObj "list" keys e)) (hD : s.heap.get? D = some (seqObj "list" #[] e1)) (hne : kS ≠ D)
    (hk : KeysAt H keys.toList kz) (hv : Vals xs vs) (hlen : kz.length = xs.length) (hz : vs.length ≤ sizeLine)
    (h : ∀ (out : Array Value) (c2 : Nat) (h' : Heap) (prs : List ((Int × Int) × V)), prs.Perm (kz.zip xs) → prs.Pairwise (fun p q => lexLe p.1 q.1) → Vals (prs.map (·.2)) out.toList → out.size = vs.length →
      (∀ b o, b ≠ kS → b ≠ D → s.heap.get? b = some o → h'.get? b = some o) → (∃ o, h'.get? kS = some o) → h'.get? D = some (seqObj "list" out c2) → Pf (.done (.ret .none)) { s with heap := h' }) :
    wpAny (model X.prog X.w) A (ksk_end D false vs.toArray e1 (.ref kS) keys) Pf E s := by
  have hkl := hk.length
  have hvl := hv.length
  have kn : keys.size = vs.length := by
    rw [Array.length_toList] at hkl
    omega
  have zn : (keys.zip vs.toArray).size = vs.length := by rw [Array.size_zip, kn, List.size_toArray, Nat.min_self]
  have hkt : keys.toList.toArray = keys := by simp
  have tail : ∀ st : SortSt, (arrOf st).Perm (keys.zip vs.toArray) → SortedToK (tupKindC s.heap sh0) (arrOf st) (arrOf st).size → failedOf st = none → wpAny (model X.prog X.w) A (ksk_tail D false e1 (.ref kS) st) Pf E s := by
    intro st hp hs hfl
    have hp2 : (arrOf st).Perm (keys.toList.toArray.zip vs.toArray) := by rw [hkt]; exact hp
    obtain ⟨prs, q1, q2, q3⟩ := sorted_pairs ok hk hv hp2 hs
    have hsz2 : (arrOf st).size = vs.length := by rw [hp.size_eq, zn]
    have sb1 := Heap.SameBut.update s.heap kS (Obj.mapSeq fun _ => (#[] : Array Value))
    have hD1 : (s.heap.update kS (Obj.mapSeq fun _ => (#[] : Array Value))).get? D = some (seqObj "list" #[] e1) := (sb1.2 D hne.symm).trans hD
    have s2 := Heap.SameBut.update (s.heap.update kS (Obj.mapSeq fun _ => (#[] : Array Value))) D (Obj.mapSeq fun _ => (arrOf st).map (·.2))
    obtain ⟨c2, hc2⟩ : ∃ c2, ((s.heap.update kS (Obj.mapSeq fun _ => (#[] : Array Value))).update D (Obj.mapSeq fun _ => (arrOf st).map (·.2))).get? D = some (seqObj "list" ((arrOf st).map (·.2)) c2) :=
      ⟨_, get?_update_seq hD1 fun _ => (arrOf st).map (·.2)⟩
    unfold ksk_tail
    try dsimp only
    refine wpAny_bind (listUpdate_at hkS rfl ?_ (by rw [kn]; exact hz) (Nat.zero_le _))
    refine wpAny_bind (wpAny_letGo ?_)
    refine wpAny_bind (seqEpoch_at hD1 rfl ?_)
    simp only [if_false, Bool.false_eq_true]
    refine wpAny_bind (listUpdate_at hD1 rfl ?_ (Nat.zero_le _) (by
      show ((arrOf st).map (·.2)).size ≤ _
      rw [Array.size_map, hsz2]
      omega))
    rw [hfl]
    simp only [if_false, bne_self_eq_false, Bool.false_eq_true]
    refine wpAny_pure (h _ c2 _ prs q1 q2 q3 (by rw [Array.size_map, hsz2]) (fun b o n1 n2 q => (s2.2 b n2).trans ((sb1.2 b n1).trans q)) ?_ hc2)
    obtain ⟨c1, hc1⟩ : ∃ c1, (s.heap.update kS (Obj.mapSeq fun _ => (#[] : Array Value))).get? kS = some (seqObj "list" #[] c1) := ⟨_, get?_update_seq hkS fun _ => #[]⟩
    exact ⟨_, (s2.2 kS hne).trans hc1⟩
  unfold ksk_end
  try dsimp only
  simp only [if_false, Bool.false_eq_true]
  by_cases small : vs.toArray.size < 2
  · rw [if_pos small, if_pos small]
    refine wpAny_bind (wpAny_pure ?_)
    rw [StateT.run_pure]
    refine wpAny_bind (wpAny_pure ?_)
    try dsimp only
    refine tail (SortSt.mk' general' (keys.zip vs.toArray) #[] 7 none) (Array.Perm.refl _) ?_ rfl
    intro i j hij hj
    have hj2 : j < (keys.zip vs.toArray).size := hj
    rw [zn] at hj2
    rw [List.size_toArray] at small
    have : i = j := by omega
    subst this
    exact KeyOrd.kle_refl _
  · rw [if_neg small, if_neg small]
    rw [List.size_toArray] at small
    obtain ⟨fs, ht⟩ := keys_tups ok hk
    have hkk : wpAny (model X.prog X.w) A (keyKind' keys.toList.toArray) (fun kd s' => kd = tuples' true ∧ s' = s) E s := tup_kind (by rw [TupsOf.length ht, Array.length_toList, kn]; omega) ht ⟨rfl, rfl⟩
    rw [hkt] at hkk
    refine wpAny_bind (wpAny_mono hkk (fun kd s' q => ?_) fun _ _ x => x)
    obtain ⟨rfl, rfl⟩ := q
    try dsimp only
    have h0 : KeysOf (tupKindC s'.heap sh0) (keys.zip vs.toArray) := by
      intro p hp
      have hp : p ∈ keys.toList.zip vs := by simpa using hp
      have m1 := (List.of_mem_zip (show (p.1, p.2) ∈ keys.toList.zip vs from hp)).1
      obtain ⟨i, hi, ei⟩ := List.getElem_of_mem m1
      have gg : ∀ {us : List Value} {kz : List (Int × Int)}, KeysAt H us kz → ∀ u ∈ us, ∃ l, tupKeyC s'.heap sh0 u = some l := by
        intro us
        induction us with
        | nil => intro _ _ u hu; cases hu
        | cons a us ih =>
          intro kz hk u hu
          cases hk with
          | cons k1 k2 =>
            rcases List.mem_cons.mp hu with rfl | hu
            · obtain ⟨q, e, hq⟩ := k1
              subst e
              exact ⟨_, key_of2 ok hq⟩
            · exact ih k2 u hu
      exact gg hk p.1 m1
    refine wpAny_bind (wpAny_mono (G.wpS_sortRunsSt (κ := tupKindC s'.heap sh0) (kd := tuples' true) (a₀ := keys.zip vs.toArray) (st := SortSt.mk' (tuples' true) (keys.zip vs.toArray) #[] 7 none)
      (Q := fun _ st' => (arrOf st').Perm (keys.zip vs.toArray) ∧ failedOf st' = none ∧ SortedToK (tupKindC s'.heap sh0) (arrOf st') (keys.zip vs.toArray).size)
      (tupC_ltAt true (KeepsTups.refl _)) h0 ⟨Array.Perm.refl _, rfl, rfl⟩ rfl (Stable.refl _) (by rw [zn]; omega) fun st' a1 a2 a3 _ => ⟨a1, a2, a3⟩) ?_ fun _ _ e => e)
    rintro ⟨⟨⟩, st'⟩ s2 ⟨rfl, hp, hf, hs⟩
    try dsimp only
    exact tail st' hp (by rw [hp.size_eq]; exact hs) hf
end
end L2
end

section
set_option Elab.async false
set_option linter.all false
set_option maxRecDepth 100000
set_option maxHeartbeats 1000000
namespace L2
open PySem PySem.Spec PyProof.Rows PyProof.Rows.G

section
variable {X : Cx} {pins : List (Addr × Obj)} {σ : St} {H : Hp} {s : Shared}

/-- an untracked record of ours gets another content -/
theorem Inv.repin {b : Addr} {o o' : Obj} {pl : List (Addr × Obj)} {h' : Heap} {t' : Nat} (I : Inv X (pins ++ ((b, o) :: pl)) σ H s) (fp : FpOk X pins H b) (hpl : ∀ p ∈ pl, p.1 ≠ b) (k : ∀ a u, a ≠ b → s.heap.get? a = some u → h'.get? a = some u)
    (hb : h'.get? b = some o') (hd : ∀ v, o'.data ≠ .cell v) : Inv X (pins ++ ((b, o') :: pl)) σ H { s with heap := h', toks := t' } := by
  have I1 : Inv X (pins ++ pl) σ H s := I.pins_of fun p hp => I.pin p (List.mem_append_right _ (by
    rcases List.mem_append.mp hp with side | side
    · exact List.mem_append_left _ side
    · exact List.mem_append_right _ (List.mem_cons_of_mem _ side)))
  have fp2 : FpOk X (pins ++ pl) H b := ⟨fp.1, fp.2.1, fp.2.2.1, fp.2.2.2.1, fp.2.2.2.2.1, fun p hp => by
    rcases List.mem_append.mp hp with side | side
    · exact fp.2.2.2.2.2 p (List.mem_append_left _ side)
    · rcases List.mem_append.mp side with side | side
      · exact fp.2.2.2.2.2 p (List.mem_append_right _ side)
      · exact hpl p side⟩
  have I2 : Inv X (pins ++ pl) σ H { s with heap := h', toks := t' } := I1.turnedL (t' := t') (ch := [b]) (fun a u n e => k a u (fun side => n (by rw [side]; exact List.mem_singleton.mpr rfl)) e) fun a ha => by
    rw [List.mem_singleton.mp ha]; exact fp2
  refine I2.pins_of fun p hp => ?_
  rcases List.mem_append.mp hp with side | side
  · exact I2.pin p (List.mem_append_right _ (List.mem_append_left _ side))
  · rcases List.mem_cons.mp side with rfl | side
    · exact ⟨hb, fp.1, fp.2.1, fp.2.2.1, hd⟩
    · exact I2.pin p (List.mem_append_right _ (List.mem_append_right _ side))

theorem sorted_lam {k : Nat} {l f c : Addr} {xs : List V} {kz : List (Int × Int)} {qual y : Str} {params : Arguments} {body : Expr} {scope : Scope} {pm ct : Value} {N : List Str} {t : TE} {Q : VK}
    (I : Inv X pins σ H s) (hr : Room (k + 3) X.A) (hl : SqL X.K H l xs) (hlen : kz.length = xs.length)
    (ho : s.heap.get? f = some (lamObj qual params body scope pm c ct)) (hf : FpOk X pins H f) (hc : H c = some (cdO c qual)) (S : FnScope N [y] scope)
    (hb : ∀ u, bindArgs (PySem.W.kla_fn "<lambda>" qual params body scope [] pm (.ref c) ct) ⟨[u], []⟩ = pure [(y, u)])
    (hbody : ∀ A outer s' H', PE (cxOf CX0 X.prog X.w X.K X.mg X.base N qual scope f (.ref c) A outer s' H' E0).nox body t)
    (turn : ∀ (i : Nat) (x : V) (kk : Int × Int) (H' : Hp), xs[i]? = some x → kz[i]? = some kk → Same H H' → t (start N [x]) H' (fun v H'' => ∃ p, v = .ref p ∧ H'' p = some (.tup [.int kk.1, .int kk.2]) ∧ Same H' H''))
    (h : ∀ (D : Addr) (H' : Hp) (prs : List ((Int × Int) × V)), Same H H' → H' D = none → prs.Perm (kz.zip xs) → prs.Pairwise (fun p q => lexLe p.1 q.1) → Q (.ref D) (upd H' D (.lst (prs.map (·.2))))) :
    wpAny (model X.prog X.w) X.A (call (.builtin "sorted") [.ref l] [(Str.ofString "key", .ref f)]) (EP X pins σ Q) X.xe s := by
  obtain ⟨vs, hv, ⟨ol, nl, hol, hcl, _, hdl⟩, hz⟩ := I.list hl
  have hvl := hv.length
  have hz2 : vs.length ≤ sizeLine := by omega
  have hL : s.heap.IsList l vs.toArray := ⟨ol, hol, hcl, nl, hdl⟩
  refine call_function_entry_kw kind_sorted plain_sorted entry_sorted (ksk_s1 _ _) ?_
  unfold Builtin.«sorted»
  refine wpAny_bind (m := (checkCount "sorted" 1 1 _)) (wpAny_pure ?_)
  refine wpAny_bind (collect_list hL ?_ hz2)
  refine wpAny_bind (wpAny_newList ?_ hz2)
  have szL : ((s.heap.push (seqObj "list" #[] 0)).update s.heap.objs.size (Obj.mapSeq (· ++ vs.toArray))).objs.size = s.heap.objs.size + 1 := by
    exact (Heap.size_update _ _ _).trans (size_push' _ _)
  have atD : (((s.heap.push (seqObj "list" #[] 0)).update s.heap.objs.size (Obj.mapSeq (· ++ vs.toArray))).push (seqObj "list" vs.toArray 0)).get? (s.heap.objs.size + 1) = some (seqObj "list" vs.toArray 0) := by
    rw [← szL]; exact Heap.get?_push_size _ rfl
  have held : ∀ b o, s.heap.get? b = some o → (((s.heap.push (seqObj "list" #[] 0)).update s.heap.objs.size (Obj.mapSeq (· ++ vs.toArray))).push (seqObj "list" vs.toArray 0)).get? b = some o := fun b o q => by
    have below : b < s.heap.objs.size := Heap.lt_size q
    rw [Heap.get?_push_ne _ _ _ (by rw [szL]; exact Nat.ne_of_lt (Nat.lt_succ_of_lt below)), Heap.get?_update_ne _ _ _ _ (Nat.ne_of_lt below), Heap.get?_push_ne _ _ _ (Nat.ne_of_lt below)]
    exact q
  show wpAny _ _ _ _ _ { s with heap := (((s.heap.push (seqObj "list" #[] 0)).update s.heap.objs.size (Obj.mapSeq (· ++ vs.toArray))).push (seqObj "list" vs.toArray 0)) }
  rw [szL]
  generalize ((s.heap.push (seqObj "list" #[] 0)).update s.heap.objs.size (Obj.mapSeq (· ++ vs.toArray))).push (seqObj "list" vs.toArray 0) = h1 at atD held
  have fD0 : FpOk X pins H (s.heap.objs.size + 1) := I.fpOk (Nat.le_succ _) (I.hok.fresh (Nat.le_succ _))
  have nDf : s.heap.objs.size + 1 ≠ f := Nat.ne_of_gt (Nat.lt_succ_of_lt (Heap.lt_size ho))
  have szD : s.heap.objs.size ≤ s.heap.objs.size + 1 := Nat.le_succ _
  generalize s.heap.objs.size + 1 = D at atD fD0 nDf szD
  refine wpAny_bind (wpAny_holding (wpAny_call_entry_kw slot_list_sort ⟨_, atD, rfl⟩ entry_list_sort ?body (ksk_l1 _ _)))
  show wpAny (model X.prog X.w) X.A.in1.in1 (Builtin.«list.sort» ⟨[.ref D], [(Str.ofString "key", .ref f)]⟩) _ _ _
  rw [ksk_t1]
  unfold ksk_tree
  refine wpAny_bind (listItems_at atD rfl ?_)
  refine wpAny_bind (listUpdate_at atD rfl ?_ (by rw [List.size_toArray]; exact hz2) (Nat.zero_le _))
  obtain ⟨e1, atD1⟩ : ∃ e1, (h1.update D (Obj.mapSeq fun _ => (#[] : Array Value))).get? D = some (seqObj "list" #[] e1) := ⟨_, get?_update_seq atD fun _ => #[]⟩
  have s1 := Heap.SameBut.update h1 D (Obj.mapSeq fun _ => (#[] : Array Value))
  have szu : (h1.update D (Obj.mapSeq fun _ => (#[] : Array Value))).objs.size = h1.objs.size := Heap.size_update _ _ _
  refine wpAny_bind (seqEpoch_at atD1 rfl ?_)
  refine wpAny_bind (wpAny_newTuple ?_ hz2)
  refine wpAny_bind (wpAny_newList ?_ (by decide))
  refine wpAny_holding ?_
  show wpAny (model X.prog X.w) X.A.in1.in1 (ksk_rest D (.ref f) false vs.toArray e1 (.ref ((h1.update D (Obj.mapSeq fun _ => (#[] : Array Value))).push (seqObj "tuple" vs.toArray 0)).objs.size)) _ _
    { s with heap := ((h1.update D (Obj.mapSeq fun _ => (#[] : Array Value))).push (seqObj "tuple" vs.toArray 0)).push (seqObj "list" #[] 0) }
  have hsz1 : s.heap.objs.size ≤ h1.objs.size := Nat.le_trans szD (Nat.le_of_lt (Heap.lt_size atD))
  have hkS : (((h1.update D (Obj.mapSeq fun _ => (#[] : Array Value))).push (seqObj "tuple" vs.toArray 0)).push (seqObj "list" #[] 0)).get? ((h1.update D (Obj.mapSeq fun _ => (#[] : Array Value))).push (seqObj "tuple" vs.toArray 0)).objs.size = some (seqObj "list" #[] 0) := Heap.get?_push_size _ rfl
  have hD2 : (((h1.update D (Obj.mapSeq fun _ => (#[] : Array Value))).push (seqObj "tuple" vs.toArray 0)).push (seqObj "list" #[] 0)).get? D = some (seqObj "list" #[] e1) := Heap.get?_push_of_some _ (Heap.get?_push_of_some _ atD1)
  have keep2 : ∀ b o, s.heap.get? b = some o → (((h1.update D (Obj.mapSeq fun _ => (#[] : Array Value))).push (seqObj "tuple" vs.toArray 0)).push (seqObj "list" #[] 0)).get? b = some o := fun b o q => by
    refine Heap.get?_push_of_some _ (Heap.get?_push_of_some _ ?_)
    have hb : b ≠ D := fun side => absurd (Nat.lt_of_lt_of_le (Heap.lt_size q) szD) (by rw [side]; exact Nat.lt_irrefl _)
    exact (s1.2 b hb).trans (held b o q)
  have szk : h1.objs.size ≤ ((h1.update D (Obj.mapSeq fun _ => (#[] : Array Value))).push (seqObj "tuple" vs.toArray 0)).objs.size := by rw [size_push', szu]; exact Nat.le_succ _
  have hDh : D < h1.objs.size := Heap.lt_size atD
  have hfh : f < s.heap.objs.size := Heap.lt_size ho
  have fK0 : FpOk X pins H ((h1.update D (Obj.mapSeq fun _ => (#[] : Array Value))).push (seqObj "tuple" vs.toArray 0)).objs.size := I.fpOk (Nat.le_trans hsz1 szk) (I.hok.fresh (Nat.le_trans hsz1 szk))
  have nKD : ((h1.update D (Obj.mapSeq fun _ => (#[] : Array Value))).push (seqObj "tuple" vs.toArray 0)).objs.size ≠ D := Nat.ne_of_gt (Nat.lt_of_lt_of_le hDh szk)
  have nKf : ((h1.update D (Obj.mapSeq fun _ => (#[] : Array Value))).push (seqObj "tuple" vs.toArray 0)).objs.size ≠ f := Nat.ne_of_gt (Nat.lt_of_lt_of_le hfh (Nat.le_trans hsz1 szk))
  generalize ((h1.update D (Obj.mapSeq fun _ => (#[] : Array Value))).push (seqObj "tuple" vs.toArray 0)).objs.size = kS at hkS fK0 nKD nKf
  generalize ((h1.update D (Obj.mapSeq fun _ => (#[] : Array Value))).push (seqObj "tuple" vs.toArray 0)).push (seqObj "list" #[] 0) = h2 at hkS hD2 keep2
  have I2 : Inv X (pins ++ ((kS, seqObj "list" #[] 0) :: [(D, seqObj "list" #[] e1), (f, lamObj qual params body scope pm c ct)])) σ H { s with heap := h2 } := by
    have J : Inv X pins σ H { s with heap := h2 } := I.kept (t' := s.toks) keep2
    refine J.pins_of fun p hp => ?_
    rcases List.mem_append.mp hp with side | side
    · exact J.pin p (List.mem_append_right _ side)
    · simp only [List.mem_cons, List.mem_nil_iff, or_false] at side
      rcases side with rfl | rfl | rfl
      · exact ⟨hkS, fK0.1, fK0.2.1, fK0.2.2.1, fun v q => by cases q⟩
      · exact ⟨hD2, fD0.1, fD0.2.1, fD0.2.2.1, fun v q => by cases q⟩
      · exact ⟨keep2 _ _ ho, hf.1, hf.2.1, hf.2.2.1, fun v q => by cases q⟩
  unfold ksk_rest
  refine wpAny_bind (wpAny_rule ?_)
  first
    | rw [List.forIn_toArray]
    | rw [← Array.forIn_toList]
  refine wpAny_bind (ksk_fold (fun i s' => ∃ kA e H', Inv X (pins ++ ((kS, seqObj "list" kA e) :: [(D, seqObj "list" #[] e1), (f, lamObj qual params body scope pm c ct)])) σ H' s' ∧ Same H H' ∧ KeysAt H' kA.toList (kz.take i)) vs 0 _
    ⟨#[], 0, H, I2, Same.refl H, Paired.nil⟩ ?step ?done)
  case step =>
    rintro j u s' hx ⟨kA, e, H', I', sm, hk⟩
    simp only [Nat.zero_add] at ⊢ hk
    have jl : j < vs.length := (List.getElem?_eq_some_iff.mp hx).1
    obtain ⟨kk, hkj⟩ : ∃ kk, kz[j]? = some kk := ⟨_, List.getElem?_eq_getElem (by omega)⟩
    obtain ⟨x, hxj⟩ : ∃ x, xs[j]? = some x := ⟨_, List.getElem?_eq_getElem (by omega)⟩
    obtain ⟨u', hu', rx⟩ := hv.get hxj
    rw [hx] at hu'; cases hu'
    have pf := I'.pin (f, lamObj qual params body scope pm c ct) (by simp)
    have hcd : s'.heap.CodeRec (.ref c) qual := (I'.hok c _ (sm _ _ hc)).1
    have run := lam_run (k := k) (P := X.prog) (w := X.w) (K := X.K) (mg := X.mg) (base := X.base) (A := X.A.in1.in1) (outer := X.stack) (us := [u]) (vs := [x])
      (Q := fun v H'' => ∃ p, v = .ref p ∧ H'' p = some (.tup [.int kk.1, .int kk.2]) ∧ Same H' H'') pf.1 hcd S (hr.in1.in1) (I'.env0.in1.in1) (hb u) rfl (.cons rx .nil) (hbody _ _ _ _) (turn j x kk H' hxj hkj sm)
    refine wpAny_bind (wpAny_attempt (Q := _) ?_)
    refine wpAny_call (codeAny_mono run fun r s2 hq => ?_)
    cases r with
    | error e => exact False.elim hq
    | ok fl =>
      cases fl with
      | next => exact False.elim hq
      | brk => exact False.elim hq
      | cont => exact False.elim hq
      | ret side =>
        obtain ⟨v, H2, I3, rv, p, rfl, hp, sm2⟩ := I'.after hq
        cases rv
        have pk := I3.pin (kS, seqObj "list" kA e) (by simp)
        have pD := I3.pin (D, seqObj "list" #[] e1) (by simp)
        have hz3 : kA.size ≤ vs.length := by
          have q := hk.length
          rw [Array.length_toList, List.length_take] at q
          omega
        obtain ⟨c2, hc2⟩ : ∃ c2, (s2.heap.update kS (Obj.mapSeq (·.push (.ref p)))).get? kS = some (seqObj "list" (kA.push (.ref p)) c2) := ⟨_, get?_update_seq pk.1 (·.push (.ref p))⟩
        have s3 := Heap.SameBut.update s2.heap kS (Obj.mapSeq (·.push (.ref p)))
        have ek : kz.take (j + 1) = kz.take j ++ [kk] := by rw [List.take_add_one, hkj]; simp
        have ea : (kA.push (Value.ref p)).toList = kA.toList ++ [Value.ref p] := by simp
        try dsimp only
        refine wpAny_bind (listUpdate_at pk.1 rfl ?_ (Nat.le_trans hz3 hz2) (by
          show (kA.push (.ref p)).size ≤ _
          rw [Array.size_push]
          omega))
        refine wpAny_pure ⟨rfl, kA.push (.ref p), c2, H2, ?_, sm.trans sm2, ?_⟩
        · exact I3.repin (t' := s2.toks) ⟨pk.2.1, fK0.2⟩ (fun q hq => by
            simp only [List.mem_cons, List.mem_nil_iff, or_false] at hq
            rcases hq with rfl | rfl
            · exact nKD.symm
            · exact nKf.symm) (fun a o n q => (s3.2 a n).trans q) hc2 fun v q => by cases q
        · rw [ea, ek]
          exact (hk.same sm2).snoc ⟨p, rfl, hp⟩
  case done =>
    rintro s' ⟨kA, e, H', I', sm, hk⟩
    have hk' : KeysAt H' kA.toList kz := by
      have whole : kz.take (0 + vs.length) = kz := List.take_of_length_le (by omega)
      rw [whole] at hk
      exact hk
    have pk := I'.pin (kS, seqObj "list" kA e) (by simp)
    have pD := I'.pin (D, seqObj "list" #[] e1) (by simp)
    try dsimp only
    refine wpAny_bind (listItems_at pk.1 rfl ?_)
    refine sort_end (X := X) I'.hok pk.1 pD.1 nKD hk' hv hlen hz2 fun out c2 h' prs q1 q2 q3 hosz kp hkS' hD' => ?_
    refine ⟨_, rfl, wpAny_pure ⟨_, rfl, .ref D, upd H' D (.lst (prs.map (·.2))), ?_, rfl, h D H' prs sm pD.2.1 q1 q2⟩⟩
    have I3 : Inv X pins σ H' s' := I'.unpinned
    have hch : ∀ b ∈ [kS, D], FpOk X pins H' b := fun b hb => by
      simp only [List.mem_cons, List.mem_nil_iff, or_false] at hb
      rcases hb with rfl | rfl
      · exact ⟨pk.2.1, fK0.2⟩
      · exact ⟨pD.2.1, fD0.2⟩
    have kp2 : ∀ b o, b ∉ [kS, D] → s'.heap.get? b = some o → h'.get? b = some o := fun b o n q => kp b o (fun side => n (by simp [side])) (fun side => n (by simp [side])) q
    have nit : ∀ b u, H' b = some u → b ∉ [kS, D] := fun b u e side => by
      have q := (hch b side).1
      rw [q] at e; cases e
    have hDn : H' D = none := pD.2.1
    refine I3.step (g' := s'.gens) (d' := s'.drawn) (t' := s'.toks) (ch := [kS, D]) (fun b hb => ⟨(hch b hb).2.2.2.1, (hch b hb).2.1, (hch b hb).2.2.2.2.1, (hch b hb).2.2.2.2.2⟩) (fun b o _ _ hc e _ => kp2 b o hc e) (fun b o _ _ hc e _ => ⟨o.slots, kp2 b o hc e⟩)
      (fun b o hc e n => ?_) (fun b o hc e => ⟨o, kp2 b o hc e⟩) (fun b ys e => ?_) (fun b o u e => ?_) (fun b ps e => ⟨#[], ?_⟩) (fun m hm => ?_) (fun b u e => ?_) I3.bare
    · rw [upd_ne (fun side => hc (by simp [side]))]; exact n
    · rw [upd_ne (ne_of_none e hDn)]; exact e
    · rw [upd_ne (ne_of_none e hDn)]; exact e
    · rw [upd_ne (ne_of_none e hDn), e]; simp
    · obtain ⟨o, es, ep, ho, r⟩ := hm
      exact ⟨o, es, ep, kp2 _ o (fun side => (hch _ side).2.1 rfl) ho, r⟩
    · by_cases hb : b = D
      · subst hb
        rw [upd_same] at e
        cases e
        refine ⟨?_, out.toList, c2, q3, by simpa using hD'⟩
        rw [q3.length, Array.length_toList, hosz]
        exact hz2
      · rw [upd_ne hb] at e
        refine (I3.hok b u e).stay (fun c v hc q => kp2 c v ?_ q) (fun c q => by rw [upd_ne (ne_of_none q hDn)]; exact q) fun c xs q => by rw [upd_ne (ne_of_none q hDn)]; exact q
        rcases hc with side | side
        · rw [side]; exact nit b u e
        · exact nit c _ side
end
end L2
end

section
set_option Elab.async false
set_option linter.all false
set_option maxRecDepth 100000
set_option maxHeartbeats 1000000
namespace L2
open PySem PySem.Spec PyProof.Rows

/-- all that was tracked is as it was, but the code table at P, which has grown -/
structure SameT (P : Addr) (lpos : Pos) (qual : Str) (H H' : Hp) : Prop where
  kp : ∀ b o, H b = some o → b ≠ P → H' b = some o
  tab : ∃ ps, H' P = some (.tbl ps) ∧ TabOk H' lpos qual ps
section
variable {P : Addr} {lpos : Pos} {qual : Str} {H H1 H2 : Hp}
theorem TabOk.same {ps : Array Value} (h : TabOk H lpos qual ps) (k : ∀ b o, H b = some o → b ≠ P → H1 b = some o) (hP : ∃ qs, H P = some (.tbl qs)) : TabOk H1 lpos qual ps := by
  refine ⟨h.1, h.2.imp id fun ⟨c, e, hc⟩ => ⟨c, e, k _ _ hc fun z => ?_⟩⟩
  obtain ⟨qs, hq⟩ := hP
  rw [z, hq] at hc
  cases hc
theorem SameT.trans (a : SameT P lpos qual H H1) (b : SameT P lpos qual H1 H2) : SameT P lpos qual H H2 := ⟨fun c o e n => b.kp c o (a.kp c o e n) n, b.tab⟩
theorem SameT.same (a : SameT P lpos qual H H1) (b : Same H1 H2) : SameT P lpos qual H H2 := by
  refine ⟨fun c o e n => b c o (a.kp c o e n), ?_⟩
  obtain ⟨ps, h1, h2⟩ := a.tab
  exact ⟨ps, b _ _ h1, h2.same (P := P) (fun c o e _ => b c o e) ⟨ps, h1⟩⟩
theorem SameT.refl (h : ∃ ps, H P = some (.tbl ps) ∧ TabOk H lpos qual ps) : SameT P lpos qual H H := ⟨fun _ _ e _ => e, h⟩
theorem SameT.of_same (h : ∃ ps, H P = some (.tbl ps) ∧ TabOk H lpos qual ps) (b : Same H H1) : SameT P lpos qual H H1 := (SameT.refl h).same b
theorem SameT.seq {K : PySem.W.Frag} {a : Addr} {xs : List V} (e : SameT P lpos qual H H1) (hP : ∃ qs, H P = some (.tbl qs)) (h : SqL K H a xs) : SqL K H1 a xs := by
  obtain ⟨qs, hq⟩ := hP
  rcases h with (h | ⟨o, h⟩) | h
  · exact .inl (.inl (e.kp _ _ h (ne_of h hq (by intro z; cases z))))
  · exact .inl (.inr ⟨o, e.kp _ _ h (ne_of h hq (by intro z; cases z))⟩)
  · exact .inr h
end

def rSortedLam (K : PySem.W.Frag) (P : Addr) (lpos : Pos) (qual : Str) (N : List Str) (t : TE) (Q : VK) : VK := fun v H1 => ∃ (l : Addr) (xs : List V) (kz : List (Int × Int)), v = .ref l ∧ SqL K H1 l xs ∧ kz.length = xs.length ∧
  (∃ ps, H1 P = some (.tbl ps) ∧ TabOk H1 lpos qual ps) ∧
  (∀ (i : Nat) (x : V) (kk : Int × Int) (H' : Hp), xs[i]? = some x → kz[i]? = some kk → SameT P lpos qual H1 H' → t (start N [x]) H' (fun v H'' => ∃ p, v = .ref p ∧ H'' p = some (.tup [.int kk.1, .int kk.2]) ∧ Same H' H'')) ∧
  ∀ (D : Addr) (H' : Hp) (prs : List ((Int × Int) × V)), SameT P lpos qual H1 H' → H' D = none → prs.Perm (kz.zip xs) → prs.Pairwise (fun p q => lexLe p.1 q.1) → Q (.ref D) (upd H' D (.lst (prs.map (·.2))))

def tSortedLam (K : PySem.W.Frag) (P : Addr) (lpos : Pos) (qual : Str) (N : List Str) (te t : TE) : TE := fun σ H Q => te σ H (rSortedLam K P lpos qual N t Q)
def onlyOne (R : VK) : List V → Hp → Prop := fun vs H => match vs with
  | [x] => R x H
  | _ => False
theorem sorted_boots : bootBuiltins "sorted" = some (.builtin "sorted") := by decide +kernel
theorem pe_sortedLam {X : Cx} {k : Nat} {c P : Addr} {e : Expr} {te t : TE} {params : Arguments} {body : Expr} {scope : Scope} {lpos p pos kpos : Pos} {N : List Str} {y : Str}
    (hcode : X.env.code = .ref c) (C : PySem.W.CodeHd X.base c P) (B : BmIn X.mg X.base) (hr : Room (k + 3) X.A) (hg : Gl X "sorted") (hm : X.mg "sorted" = none) (he : PE X e te)
    (S : FnScope N [y] scope)
    (hb : ∀ pm c ct u, bindArgs (PySem.W.kla_fn "<lambda>" (X.env.qual ++ "<lambda>") params body scope [] pm (.ref c) ct) ⟨[u], []⟩ = pure [(y, u)])
    (hbody : ∀ f c A outer s' H', PE (cxOf CX0 X.prog X.w X.K X.mg X.base N (X.env.qual ++ "<lambda>") scope f (.ref c) A outer s' H' E0).nox body t)
    (hdef : defaultsOf params X.env = ([], []) := by rfl) (hcl : closureFor scope X.env = pure [] := by rfl)
    (hes : starEach [e] X.env = [(false, eval e X.env)] := by rfl) (hkw : backToKw pos (keywordEach [⟨some "key", .Lambda params body scope lpos, kpos⟩] X.env) = [(some (Str.ofString "key"), do let v ← eval (.Lambda params body scope lpos) X.env; standAt pos; pure v)] := by rfl) :
    PE X (.Call (.Name "sorted" p) [e] [⟨some "key", .Lambda params body scope lpos, kpos⟩] pos) (tSortedLam X.K P lpos (X.env.qual ++ "<lambda>") N te t) := by
  intro pins s σ H Q I h
  refine wpAny_Call_Name_kw (ld_blt I hg hm sorted_boots ?_)
  refine PyProof.Rows.callWith_kw ?_ (by rw [hes]; rfl) (by rw [hes]; rfl) (by rw [hkw]; rfl) (by rw [hkw]; rfl)
  rw [hkw]
  have h2 : tCons te tNil σ H (onlyOne (rSortedLam X.K P lpos (X.env.qual ++ "<lambda>") N t Q)) := h
  refine thn ((pa_cons he pa_nil hes) pos pins s σ H _ I h2) fun us s1 ⟨vs, H1, I1, r1, q1⟩ => ?_
  obtain ⟨v, rfl⟩ : ∃ v, vs = [v] := by
    match vs, q1 with
    | [v], _ => exact ⟨v, rfl⟩
  obtain ⟨l, xs, kz, e1, hl, hlen, ⟨ps, hP, hT⟩, turn, q⟩ := (show rSortedLam X.K P lpos (X.env.qual ++ "<lambda>") N t Q v H1 from q1)
  show wpAny _ _ (evalAll [(do let v ← eval (.Lambda params body scope lpos) X.env; standAt pos; pure v)]) _ _ s1
  refine wpAny_evalAll_cons (wpAny_bind ?_)
  refine lam_make I1 hcode C B hP hT hdef hcl fun f c' pm ct s2 H2 I2 ho hf0 hsz hc tab kp => ?_
  refine wpAny_bind (wpAny_standAt (wpAny_pure (wpAny_evalAll_nil ?_)))
  obtain ⟨u, rfl, ru⟩ := vals1 (show Vals [V.ref l] us by rw [← e1]; exact r1)
  cases ru
  have st : SameT P lpos (X.env.qual ++ "<lambda>") H1 H2 := ⟨kp, tab⟩
  exact sorted_lam I2 hr (st.seq ⟨ps, hP⟩ hl) hlen ho (I1.fpOk hsz hf0) hc S (hb pm c' ct) (fun A outer s' H' => hbody f c' A outer s' H')
    (fun i x kk H' h1 h2 sm => turn i x kk H' h1 h2 (st.same sm)) fun D H' prs sm hD p1 p2 => q D H' prs (st.same sm) hD p1 p2
end L2
end

section
/-! The mathematics of the specification: leaps, waits, the order of turns. -/
namespace My
open Vbrgac (Actor Effect speed ready passed leastOf until_ run rounds runs earlier put queue first change acted State)

/-! ### the least of a list -/
theorem least_go : ∀ (l : List Nat) (y : Nat), ∃ n, l.foldl (fun b x => match b with | none => some x | some y => some (min x y)) (some y) = some n ∧ n ≤ y ∧ (∀ x ∈ l, n ≤ x) ∧ (n = y ∨ n ∈ l)
  | [], y => ⟨y, rfl, Nat.le_refl _, (fun _ h => by cases h), .inl rfl⟩
  | x :: r, y => by
    obtain ⟨n, e, h1, h2, h3⟩ := least_go r (min x y)
    refine ⟨n, e, Nat.le_trans h1 (Nat.min_le_right _ _), fun z hz => ?_, ?_⟩
    · rcases (List.mem_cons.mp hz) with rfl | hz
      · exact Nat.le_trans h1 (Nat.min_le_left _ _)
      · exact h2 z hz
    · rcases h3 with h3 | h3
      · by_cases q : x ≤ y
        · rw [Nat.min_eq_left q] at h3
          exact .inr (by rw [h3]; exact List.mem_cons_self)
        · rw [Nat.min_eq_right (by omega)] at h3
          exact .inl h3
      · exact .inr (List.mem_cons_of_mem _ h3)
theorem least_nil : leastOf [] = none := rfl
theorem least_some {l : List Nat} (h : l ≠ []) : ∃ n, leastOf l = some n ∧ n ∈ l ∧ ∀ x ∈ l, n ≤ x := by
  cases l with
  | nil => exact absurd rfl h
  | cons x r =>
    obtain ⟨n, e, h1, h2, h3⟩ := least_go r x
    refine ⟨n, e, ?_, fun z hz => ?_⟩
    · rcases h3 with h3 | h3
      · rw [h3]; exact List.mem_cons_self
      · exact List.mem_cons_of_mem _ h3
    · rcases (List.mem_cons.mp hz) with rfl | hz
      · exact h1
      · exact h2 z hz
theorem least_is {l : List Nat} {n : Nat} (h1 : n ∈ l) (h2 : ∀ x ∈ l, n ≤ x) : leastOf l = some n := by
  obtain ⟨m, e, a, b⟩ := least_some (l := l) (by intro q; rw [q] at h1; cases h1)
  have : m = n := Nat.le_antisymm (b n h1) (h2 m a)
  rw [e, this]

/-! ### actors that may be -/
structure WfA (B : Int) (a : Actor) : Prop where
  b1 : 1 ≤ a.base
  b2 : a.base ≤ 1000
  few : a.effects.length ≤ 8
  eff : ∀ e ∈ a.effects, 0 < e.left ∧ e.left ≤ 1000000
  en : -B ≤ a.energy

theorem speed_le (a : Actor) : speed a ≤ 5000 := by unfold speed; simp only [Vbrgac.FAST]; omega
theorem speed_nn (a : Actor) : 0 ≤ speed a := by unfold speed; omega
theorem speed_bare {a : Actor} (h1 : 1 ≤ a.base) (h2 : a.base ≤ 1000) (e : a.effects = []) : speed a = a.base := by
  unfold speed
  rw [e]
  simp only [Vbrgac.FAST, List.map_nil, List.sum_nil]
  omega

/-- the tick numbers at which something changes for one actor -/
def spans (a : Actor) : List Nat := a.effects.map (fun e => e.left) ++ (if 0 < speed a then [((-a.energy + speed a - 1) / speed a).toNat] else [])
theorem spans_ne {a : Actor} (h1 : 1 ≤ a.base) (h2 : a.base ≤ 1000) : spans a ≠ [] := by
  unfold spans
  intro q
  obtain ⟨q1, q2⟩ := List.append_eq_nil_iff.mp q
  have e : a.effects = [] := List.map_eq_nil_iff.mp q1
  have s := speed_bare h1 h2 e
  rw [if_pos (by omega)] at q2
  cases q2
theorem mem_until (l : List Actor) (x : Nat) : x ∈ ((l.flatMap fun a => a.effects.map fun e => e.left) ++ l.filterMap fun a => if 0 < speed a then some ((-a.energy + speed a - 1) / speed a).toNat else none) ↔ ∃ a ∈ l, x ∈ spans a := by
  rw [List.mem_append]
  constructor
  · rintro (h | h)
    · obtain ⟨a, ha, hx⟩ := List.mem_flatMap.mp h
      exact ⟨a, ha, List.mem_append_left _ hx⟩
    · obtain ⟨a, ha, hx⟩ := List.mem_filterMap.mp h
      refine ⟨a, ha, List.mem_append_right _ ?_⟩
      by_cases q : 0 < speed a
      · rw [if_pos q] at hx ⊢
        rw [← Option.some.inj hx]
        exact List.mem_cons_self
      · rw [if_neg q] at hx
        cases hx
  · rintro ⟨a, ha, hx⟩
    rcases (List.mem_append.mp hx) with hx | hx
    · exact .inl (List.mem_flatMap.mpr ⟨a, ha, hx⟩)
    · refine .inr (List.mem_filterMap.mpr ⟨a, ha, ?_⟩)
      by_cases q : 0 < speed a
      · rw [if_pos q] at hx ⊢
        rw [List.mem_singleton.mp hx]
      · rw [if_neg q] at hx
        cases hx
theorem until_is {l : List Actor} {n : Nat} (h1 : ∃ a ∈ l, n ∈ spans a) (h2 : ∀ a ∈ l, ∀ x ∈ spans a, n ≤ x) : until_ l = some n :=
  least_is ((mem_until l n).mpr h1) fun x hx => let ⟨a, ha, q⟩ := (mem_until l x).mp hx; h2 a ha x q
theorem until_nil : until_ [] = none := rfl

/-! ### a run's end -/
theorem run_stop {k most : Nat} {l : List Actor} (h : most = 0 ∨ l.any ready = true) : run k most l = (l, 0) := by
  cases k with
  | zero => rfl
  | succ k => unfold run; rw [if_pos h]
theorem run_nil (k most : Nat) : run (k + 1) most [] = ([], most) := by
  unfold run
  by_cases h : most = 0
  · rw [if_pos (.inl h), h]
  · rw [if_neg (by intro q; rcases q with q | q; exact h q; cases q)]
    rfl
theorem run_go {k most n : Nat} {l : List Actor} (h0 : most ≠ 0) (hr : l.any ready = false) (hu : until_ l = some n) :
    run (k + 1) most l = ((run k (most - min n most) (l.map (passed (min n most)))).1, min n most + (run k (most - min n most) (l.map (passed (min n most)))).2) := by
  conv => lhs; unfold run
  rw [if_neg (by intro q; rcases q with q | q; exact h0 q; rw [hr] at q; cases q), hu]

/-! ### what a leap does -/
theorem passed_base (n : Nat) (a : Actor) : (passed n a).base = a.base := rfl
theorem passed_num (n : Nat) (a : Actor) : (passed n a).num = a.num := rfl
theorem passed_energy (n : Nat) (a : Actor) : (passed n a).energy = a.energy + n * speed a := rfl
theorem passed_len (n : Nat) (a : Actor) : (passed n a).effects.length ≤ a.effects.length := by
  refine Nat.le_trans (List.length_filter_le _ _) ?_
  rw [List.length_map]
  exact Nat.le_refl _
theorem filter_lt {α : Type} {p : α → Bool} : ∀ {l : List α} {x : α}, x ∈ l → p x = false → (l.filter p).length < l.length
  | y :: r, x, h, hp => by
    rcases (List.mem_cons.mp h) with rfl | h
    · rw [List.filter_cons, hp]
      have := List.length_filter_le p r
      simp only [Bool.false_eq_true, if_false, List.length_cons]
      omega
    · have ih := filter_lt h hp
      rw [List.filter_cons]
      split <;> (simp only [List.length_cons]; omega)
/-- an effect that lasts just so long ends -/
theorem passed_ends {n : Nat} {a : Actor} {e : Effect} (he : e ∈ a.effects) (hn : e.left ≤ n) : (passed n a).effects.length < a.effects.length := by
  have h : ({ e with left := e.left - n } : Effect) ∈ a.effects.map (fun e => { e with left := e.left - n }) := List.mem_map.mpr ⟨e, he, rfl⟩
  have q := filter_lt (p := fun e : Effect => decide (0 < e.left)) h (by
    show decide (0 < e.left - n) = false
    exact decide_eq_false (by omega))
  rw [List.length_map] at q
  exact q
theorem WfA.passed {B : Int} {a : Actor} (n : Nat) (w : WfA B a) : WfA B (passed n a) := by
  refine ⟨w.b1, w.b2, Nat.le_trans (passed_len n a) w.few, fun e he => ?_, ?_⟩
  · obtain ⟨h1, h2⟩ := List.mem_filter.mp he
    obtain ⟨e0, h3, rfl⟩ := List.mem_map.mp h1
    have := (w.eff e0 h3).2
    refine ⟨of_decide_eq_true h2, ?_⟩
    show e0.left - n ≤ 1000000
    omega
  · have h1 : 0 ≤ (n : Int) * speed a := Int.mul_nonneg (by omega) (speed_nn a)
    have h2 := w.en
    rw [passed_energy]
    omega
theorem sum_le : ∀ (l : List Actor) (n : Nat), ((l.map (passed n)).map fun a => a.effects.length).sum ≤ (l.map fun a => a.effects.length).sum
  | [], _ => Nat.le_refl _
  | a :: r, n => by
    have ih := sum_le r n
    have h := passed_len n a
    simp only [List.map_cons, List.sum_cons]
    omega
theorem sum_lt : ∀ {l : List Actor} {n : Nat} {a : Actor}, a ∈ l → (passed n a).effects.length < a.effects.length → ((l.map (passed n)).map fun a => a.effects.length).sum < (l.map fun a => a.effects.length).sum
  | b :: r, n, a, h, q => by
    simp only [List.map_cons, List.sum_cons]
    rcases (List.mem_cons.mp h) with rfl | h
    · have := sum_le r n
      omega
    · have ih := sum_lt h q
      have h := passed_len n b
      omega
/-- a leap to the next change: an effect ends, or somebody is ready -/
theorem leap_ends {l : List Actor} {n : Nat} (h1 : ∃ a ∈ l, n ∈ spans a) : rounds (l.map (passed n)) < rounds l ∨ (l.map (passed n)).any ready = true := by
  obtain ⟨a, ha, hx⟩ := h1
  rcases (List.mem_append.mp hx) with hx | hx
  · obtain ⟨e, he, rfl⟩ := List.mem_map.mp hx
    left
    have := sum_lt ha (passed_ends (n := e.left) he (Nat.le_refl _))
    unfold rounds
    omega
  · right
    by_cases q : 0 < speed a
    · rw [if_pos q] at hx
      have hx := List.mem_singleton.mp hx
      refine List.any_eq_true.mpr ⟨passed n a, List.mem_map.mpr ⟨a, ha, rfl⟩, ?_⟩
      refine decide_eq_true ?_
      rw [passed_energy]
      have h1 : (-a.energy + speed a - 1) / speed a ≤ (n : Int) := by rw [hx]; exact Int.self_le_toNat _
      have h2 : -a.energy + speed a - 1 < ((-a.energy + speed a - 1) / speed a + 1) * speed a := by
        have := Int.lt_ediv_add_one_mul_self (-a.energy + speed a - 1) q
        exact this
      have h3 : ((-a.energy + speed a - 1) / speed a + 1) * speed a ≤ ((n : Int) + 1) * speed a := Int.mul_le_mul_of_nonneg_right (by omega) (by omega)
      have h4 : ((n : Int) + 1) * speed a = n * speed a + speed a := by rw [Int.add_mul, Int.one_mul]
      omega
    · rw [if_neg q] at hx
      cases hx
end My
end

section
/-! The order of turns: the queue is the one sorted list of the ready. -/
namespace My
open Vbrgac (Actor Effect speed ready passed leastOf until_ run rounds runs earlier put queue first change acted State)

theorem perm_map_inv {α β : Type} (f : α → β) : ∀ {l : List β} {r : List α}, l.Perm (r.map f) → ∃ r' : List α, r'.Perm r ∧ l = r'.map f := by
  intro l r h
  generalize e : r.map f = m at h
  induction h generalizing r with
  | nil =>
    have : r = [] := List.map_eq_nil_iff.mp e
    subst this
    exact ⟨[], .refl _, rfl⟩
  | cons x h ih =>
    cases r with
    | nil => cases e
    | cons a r =>
      rw [List.map_cons] at e
      injection e with e1 e2
      obtain ⟨r', p, q⟩ := ih e2
      exact ⟨a :: r', p.cons a, by rw [q, List.map_cons, e1]⟩
  | swap x y l =>
    match r, e with
    | a :: b :: r, e =>
      simp only [List.map_cons, List.cons.injEq] at e
      obtain ⟨e1, e2, e3⟩ := e
      exact ⟨b :: a :: r, .swap a b r, by simp [e1, e2, e3]⟩
  | trans h1 h2 ih1 ih2 =>
    obtain ⟨r1, p1, q1⟩ := ih2 e
    obtain ⟨r2, p2, q2⟩ := ih1 q1.symm
    exact ⟨r2, p2.trans p1, q2⟩

/-- a goes ahead of b, or they are level -/
def ahead (a b : Actor) : Prop := b.energy < a.energy ∨ (a.energy = b.energy ∧ a.num ≤ b.num)
theorem ahead_of {a b : Actor} (h : earlier a b = true) : ahead a b := by
  unfold earlier at h
  simp only [Bool.or_eq_true, decide_eq_true_eq, Bool.and_eq_true] at h
  rcases h with h | ⟨h1, h2⟩
  · exact .inl h
  · exact .inr ⟨h1, by omega⟩
theorem ahead_not {a b : Actor} (h : ¬ earlier a b = true) : ahead b a := by
  unfold earlier at h
  simp only [Bool.or_eq_true, decide_eq_true_eq, Bool.and_eq_true, not_or, not_and] at h
  obtain ⟨h1, h2⟩ := h
  unfold ahead
  by_cases e : a.energy = b.energy
  · exact .inr ⟨e.symm, by have := h2 e; omega⟩
  · exact .inl (by omega)
theorem ahead_trans {a b c : Actor} (h : ahead a b) (h' : ahead b c) : ahead a c := by
  unfold ahead at *
  omega
theorem put_perm (a : Actor) : ∀ l : List Actor, (put a l).Perm (a :: l)
  | [] => .refl _
  | b :: r => by
    unfold put
    split
    · exact .refl _
    · exact ((put_perm a r).cons b).trans (.swap a b r)
theorem put_sorted (a : Actor) : ∀ l : List Actor, l.Pairwise ahead → (put a l).Pairwise ahead
  | [], _ => by
    unfold put
    exact List.pairwise_singleton _ _
  | b :: r, h => by
    obtain ⟨h1, h2⟩ := (List.pairwise_cons.mp h)
    unfold put
    split
    · rename_i q
      refine List.pairwise_cons.mpr ⟨fun c hc => ?_, h⟩
      rcases (List.mem_cons.mp hc) with rfl | hc
      · exact ahead_of q
      · exact ahead_trans (ahead_of q) (h1 c hc)
    · rename_i q
      refine List.pairwise_cons.mpr ⟨fun c hc => ?_, put_sorted a r h2⟩
      rcases List.mem_cons.mp ((put_perm a r).mem_iff.mp hc) with rfl | hc
      · exact ahead_not q
      · exact h1 c hc
theorem queue_perm (l : List Actor) : (queue l).Perm (l.filter ready) := by
  unfold queue
  induction l.filter ready with
  | nil => exact .refl _
  | cons a r ih => exact (put_perm a _).trans (ih.cons a)
theorem queue_sorted (l : List Actor) : (queue l).Pairwise ahead := by
  unfold queue
  induction l.filter ready with
  | nil => exact .nil
  | cons a r ih => exact put_sorted a _ ih
/-- two sorted lists with the same actors are one -/
theorem sorted_one : ∀ {l m : List Actor}, l.Perm m → l.Pairwise ahead → m.Pairwise ahead → (∀ a ∈ l, ∀ b ∈ l, a.num = b.num → a = b) → l = m
  | [], m, p, _, _, _ => (List.nil_perm.mp p).symm
  | a :: l, [], p, _, _, _ => absurd p.length_eq (by simp)
  | a :: l, b :: m, p, h1, h2, hn => by
    obtain ⟨g1, g2⟩ := List.pairwise_cons.mp h1
    obtain ⟨k1, k2⟩ := List.pairwise_cons.mp h2
    have e : a = b := by
      rcases List.mem_cons.mp (p.mem_iff.mp List.mem_cons_self) with e | ha
      · exact e
      · rcases List.mem_cons.mp (p.mem_iff.mpr List.mem_cons_self) with e | hb
        · exact e.symm
        · have q1 := g1 b hb
          have q2 := k1 a ha
          unfold ahead at q1 q2
          exact hn a List.mem_cons_self b (List.mem_cons_of_mem _ hb) (by omega)
    subst e
    rw [sorted_one (List.Perm.cons_inv p) g2 k2 fun x hx y hy => hn x (List.mem_cons_of_mem _ hx) y (List.mem_cons_of_mem _ hy)]
theorem num_inj {l : List Actor} (h : (l.map fun a => a.num).Nodup) : ∀ a ∈ l, ∀ b ∈ l, a.num = b.num → a = b := by
  intro a ha b hb e
  induction l with
  | nil => cases ha
  | cons c r ih =>
    rw [List.map_cons] at h
    obtain ⟨h1, h2⟩ := List.nodup_cons.mp h
    rcases (List.mem_cons.mp ha) with rfl | ha'
    · rcases (List.mem_cons.mp hb) with rfl | hb'
      · rfl
      · exact absurd (List.mem_map.mpr ⟨b, hb', e.symm⟩) h1
    · rcases (List.mem_cons.mp hb) with rfl | hb'
      · exact absurd (List.mem_map.mpr ⟨a, ha', e⟩) h1
      · exact ih h2 ha' hb'
theorem queue_is {l q : List Actor} (hn : (l.map fun a => a.num).Nodup) (p : q.Perm (l.filter ready)) (hs : q.Pairwise ahead) : q = queue l := by
  refine sorted_one (p.trans (queue_perm l).symm) hs (queue_sorted l) fun a ha b hb e => ?_
  have ma := (List.mem_filter.mp (p.mem_iff.mp ha)).1
  have mb := (List.mem_filter.mp (p.mem_iff.mp hb)).1
  exact num_inj hn a ma b mb e
theorem queue_nil {l : List Actor} : queue l = [] ↔ l.any ready = false := by
  constructor
  · intro h
    have p := queue_perm l
    rw [h] at p
    have e := List.nil_perm.mp p
    cases q : l.any ready with
    | false => rfl
    | true =>
      obtain ⟨a, ha, hr⟩ := List.any_eq_true.mp q
      have : a ∈ l.filter ready := List.mem_filter.mpr ⟨ha, hr⟩
      rw [e] at this
      cases this
  · intro h
    have e : l.filter ready = [] := List.filter_eq_nil_iff.mpr fun a ha hr => by
      have : l.any ready = true := List.any_eq_true.mpr ⟨a, ha, hr⟩
      rw [h] at this
      cases this
    have p := queue_perm l
    rw [e] at p
    exact List.perm_nil.mp p
/-- whose turn it is, as a number: 0 for nobody -/
def turnOf (l : List Actor) : Int := ((first l).map Vbrgac.nat).getD 0
theorem turn_zero {l : List Actor} (h : ∀ a ∈ l, 0 < a.num) : turnOf l = 0 ↔ l.any ready = false := by
  unfold turnOf first
  cases e : queue l with
  | nil => exact ⟨fun _ => queue_nil.mp e, fun _ => rfl⟩
  | cons a r =>
    have ha : a ∈ l := (List.mem_filter.mp ((queue_perm l).mem_iff.mp (by rw [e]; exact List.mem_cons_self))).1
    have hp := h a ha
    constructor
    · intro z
      have z : ((a.num : Nat) : Int) = 0 := z
      omega
    · intro z
      have := queue_nil.mpr z
      rw [e] at this
      cases this
end My
end

section
/-! Waiting: the loop by leaps is the specification's run. -/
namespace My
open Vbrgac (Actor Effect speed ready passed leastOf until_ run rounds runs earlier put queue first change acted State)

/-- n is the number of ticks to the next change -/
structure Next (l : List Actor) (n : Nat) : Prop where
  mem : ∃ a ∈ l, n ∈ spans a
  le : ∀ a ∈ l, ∀ x ∈ spans a, n ≤ x

/-- the loop's state: so many ticks went by, l is how all are now -/
def LoopInv (most : Nat) (l0 : List Actor) (went : Nat) (l : List Actor) : Prop :=
  ∃ k, went ≤ most ∧ runs most l0 = ((run k (most - went) l).1, went + (run k (most - went) l).2) ∧ (rounds l ≤ k ∨ most - went = 0 ∨ l.any ready = true)
theorem loop_start (most : Nat) (l : List Actor) : LoopInv most l 0 l := by
  refine ⟨rounds l, Nat.zero_le _, ?_, .inl (Nat.le_refl _)⟩
  show run (rounds l) most l = _
  rw [Nat.sub_zero, Nat.zero_add]
theorem loop_exit {most went : Nat} {l0 l : List Actor} (I : LoopInv most l0 went l) (h : most ≤ went ∨ l.any ready = true) : runs most l0 = (l, went) := by
  obtain ⟨k, h1, h2, _⟩ := I
  rw [h2, run_stop (h.imp (fun q => by omega) id)]
  rfl
theorem loop_step {most went n : Nat} {l0 l : List Actor} (I : LoopInv most l0 went l) (hw : went < most) (hr : l.any ready = false) (hn : Next l n) :
    LoopInv most l0 (went + min n (most - went)) (l.map (passed (min n (most - went)))) := by
  obtain ⟨k, h1, h2, h3⟩ := I
  have h3 : rounds l ≤ k := by
    rcases h3 with h3 | h3 | h3
    · exact h3
    · omega
    · rw [hr] at h3; cases h3
  have hk : 2 ≤ rounds l := by unfold rounds; omega
  obtain ⟨j, rfl⟩ : ∃ j, k = j + 1 := ⟨k - 1, by omega⟩
  rw [run_go (by omega) hr (until_is hn.mem hn.le)] at h2
  refine ⟨j, by omega, ?_, ?_⟩
  · rw [h2]
    have e : most - (went + min n (most - went)) = most - went - min n (most - went) := by omega
    rw [e]
    show (_, _) = (_, _)
    rw [Nat.add_assoc]
  · by_cases q : n ≤ most - went
    · rw [Nat.min_eq_left q]
      rcases leap_ends hn.mem with z | z
      · exact .inl (by omega)
      · exact .inr (.inr z)
    · rw [Nat.min_eq_right (by omega)]
      exact .inr (.inl (by omega))
theorem loop_nil {most went : Nat} {l0 : List Actor} (I : LoopInv most l0 went []) (hw : went < most) : LoopInv most l0 most [] := by
  obtain ⟨k, h1, h2, h3⟩ := I
  have h3 : 2 ≤ k := by
    rcases h3 with h3 | h3 | h3
    · exact h3
    · omega
    · cases h3
  obtain ⟨j, rfl⟩ : ∃ j, k = j + 1 := ⟨k - 1, by omega⟩
  rw [run_nil] at h2
  refine ⟨1, Nat.le_refl _, ?_, .inr (.inl (Nat.sub_self _))⟩
  rw [h2, run_stop (.inl (Nat.sub_self _))]
  show (_, _) = (_, _)
  have : went + (most - went) = most + 0 := by omega
  rw [this]
theorem spans_pos {B : Int} {a : Actor} (w : WfA B a) (he : a.energy < 0) : ∀ x ∈ spans a, 0 < x := by
  intro x hx
  rcases (List.mem_append.mp hx) with hx | hx
  · obtain ⟨e, h1, rfl⟩ := List.mem_map.mp hx
    exact (w.eff e h1).1
  · by_cases q : 0 < speed a
    · rw [if_pos q] at hx
      rw [List.mem_singleton.mp hx]
      have h1 : 1 ≤ (-a.energy + speed a - 1) / speed a := by
        rw [Int.le_ediv_iff_mul_le q]
        omega
      omega
    · rw [if_neg q] at hx
      cases hx
theorem not_ready {l : List Actor} (h : l.any ready = false) : ∀ a ∈ l, a.energy < 0 := by
  intro a ha
  by_cases q : 0 ≤ a.energy
  · have : l.any ready = true := List.any_eq_true.mpr ⟨a, ha, decide_eq_true q⟩
    rw [h] at this
    cases this
  · omega

/-! ### a wait has an end: the potential of one actor -/
def maxLeft (es : List Effect) : Nat := es.foldr (fun e m => max e.left m) 0
theorem maxLeft_le {es : List Effect} {M : Nat} (h : ∀ e ∈ es, e.left ≤ M) : maxLeft es ≤ M := by
  induction es with
  | nil => exact Nat.zero_le _
  | cons e r ih =>
    have h1 := h e List.mem_cons_self
    have h2 := ih fun x hx => h x (List.mem_cons_of_mem _ hx)
    show max e.left (maxLeft r) ≤ M
    omega
theorem le_maxLeft {es : List Effect} : ∀ {e : Effect}, e ∈ es → e.left ≤ maxLeft es := by
  induction es with
  | nil => intro e h; cases h
  | cons x r ih =>
    intro e h
    show e.left ≤ max x.left (maxLeft r)
    rcases (List.mem_cons.mp h) with rfl | h
    · omega
    · have := ih h
      omega
def pot (a : Actor) : Nat := maxLeft a.effects + (-a.energy).toNat
theorem pot_step {B : Int} {a : Actor} {n : Nat} (w : WfA B a) (he : a.energy < 0) (hn : ∀ x ∈ spans a, n ≤ x) : pot (passed n a) + n ≤ pot a := by
  unfold pot
  rw [passed_energy]
  by_cases q : a.effects = []
  · have hs := speed_bare w.b1 w.b2 q
    have hb := w.b1
    have hp : 0 < speed a := by omega
    have h1 : n ≤ ((-a.energy + speed a - 1) / speed a).toNat := hn _ (by
      unfold spans
      rw [if_pos hp]
      exact List.mem_append_right _ List.mem_cons_self)
    have h2 : (passed n a).effects = [] := by
      show List.filter _ (List.map _ a.effects) = []
      rw [q]
      rfl
    rw [h2, q]
    show 0 + _ + n ≤ 0 + _
    have h3 : (n : Int) ≤ (-a.energy + speed a - 1) / speed a := by
      have : 0 ≤ (-a.energy + speed a - 1) / speed a := Int.ediv_nonneg (by omega) (by omega)
      omega
    have h4 : (n : Int) * speed a ≤ -a.energy + speed a - 1 := (Int.le_ediv_iff_mul_le hp).mp h3
    have h5 : (n : Int) ≤ n * speed a := by
      have : (n : Int) * 1 ≤ n * speed a := Int.mul_le_mul_of_nonneg_left (by omega) (by omega)
      omega
    by_cases z : a.energy + n * speed a < 0
    · omega
    · have : (n : Int) ≤ -a.energy := by
        by_cases c : (n : Int) ≤ -a.energy
        · exact c
        · exfalso
          have c1 : -a.energy + 1 ≤ (n : Int) := by omega
          have c2 : (-a.energy + 1) * speed a ≤ n * speed a := Int.mul_le_mul_of_nonneg_right c1 (by omega)
          have c3 : (-a.energy + 1) * speed a = -a.energy * speed a + speed a := by rw [Int.add_mul, Int.one_mul]
          have c4 : -a.energy * 1 ≤ -a.energy * speed a := Int.mul_le_mul_of_nonneg_left (by omega) (by omega)
          omega
      omega
  · obtain ⟨e0, he0⟩ : ∃ e, e ∈ a.effects := by
      cases h : a.effects with
      | nil => exact absurd h q
      | cons e r => exact ⟨e, List.mem_cons_self⟩
    have hl : ∀ e ∈ a.effects, n ≤ e.left := fun e h => hn _ (List.mem_append_left _ (List.mem_map.mpr ⟨e, h, rfl⟩))
    have h1 := hl e0 he0
    have h2 := le_maxLeft he0
    have h3 : maxLeft (passed n a).effects ≤ maxLeft a.effects - n := maxLeft_le fun e h => by
      obtain ⟨g1, _⟩ := List.mem_filter.mp h
      obtain ⟨x, hx, rfl⟩ := List.mem_map.mp g1
      have := le_maxLeft hx
      show x.left - n ≤ _
      omega
    have h4 : 0 ≤ (n : Int) * speed a := Int.mul_nonneg (by omega) (speed_nn a)
    omega
theorem pot_le {B : Int} {a : Actor} (w : WfA B a) : (pot a : Int) ≤ 1000000 + max B 0 := by
  unfold pot
  have h1 : maxLeft a.effects ≤ 1000000 := maxLeft_le fun e h => (w.eff e h).2
  have h2 := w.en
  omega
/-- a wait without a lid: all leaps are whole -/
theorem leap_fits {B : Int} {a : Actor} {l : List Actor} {n : Nat} (ha : a ∈ l) (w : WfA B a) (he : a.energy < 0) (hn : Next l n) : n ≤ pot a := by
  have := pot_step w he (hn.le a ha)
  omega
end My
end

section
set_option Elab.async false
set_option linter.all false
set_option maxRecDepth 100000
set_option maxHeartbeats 2000000
namespace My
open PySem PySem.Spec PyProof.Rows L2
open Vbrgac (Actor Effect speed ready passed leastOf until_ run rounds runs earlier put queue first change acted State)
def top (i : Nat) : Stmt := PySem.Challenge.pw_energyturns_s01_answers.main.body.getD i (.Pass ⟨0, 0, 0, 0⟩)
abbrev d_Actor_init : Stmt := inClass (top 2) 0
abbrev d_Actor_twin : Stmt := inClass (top 2) 1
abbrev d_Actor_speed : Stmt := inClass (top 2) 2
abbrev d_Actor_is_ready : Stmt := inClass (top 2) 3
abbrev d_Actor_steady_ticks : Stmt := inClass (top 2) 4
abbrev d_Actor_ticks_until_ready : Stmt := inClass (top 2) 5
abbrev d_Actor_gain : Stmt := inClass (top 2) 6
abbrev d_Actor_spend : Stmt := inClass (top 2) 7
abbrev d_Actor_act : Stmt := inClass (top 2) 8
abbrev d_Crowd_init : Stmt := inClass (top 4) 0
abbrev d_Crowd_twin : Stmt := inClass (top 4) 1
abbrev d_Crowd_welcome : Stmt := inClass (top 4) 2
abbrev d_Crowd_dismiss : Stmt := inClass (top 4) 3
abbrev d_Crowd_ready_in_order : Stmt := inClass (top 4) 4
abbrev d_Crowd_turn : Stmt := inClass (top 4) 5
abbrev d_Crowd_steady_spans : Stmt := inClass (top 4) 6
abbrev d_Crowd_go_by : Stmt := inClass (top 4) 7
abbrev d_Crowd_pass_ticks : Stmt := inClass (top 4) 8
abbrev d_Crowd_pass_until_ready : Stmt := inClass (top 4) 9
abbrev d_Crowd_turns_to_come : Stmt := inClass (top 4) 10
abbrev d_come : Stmt := top 17
abbrev d_tick : Stmt := top 18
abbrev d_next_turn : Stmt := top 19
abbrev d_leave : Stmt := top 20
abbrev d_act : Stmt := top 21
abbrev d_effect : Stmt := top 22
abbrev d_dispel : Stmt := top 23
abbrev d_change_speed : Stmt := top 24
abbrev d_push : Stmt := top 25
abbrev d_queue : Stmt := top 26
abbrev d_tell_time : Stmt := top 27
abbrev d_describe : Stmt := top 28
abbrev d_when_ready : Stmt := top 29
abbrev d_tell_book : Stmt := top 30
abbrev d_foretell : Stmt := top 31
abbrev d_count_numbers : Stmt := top 34
abbrev d_has_row : Stmt := top 35
abbrev d_is_within : Stmt := top 36
abbrev d_are_within : Stmt := top 37
abbrev d_are_costs : Stmt := top 38
abbrev d_answer : Stmt := top 39
abbrev d_read_row : Stmt := top 41
abbrev d_answers : Stmt := top 42

/-! ### the data -/
/-- an actor's attributes -/
def af (a : Actor) (le : Addr) : List (Str × V) :=
  [("number", .int a.num), ("base", .int a.base), ("energy", .int a.energy), ("effects", .ref le), ("acted", .int a.acts), ("gained", .int a.gained), ("spent", .int a.spent)]
/-- the effects' tuples -/
def EffAt (H : Hp) (t : Addr) (e : Effect) : Prop := H t = some (.tup [.int e.more, .int e.left])
def EffsAt (H : Hp) (le : Addr) (es : List Effect) : Prop := ∃ ts : List Addr, H le = some (.lst (ts.map V.ref)) ∧ Paired (EffAt H) ts es
def ActorAt (CA : Addr) (H : Hp) (p : Addr) (a : Actor) (le : Addr) : Prop := (∃ dx, H p = some (.ins CA dx (af a le))) ∧ EffsAt H le a.effects

theorem EffsAt.same {H H' : Hp} (sm : Same H H') {le : Addr} {es : List Effect} (h : EffsAt H le es) : EffsAt H' le es := by
  obtain ⟨ts, h1, h2⟩ := h
  exact ⟨ts, sm _ _ h1, Paired.mapP h2 fun t e q => sm _ _ q⟩
theorem ActorAt.same {CA : Addr} {H H' : Hp} (sm : Same H H') {p : Addr} {a : Actor} {le : Addr} (h : ActorAt CA H p a le) : ActorAt CA H' p a le := by
  obtain ⟨⟨dx, h1⟩, h2⟩ := h
  exact ⟨⟨dx, sm _ _ h1⟩, h2.same sm⟩
theorem Same.upd {H : Hp} {D : Addr} {o : HO} (h : H D = none) : Same H (upd H D o) := fun b u e => by rw [upd_ne (ne_of_none e h)]; exact e

/-! ### what of the text the proof reads -/
structure Txt (K : PySem.W.Frag) (mg : Str → Option Value) (CA CC : Addr) : Prop where
  clA : Cls K CA
  naA : ∀ f ∈ (["number", "base", "energy", "effects", "acted", "gained", "spent"] : List Str), NoAttr K CA f
  sum : mg "sum" = none
  max : mg "max" = none
  min : mg "min" = none
  len : mg "len" = none
  sorted : mg "sorted" = none
  zip : mg "zip" = none
  list : mg "list" = none
  dict : mg "dict" = none
  all : mg "all" = none
  mgA : mg "Actor" = some (.ref CA)
  fast : ∃ t, mg "GREATEST_SPEED" = some (.int 5000 t)
theorem Txt.na {K : PySem.W.Frag} {mg : Str → Option Value} {CA CC : Addr} (T : Txt K mg CA CC) (f : Str) (h : f ∈ (["number", "base", "energy", "effects", "acted", "gained", "spent"] : List Str) := by decide +kernel) : NoAttr K CA f := T.naA f h

theorem paired_ix {α β : Type} {F : α → β → Prop} : ∀ {l : List α} {m : List β} {i : Nat} {x : α}, Paired F l m → l[i]? = some x → ∃ y, m[i]? = some y ∧ F x y
  | _, _, _, _, .nil, e => by simp at e
  | _, _, 0, _, .cons r _, e => by simp at e; subst e; exact ⟨_, rfl, r⟩
  | _, _, i + 1, x, .cons _ t, e => by
    obtain ⟨y, h1, h2⟩ := paired_ix (i := i) (x := x) t (by simpa using e)
    exact ⟨y, by simpa using h1, h2⟩
theorem take_snoc {α : Type} : ∀ {l : List α} {i : Nat} {x : α}, l[i]? = some x → l.take (i + 1) = l.take i ++ [x]
  | [], i, x, h => by simp at h
  | a :: l, 0, x, h => by
    have e : a = x := Option.some.inj h
    subst e
    rfl
  | a :: l, i + 1, x, h => by
    have ih := take_snoc (l := l) (i := i) (x := x) h
    show a :: l.take (i + 1) = a :: l.take i ++ [x]
    rw [ih]
    rfl
theorem ref_ix {ts : List Addr} {i : Nat} {x : V} (h : (ts.map V.ref)[i]? = some x) : ∃ t, ts[i]? = some t ∧ x = .ref t := by
  rw [List.getElem?_map] at h
  cases e : ts[i]? with
  | none => rw [e] at h; cases h
  | some t => rw [e] at h; exact ⟨t, rfl, (Option.some.inj h).symm⟩

section
variable {P : Program} {w : World} {K : PySem.W.Frag} {mg : Str → Option Value} {base : Heap} {CA CC : Addr}
/-! ### Actor.speed -/
inductive PSpeed (CA : Addr) (vs : List V) (H : Hp) (Q : VK) : Prop
  | mk (p : Addr) (a : Actor) (le : Addr) (h0 : vs = [.ref p]) (h1 : ActorAt CA H p a le) (h2 : a.effects.length ≤ 8) (h3 : ∀ H' : Hp, Same H H' → Q (.int (speed a)) H') : PSpeed CA vs H Q
def spSpeed (CA : Addr) : Sp := fun vs H Q _ => PSpeed CA vs H Q
theorem scSpeed : FnScope ["self", "total", "more", "lasts"] ["self"] (defScope d_Actor_speed) := ⟨rfl, rfl, rfl, by decide +kernel, rfl, by decide +kernel, by decide +kernel⟩
theorem small8 {n : Nat} (h : n ≤ 8) : n < sizeLine := small1000 (by omega)
theorem ok_speed {f : Addr} {fd : FuncData} (F : Fun K "speed" "Actor.speed" d_Actor_speed f fd) (T : Txt K mg CA CC) : FnOk P w K mg base CX0 1 f fd ["self"] (spSpeed CA) := by
  refine F.ok scSpeed (fun vs H Q E h => ?_) (fun cdv A outer s H vs Q E hr h => ?_)
  · obtain ⟨p, a, le, rfl, _⟩ := h
    rfl
  · obtain ⟨p, a, le, rfl, ⟨⟨dx, hp⟩, ts, hle, hts⟩, h8, k⟩ := h
    obtain ⟨tk, hfast⟩ := T.fast
    refine ⟨_, pss_cons (ps_set (i := 1) scSpeed.nd rfl (Or.inl rfl) (pe_op op_add (pe_fld (pv 0) rfl) (pe_callB (cr_sum rfl) rfl T.sum boot_sum
        (pa_cons (pe_lc (own := [("more", 2), ("lasts", 3)]) (g := gTup K 2 (gCons (gName 2) (gCons (gName 3) gNil))) rfl scSpeed.nd (pi_list (pe_fld (pv 0) rfl)) (blkOk_by (show blkC ["self", "total", "more", "lasts"] (defScope d_Actor_speed) _ _ = true by decide +kernel))
          (fun s H C cl fp => pg_tup (n := 2) rfl (pgs_cons (pg_name (i := 2) scSpeed.nd rfl (Or.inl rfl) (Or.inr rfl)) (pgs_cons (pg_name (i := 3) scSpeed.nd rfl (Or.inl rfl) (Or.inr rfl)) pgs_nil)))
          (fun s H C cl fp => pts_nil) (fun s H C cl fp => pv 2)) pa_nil))))
      (pss_one (ps_ret (pe_callB (call_max2 rfl) rfl T.max boot_max (pa_cons pe_int (pa_cons (pe_callB (call_min2 rfl) rfl T.min boot_min (pa_cons (pe_glob (v := .int 5000) rfl hfast ⟨_, rfl⟩) (pa_cons (pv 1) pa_nil))) pa_nil))))), ?_⟩
    refine ⟨_, rfl, p, CA, dx, _, _, rfl, hp, T.clA, T.na "base", rfl, ?_⟩
    refine ⟨_, rfl, p, CA, dx, _, _, rfl, hp, T.clA, T.na "effects", rfl, le, rfl, ⟨_, SqL.of hle⟩, fun D hD => ?_⟩
    refine lc_list (K := K) (a := le) (xs := ts.map V.ref) (fun i H' => Same H H' ∧ H' D = some (.lst (((a.effects.map fun e => e.more).take i).map V.int))) ⟨Same.upd hD, upd_same⟩
      (fun i H' _ q => SqL.of (q.1 _ _ hle)) ?_ ?_
    · rintro i x H' hx ⟨sm, hD'⟩
      obtain ⟨t, ht, rfl⟩ := ref_ix hx
      obtain ⟨e, he, het⟩ := paired_ix hts ht
      refine ⟨t, _, rfl, SqT.of (sm _ _ het), rfl, _, _, rfl, _, _, rfl, rfl, rfl, ?_⟩
      refine ⟨_, rfl, _, hD', ?_, ?_⟩
      · rw [List.length_map, List.length_take, List.length_map]
        exact small8 (by omega)
      · refine ⟨fun b o e' => ?_, ?_⟩
        · rw [upd_ne (ne_of_none e' hD)]
          exact sm _ _ e'
        · rw [upd_same, take_snoc (x := e.more) (by rw [List.getElem?_map, he]; rfl), List.map_append]
          rfl
    · rintro H' ⟨sm, hD'⟩
      have hl : (ts.map V.ref).length = (a.effects.map fun e => e.more).length := by rw [List.length_map, List.length_map, Paired.length hts]
      rw [hl, List.take_length] at hD'
      refine ⟨D, _, rfl, SqL.of hD', _, _, rfl, rfl, ?_⟩
      refine ⟨_, rfl, _, _, rfl, _, _, rfl, ?_⟩
      have e : (if (if a.base + (a.effects.map fun e => e.more).sum < 5000 then a.base + (a.effects.map fun e => e.more).sum else 5000) > 0 then (if a.base + (a.effects.map fun e => e.more).sum < 5000 then a.base + (a.effects.map fun e => e.more).sum else 5000) else 0) = speed a := by
        unfold speed
        simp only [Vbrgac.FAST]
        split <;> split <;> omega
      have q := k H' sm
      rw [← e] at q
      exact q
end
end My
end

section
set_option Elab.async false
set_option linter.all false
set_option maxRecDepth 100000
set_option maxHeartbeats 2000000
namespace My
open PySem PySem.Spec PyProof.Rows L2
open Vbrgac (Actor Effect speed ready passed leastOf until_ run rounds runs earlier put queue first change acted State)

theorem af_energy (a : Actor) (le : Addr) (x : Int) : putF "energy" (.int x) (af a le) = af { a with energy := x } le := rfl
theorem af_gained (a : Actor) (le : Addr) (x : Int) : putF "gained" (.int x) (af a le) = af { a with gained := x } le := rfl
theorem af_spent (a : Actor) (le : Addr) (x : Int) : putF "spent" (.int x) (af a le) = af { a with spent := x } le := rfl
theorem af_acted (a : Actor) (le : Addr) (x : Nat) : putF "acted" (.int x) (af a le) = af { a with acts := x } le := rfl
theorem af_base (a : Actor) (le : Addr) (x : Int) : putF "base" (.int x) (af a le) = af { a with base := x } le := rfl
theorem af_effects (a : Actor) (le le' : Addr) (es : List Effect) : putF "effects" (.ref le') (af a le) = af { a with effects := es } le' := rfl

section
variable {P : Program} {w : World} {K : PySem.W.Frag} {mg : Str → Option Value} {base : Heap} {CA CC : Addr}
/-! ### Actor.is_ready -/
inductive PReady (CA : Addr) (vs : List V) (H : Hp) (Q : VK) : Prop
  | mk (p : Addr) (a : Actor) (le : Addr) (h0 : vs = [.ref p]) (h1 : (∃ dx, H p = some (.ins CA dx (af a le)))) (h2 : Q (.bl (ready a)) H) : PReady CA vs H Q
def spReady (CA : Addr) : Sp := fun vs H Q _ => PReady CA vs H Q
theorem scReady : FnScope ["self"] ["self"] (defScope d_Actor_is_ready) := ⟨rfl, rfl, rfl, by decide +kernel, rfl, by decide +kernel, by decide +kernel⟩
theorem ok_ready {f : Addr} {fd : FuncData} (F : Fun K "is_ready" "Actor.is_ready" d_Actor_is_ready f fd) (T : Txt K mg CA CC) : FnOk P w K mg base CX0 1 f fd ["self"] (spReady CA) := by
  refine F.ok scReady (fun vs H Q E h => ?_) (fun cdv A outer s H vs Q E hr h => ?_)
  · obtain ⟨p, a, le, rfl, _⟩ := h
    rfl
  · obtain ⟨p, a, le, rfl, ⟨dx, hp⟩, k⟩ := h
    refine ⟨_, pss_one (ps_ret (pe_cmpR op_ge (pe_fld (pv 0) rfl) pe_int (nomark _))), ?_⟩
    exact ⟨_, rfl, p, CA, dx, _, _, rfl, hp, T.clA, T.na "energy", rfl, _, _, rfl, rfl, k⟩
/-! ### Actor.spend -/
/-- energy is spent -/
abbrev paid (c : Int) (a : Actor) : Actor := { a with energy := a.energy - c, spent := a.spent + c }
inductive PSpend (CA : Addr) (vs : List V) (H : Hp) (Q : VK) : Prop
  | mk (p : Addr) (a : Actor) (le : Addr) (c : Int) (h0 : vs = [.ref p, .int c]) (h1 : ActorAt CA H p a le) (h2 : ∀ H' : Hp, ActorAt CA H' p (paid c a) le → (∀ b o, H b = some o → b ≠ p → H' b = some o) → Q .non H') : PSpend CA vs H Q
def spSpend (CA : Addr) : Sp := fun vs H Q _ => PSpend CA vs H Q
theorem scSpend : FnScope ["self", "energy"] ["self", "energy"] (defScope d_Actor_spend) := ⟨rfl, rfl, rfl, by decide +kernel, rfl, by decide +kernel, by decide +kernel⟩
theorem EffsAt.but {H H' : Hp} {le p : Addr} {es : List Effect} (h : EffsAt H le es) (kp : ∀ b o, H b = some o → b ≠ p → H' b = some o) {C dx : Addr} {fs : List (Str × V)} (hp : H p = some (.ins C dx fs)) : EffsAt H' le es := by
  obtain ⟨ts, h1, h2⟩ := h
  exact ⟨ts, kp _ _ h1 (ne_of h1 hp (by intro z; cases z)), Paired.mapP h2 fun t e q => kp _ _ q (ne_of q hp (by intro z; cases z))⟩
theorem ok_spend {f : Addr} {fd : FuncData} (F : Fun K "spend" "Actor.spend" d_Actor_spend f fd) (T : Txt K mg CA CC) : FnOk P w K mg base CX0 1 f fd ["self", "energy"] (spSpend CA) := by
  refine F.ok scSpend (fun vs H Q E h => ?_) (fun cdv A outer s H vs Q E hr h => ?_)
  · obtain ⟨p, a, le, c, rfl, _⟩ := h
    rfl
  · obtain ⟨p, a, le, c, rfl, ⟨⟨dx, hp⟩, he⟩, k⟩ := h
    refine ⟨_, pss_cons (ps_fldaug (pv 0) (pv 1) in_sub) (pss_one (ps_fldaug (pv 0) (pv 1) in_add)), ?_⟩
    refine ⟨_, rfl, p, CA, dx, _, _, rfl, hp, T.clA, T.na "energy", rfl, _, rfl, _, _, rfl, rfl, dx, _, hp, by show 7 < 1000; decide, ?_⟩
    refine ⟨_, rfl, p, CA, dx, _, _, rfl, upd_same, T.clA, T.na "spent", rfl, _, rfl, _, _, rfl, rfl, dx, _, upd_same, by show 7 < 1000; decide, ?_⟩
    have kp : ∀ b o, H b = some o → b ≠ p → (upd (upd H p (.ins CA dx (af { a with energy := a.energy - c } le))) p (.ins CA dx (af (paid c a) le))) b = some o :=
      fun b o e n => by rw [upd_ne n, upd_ne n]; exact e
    exact k _ ⟨⟨dx, upd_same⟩, he.but kp hp⟩ kp
/-! ### Actor.act -/
inductive PAct (CA : Addr) (vs : List V) (H : Hp) (Q : VK) : Prop
  | mk (p : Addr) (a : Actor) (le : Addr) (c : Int) (h0 : vs = [.ref p, .int c]) (h1 : ActorAt CA H p a le) (h2 : ∀ H' : Hp, ActorAt CA H' p (acted c a) le → (∀ b o, H b = some o → b ≠ p → H' b = some o) → Q .non H') : PAct CA vs H Q
def spAct (CA : Addr) : Sp := fun vs H Q _ => PAct CA vs H Q
theorem scAct : FnScope ["self", "cost"] ["self", "cost"] (defScope d_Actor_act) := ⟨rfl, rfl, rfl, by decide +kernel, rfl, by decide +kernel, by decide +kernel⟩
theorem ok_act {f fP : Addr} {fd fdP : FuncData} (F : Fun K "act" "Actor.act" d_Actor_act f fd) (T : Txt K mg CA CC) (GP : FnOk P w K mg base CX0 1 fP fdP ["self", "energy"] (spSpend CA)) (mP : Meth K CA "spend" fP) (bP : Binds K fdP ["self", "energy"] []) :
    FnOk P w K mg base CX0 2 f fd ["self", "cost"] (spAct CA) := by
  refine F.ok scAct (fun vs H Q E h => ?_) (fun cdv A outer s H vs Q E hr h => ?_)
  · obtain ⟨p, a, le, c, rfl, _⟩ := h
    rfl
  · obtain ⟨p, a, le, c, rfl, ⟨⟨dx, hp⟩, he⟩, k⟩ := h
    refine ⟨_, pss_cons (ps_expr (pe_meth (pv 0) T.clA mP GP hr bP .nil pass0 (pa_cons (pv 1) pa_nil))) (pss_one (ps_fldaug (pv 0) pe_int in_add)), ?_⟩
    refine ⟨_, rfl, p, dx, _, rfl, hp, rfl, _, rfl, p, a, le, c, rfl, ⟨⟨dx, hp⟩, he⟩, fun H1 hA1 k1 => ?_⟩
    obtain ⟨⟨dx1, hp1⟩, he1⟩ := hA1
    refine ⟨_, rfl, p, CA, dx1, _, _, rfl, hp1, T.clA, T.na "acted", rfl, _, _, rfl, rfl, dx1, _, hp1, by show 7 < 1000; decide, ?_⟩
    have kp : ∀ b o, H1 b = some o → b ≠ p → (upd H1 p (.ins CA dx1 (af (acted c a) le))) b = some o := fun b o e n => by rw [upd_ne n]; exact e
    exact k _ ⟨⟨dx1, upd_same⟩, he1.but kp hp1⟩ fun b o e n => kp _ _ (k1 _ _ e n) n
end
end My
end

section
set_option Elab.async false
set_option linter.all false
set_option maxRecDepth 100000
set_option maxHeartbeats 2000000
namespace My
open PySem PySem.Spec PyProof.Rows L2
open Vbrgac (Actor Effect speed ready passed leastOf until_ run rounds runs earlier put queue first change acted State)

theorem neg_div (e s : Int) (h : 0 < s) : -(e / s) = (-e + s - 1) / s := by
  have h1 := Int.emod_add_mul_ediv e s
  have h2 := Int.emod_nonneg e (Int.ne_of_gt h)
  have h3 := Int.emod_lt_of_pos e h
  have e1 : -e + s - 1 = (s - 1 - e % s) + s * (-(e / s)) := by rw [Int.mul_neg]; omega
  have z : (s - 1 - e % s) / s = 0 := by
    clear e1 h1
    exact (Int.ediv_eq_zero_of_lt (by omega) (by omega))
  rw [e1, Int.add_mul_ediv_left _ _ (Int.ne_of_gt h), z, Int.zero_add]
theorem span_int {a : Actor} (h : a.energy < 0) (hs : 0 < speed a) : -(a.energy / speed a) = ((((-a.energy + speed a - 1) / speed a).toNat : Nat) : Int) := by
  rw [neg_div _ _ hs, Int.toNat_of_nonneg (Int.ediv_nonneg (by omega) (by omega))]
theorem spans_ints {a : Actor} (h : a.energy < 0) : (spans a).map (fun (n : Nat) => (n : Int)) = (a.effects.map fun e => (e.left : Int)) ++ (if 0 < speed a then [-(a.energy / speed a)] else []) := by
  unfold spans
  rw [List.map_append, List.map_map]
  by_cases hs : 0 < speed a
  · rw [if_pos hs, if_pos hs, span_int h hs]
    rfl
  · rw [if_neg hs, if_neg hs]
    rfl
section
variable {P : Program} {w : World} {K : PySem.W.Frag} {mg : Str → Option Value} {base : Heap} {CA CC : Addr}
/-! ### Actor.steady_ticks -/
inductive PSteady (CA : Addr) (vs : List V) (H : Hp) (Q : VK) : Prop
  | mk (p : Addr) (a : Actor) (le : Addr) (h0 : vs = [.ref p]) (h1 : ActorAt CA H p a le) (h2 : a.effects.length ≤ 8) (h3 : 1 ≤ a.base) (h4 : a.base ≤ 1000) (h5 : a.energy < 0) (h6 : ∀ (n : Nat) (H' : Hp), Same H H' → n ∈ spans a → (∀ x ∈ spans a, n ≤ x) → Q (.int n) H') : PSteady CA vs H Q
def spSteady (CA : Addr) : Sp := fun vs H Q _ => PSteady CA vs H Q
theorem scSteady : FnScope ["self", "spans", "speed", "more", "lasts"] ["self"] (defScope d_Actor_steady_ticks) := ⟨rfl, rfl, rfl, by decide +kernel, rfl, by decide +kernel, by decide +kernel⟩
theorem ok_steady {f fS : Addr} {fd fdS : FuncData} (F : Fun K "steady_ticks" "Actor.steady_ticks" d_Actor_steady_ticks f fd) (T : Txt K mg CA CC) (FS : Fun K "speed" "Actor.speed" d_Actor_speed fS fdS) (mS : Meth K CA "speed" fS) (bS : Binds K fdS ["self"] []) :
    FnOk P w K mg base CX0 2 f fd ["self"] (spSteady CA) := by
  have GS : FnOk P w K mg base CX0 1 fS fdS ["self"] (spSpeed CA) := ok_speed FS T
  refine F.ok scSteady (fun vs H Q E h => ?_) (fun cdv A outer s H vs Q E hr h => ?_)
  · obtain ⟨p, a, le, rfl, _⟩ := h
    rfl
  · obtain ⟨p, a, le, rfl, hA, h8, hb1, hb2, hen, k⟩ := h
    obtain ⟨⟨dx, hp⟩, ts, hle, hts⟩ := id hA
    refine ⟨_, pss_cons (ps_setLc (i := 1) (own := [("more", 3), ("lasts", 4)]) (g := gTup K 2 (gCons (gName 3) (gCons (gName 4) gNil))) rfl scSteady.nd rfl rfl (sw_true rfl rfl rfl (by decide +kernel)) (pi_list (pe_fld (pv 0) rfl))
          (blkOk_by (show blkC ["self", "spans", "speed", "more", "lasts"] (defScope d_Actor_steady_ticks) _ _ = true by decide +kernel))
          (fun s H C cl fp => pg_tup (n := 2) rfl (pgs_cons (pg_name (i := 3) scSteady.nd rfl (Or.inl rfl) (Or.inr rfl)) (pgs_cons (pg_name (i := 4) scSteady.nd rfl (Or.inl rfl) (Or.inr rfl)) pgs_nil)))
          (fun s H C cl fp => pts_nil) (fun s H C cl fp => pv 4))
      (pss_cons (ps_set (i := 2) scSteady.nd rfl (Or.inl rfl) (pe_meth0 (pv 0) T.clA mS GS hr bS .nil pass0))
      (pss_cons (ps_if (pt_cmpR op_gt (pv 2) pe_int (nomark _)) (pss_one (ps_expr (pe_bm PySem.F.plainAttrs_list PySem.F.slot_list_append PySem.F.type_list_append mt_append (pv 1)
          (pa_cons (pe_un un_neg (pe_op op_fdiv (pe_fld (pv 0) rfl) (pv 2))) pa_nil)))) pss_nil)
      (pss_one (ps_ret (pe_callB (cr_min rfl) rfl T.min boot_min (pa_cons (pv 1) pa_nil)))))), ?_⟩
    refine ⟨_, rfl, p, CA, dx, _, _, rfl, hp, T.clA, T.na "effects", rfl, le, rfl, ⟨_, SqL.of hle⟩, fun D hD => ?_⟩
    refine lc_list (K := K) (a := le) (xs := ts.map V.ref) (fun i H' => Same H H' ∧ H' D = some (.lst (((a.effects.map fun e => (e.left : Int)).take i).map V.int))) ⟨Same.upd hD, upd_same⟩
      (fun i H' _ q => SqL.of (q.1 _ _ hle)) ?_ ?_
    · rintro i x H' hx ⟨sm, hD'⟩
      obtain ⟨t, ht, rfl⟩ := ref_ix hx
      obtain ⟨e, he, het⟩ := paired_ix hts ht
      refine ⟨t, _, rfl, SqT.of (sm _ _ het), rfl, _, _, rfl, _, _, rfl, rfl, rfl, ?_⟩
      refine ⟨_, rfl, _, hD', ?_, ?_⟩
      · rw [List.length_map, List.length_take, List.length_map]
        exact small8 (by omega)
      · refine ⟨fun b o e' => ?_, ?_⟩
        · rw [upd_ne (ne_of_none e' hD)]
          exact sm _ _ e'
        · rw [upd_same, take_snoc (x := (e.left : Int)) (by rw [List.getElem?_map, he]; rfl), List.map_append]
          rfl
    · rintro H1 ⟨sm, hD'⟩
      have hl : (ts.map V.ref).length = (a.effects.map fun e => (e.left : Int)).length := by rw [List.length_map, List.length_map, Paired.length hts]
      rw [hl, List.take_length] at hD'
      -- speed = self.speed()
      refine ⟨_, rfl, p, dx, _, rfl, sm _ _ hp, rfl, p, a, le, rfl, hA.same sm, h8, fun H2 sm2 => ?_⟩
      have hD2 := sm2 _ _ hD'
      have hp2 := sm2 _ _ (sm _ _ hp)
      have fin : ∀ H3 : Hp, Same H H3 → H3 D = some (.lst (((spans a).map fun (n : Nat) => (n : Int)).map V.int)) → rMin K [V.ref D] H3 Q := by
        intro H3 sm3 hD3
        refine ⟨D, _, rfl, SqL.of hD3, ?_, fun m hm hmin => ?_⟩
        · rw [List.length_map]
          exact List.length_pos_iff.mpr (spans_ne hb1 hb2)
        · obtain ⟨n, hn, rfl⟩ := List.mem_map.mp hm
          exact k n H3 sm3 hn fun x hx => Int.ofNat_le.mp (hmin _ (List.mem_map.mpr ⟨x, hx, rfl⟩))
      refine ⟨_, rfl, _, _, rfl, rfl, _, rfl, ite2 (fun hs => ?_) (fun hs => ?_)⟩
      · have hs : 0 < speed a := of_decide_eq_true hs
        refine ⟨_, rfl, .inl ⟨rfl, _, SqL.of hD2⟩, _, rfl, p, CA, dx, _, _, rfl, hp2, T.clA, T.na "energy", rfl, _, rfl, _, _, rfl, rfl, ⟨hs, by have := speed_le a; omega⟩, _, rfl, ?_⟩
        refine ⟨D, _, _, rfl, rfl, hD2, ?_, ?_⟩
        · rw [List.length_map, List.length_map]
          exact small8 h8
        · refine ⟨_, rfl, fin _ (fun b o e => ?_) ?_⟩
          · rw [upd_ne (ne_of_none e hD)]
            exact sm2 _ _ (sm _ _ e)
          · rw [upd_same, spans_ints hen, if_pos hs, List.map_append]
            rfl
      · have hs : ¬ 0 < speed a := fun z => hs (decide_eq_true z)
        refine ⟨_, rfl, fin _ (fun b o e => sm2 _ _ (sm _ _ e)) ?_⟩
        rw [hD2, spans_ints hen, if_neg hs, List.append_nil]
end
end My
end

section
set_option Elab.async false
set_option linter.all false
set_option maxRecDepth 100000
set_option maxHeartbeats 2000000
namespace My
open PySem PySem.Spec PyProof.Rows L2
open Vbrgac (Actor Effect speed ready passed leastOf until_ run rounds runs earlier put queue first change acted State)

/-- the effects behind n ticks -/
def aged (n : Nat) (es : List Effect) : List Effect := (es.map fun e => { e with left := e.left - n }).filter fun e => decide (0 < e.left)
theorem aged_snoc_in {n : Nat} {es : List Effect} {i : Nat} {e : Effect} (h : es[i]? = some e) (hn : n < e.left) : aged n (es.take (i + 1)) = aged n (es.take i) ++ [{ e with left := e.left - n }] := by
  unfold aged
  rw [take_snoc h, List.map_append, List.filter_append]
  congr 1
  show List.filter _ [_] = _
  rw [List.filter_cons, if_pos (decide_eq_true (show 0 < e.left - n by omega))]
  rfl
theorem aged_snoc_out {n : Nat} {es : List Effect} {i : Nat} {e : Effect} (h : es[i]? = some e) (hn : ¬ n < e.left) : aged n (es.take (i + 1)) = aged n (es.take i) := by
  unfold aged
  rw [take_snoc h, List.map_append, List.filter_append]
  have : List.filter (fun e : Effect => decide (0 < e.left)) (List.map (fun e : Effect => { e with left := e.left - n }) [e]) = [] := by
    show List.filter _ [_] = _
    rw [List.filter_cons, if_neg (by
      intro z
      have z : 0 < e.left - n := of_decide_eq_true z
      omega)]
    rfl
  rw [this, List.append_nil]
theorem aged_len (n : Nat) (es : List Effect) (i : Nat) : (aged n (es.take i)).length ≤ es.length := by
  unfold aged
  refine Nat.le_trans (List.length_filter_le _ _) ?_
  rw [List.length_map, List.length_take]
  omega
theorem Paired.snoc {α β : Type} {F : α → β → Prop} : ∀ {l : List α} {m : List β} {x : α} {y : β}, Paired F l m → F x y → Paired F (l ++ [x]) (m ++ [y])
  | _, _, _, _, .nil, q => .cons q .nil
  | _, _, _, _, .cons a r, q => .cons a (Paired.snoc r q)

section
variable {P : Program} {w : World} {K : PySem.W.Frag} {mg : Str → Option Value} {base : Heap} {CA CC : Addr}
/-! ### Actor.gain -/
inductive PGain (CA : Addr) (vs : List V) (H : Hp) (Q : VK) : Prop
  | mk (p : Addr) (a : Actor) (le : Addr) (n : Nat) (h0 : vs = [.ref p, .int n]) (h1 : ActorAt CA H p a le) (h2 : a.effects.length ≤ 8) (h3 : ∀ (H' : Hp) (le' : Addr), H le' = none → ActorAt CA H' p (passed n a) le' → (∀ b o, H b = some o → b ≠ p → H' b = some o) → Q .non H') : PGain CA vs H Q
def spGain (CA : Addr) : Sp := fun vs H Q _ => PGain CA vs H Q
theorem scGain : FnScope ["self", "ticks", "gained", "more", "lasts"] ["self", "ticks"] (defScope d_Actor_gain) := ⟨rfl, rfl, rfl, by decide +kernel, rfl, by decide +kernel, by decide +kernel⟩
theorem ok_gain {f fS : Addr} {fd fdS : FuncData} (F : Fun K "gain" "Actor.gain" d_Actor_gain f fd) (T : Txt K mg CA CC) (FS : Fun K "speed" "Actor.speed" d_Actor_speed fS fdS) (mS : Meth K CA "speed" fS) (bS : Binds K fdS ["self"] []) :
    FnOk P w K mg base CX0 2 f fd ["self", "ticks"] (spGain CA) := by
  have GS : FnOk P w K mg base CX0 1 fS fdS ["self"] (spSpeed CA) := ok_speed FS T
  refine F.ok scGain (fun vs H Q E h => ?_) (fun cdv A outer s H vs Q E hr h => ?_)
  · obtain ⟨p, a, le, n, rfl, _⟩ := h
    rfl
  · obtain ⟨p, a, le, n, rfl, hA, h8, k⟩ := h
    obtain ⟨⟨dx, hp⟩, ts, hle, hts⟩ := id hA
    refine ⟨_, pss_cons (ps_set (i := 2) scGain.nd rfl (Or.inl rfl) (pe_op op_mul (pe_meth0 (pv 0) T.clA mS GS hr bS .nil pass0) (pv 1)))
      (pss_cons (ps_fldaug (pv 0) (pv 2) in_add) (pss_cons (ps_fldaug (pv 0) (pv 2) in_add)
      (pss_one (ps_fld (pv 0) (pe_lc (own := [("more", 3), ("lasts", 4)]) (g := gTup K 2 (gCons (gName 3) (gCons (gName 4) gNil))) rfl scGain.nd (pi_list (pe_fld (pv 0) rfl))
          (blkOk_by (show blkC ["self", "ticks", "gained", "more", "lasts"] (defScope d_Actor_gain) _ _ = true by decide +kernel))
          (fun s H C cl fp => pg_tup (n := 2) rfl (pgs_cons (pg_name (i := 3) scGain.nd rfl (Or.inl rfl) (Or.inr rfl)) (pgs_cons (pg_name (i := 4) scGain.nd rfl (Or.inl rfl) (Or.inr rfl)) pgs_nil)))
          (fun s H C cl fp => pts_one (pt_cmpR op_gt (pv 4) (pv 1) (nomark _))) (fun s H C cl fp => pe_tup (pa_cons (pv 3) (pa_cons (pe_op op_sub (pv 4) (pv 1)) pa_nil)))) rfl)))), ?_⟩
    refine ⟨_, rfl, p, dx, _, rfl, hp, rfl, p, a, le, rfl, hA, h8, fun H1 sm => ?_⟩
    refine ⟨_, rfl, _, _, rfl, rfl, .inl ⟨by have := speed_nn a; omega, by have := speed_le a; omega⟩, ?_⟩
    have hp1 := sm _ _ hp
    refine ⟨_, rfl, p, CA, dx, _, _, rfl, hp1, T.clA, T.na "energy", rfl, _, rfl, _, _, rfl, rfl, dx, _, hp1, by show 7 < 1000; decide, ?_⟩
    refine ⟨_, rfl, p, CA, dx, _, _, rfl, upd_same, T.clA, T.na "gained", rfl, _, rfl, _, _, rfl, rfl, dx, _, upd_same, by show 7 < 1000; decide, ?_⟩
    generalize hH3 : upd (upd H1 p (.ins CA dx (putF "energy" (V.int (a.energy + speed a * n)) (af a le)))) p (.ins CA dx (putF "gained" (V.int (a.gained + speed a * n)) (putF "energy" (V.int (a.energy + speed a * n)) (af a le)))) = H3
    have k3 : ∀ b o, H b = some o → b ≠ p → H3 b = some o := fun b o e nb => by
      rw [← hH3, upd_ne nb, upd_ne nb]
      exact sm _ _ e
    have hp3 : H3 p = some (.ins CA dx (af { a with energy := a.energy + n * speed a, gained := a.gained + n * speed a } le)) := by
      rw [← hH3, upd_same, Int.mul_comm]
      rfl
    have hle3 : H3 le = some (.lst (ts.map V.ref)) := k3 _ _ hle (ne_of hle hp (by intro z; cases z))
    have hts3 : Paired (EffAt H3) ts a.effects := Paired.mapP hts fun t e q => k3 _ _ q (ne_of q hp (by intro z; cases z))
    have f3 : ∀ b, H3 b = none → H b = none := fun b hb => by
      have nb : b ≠ p := fun z => by rw [z, hp3] at hb; cases hb
      rw [← hH3, upd_ne nb, upd_ne nb] at hb
      exact sm.free hb
    have hsub : sFld K (tVar 0) (tLc (iList K (tFld K (tVar 0) "effects")) (gTup K 2 (gCons (gName 3) (gCons (gName 4) gNil))) (tTest (tOp (rI0 fun i j => V.bl (decide (j < i))) (tVar 4) (tVar 1)))
        (tTup (tCons (tVar 3) (tCons (tOp (rI0 fun i j => V.int (i - j)) (tVar 4) (tVar 1)) tNil))) [3, 4]) "effects" { nx := fun _ H' => Q .non H', rt := Q } [some (V.ref p), some (V.int n), some (V.int (speed a * n)), none, none] H3 := by
      refine ⟨_, rfl, p, CA, dx, _, _, rfl, hp3, T.clA, T.na "effects", rfl, le, rfl, ⟨_, SqL.of hle3⟩, fun D hD => ?_⟩
      refine lc_list (K := K) (a := le) (xs := ts.map V.ref) (fun i H' => Same H3 H' ∧ ∃ ts' : List Addr, H' D = some (.lst (ts'.map V.ref)) ∧ Paired (EffAt H') ts' (aged n (a.effects.take i))) ⟨Same.upd hD, [], upd_same, .nil⟩
        (fun i H' _ q => SqL.of (q.1 _ _ hle3)) ?_ ?_
      · rintro i x H' hx ⟨sm', ts', hD', hts'⟩
        obtain ⟨t, ht, rfl⟩ := ref_ix hx
        obtain ⟨e, he, het⟩ := paired_ix hts3 ht
        have hlen : ts'.length ≤ 8 := by
          have := aged_len n a.effects i
          rw [Paired.length hts']
          omega
        refine ⟨t, _, rfl, SqT.of (sm' _ _ het), rfl, _, _, rfl, _, _, rfl, rfl, rfl, ?_⟩
        refine ⟨_, rfl, _, rfl, _, _, rfl, rfl, _, rfl, ite2 (fun hc => ?_) (fun hc => ?_)⟩
        · have hc : n < e.left := Int.ofNat_lt.mp (of_decide_eq_true hc)
          refine ⟨_, rfl, _, rfl, _, rfl, _, _, rfl, rfl, (by show 2 ≤ sizeLine; decide), fun q hq => ?_⟩
          have nDq : D ≠ q := ne_of_none hD' hq
          refine ⟨_, by rw [upd_ne nDq]; exact hD', by rw [List.length_map]; exact small8 hlen, ?_, ?_⟩
          · intro b o e'
            have nb := ne_of_none e' hD
            rw [upd_ne nb, upd_ne (ne_of_none (sm' _ _ e') hq)]
            exact sm' _ _ e'
          · refine ⟨ts' ++ [q], by rw [upd_same, List.map_append]; rfl, ?_⟩
            rw [aged_snoc_in he hc]
            have hq2 : ((e.left : Int) - (n : Int)) = ((e.left - n : Nat) : Int) := by omega
            refine Paired.snoc (Paired.mapP hts' fun t' e' q' => ?_) ?_
            · show (upd (upd H' q _) D _) t' = _
              rw [upd_ne (ne_of q' hD' (by intro z; cases z)), upd_ne (ne_of_none q' hq)]
              exact q'
            · show (upd (upd H' q _) D _) q = _
              rw [upd_ne nDq.symm, upd_same]
              show some (HO.tup [V.int e.more, V.int ((e.left : Int) - (n : Int))]) = _
              rw [hq2]
        · have hc : ¬ n < e.left := fun z => hc (decide_eq_true (Int.ofNat_lt.mpr z))
          refine ⟨sm', ts', hD', ?_⟩
          rw [aged_snoc_out he hc]
          exact hts'
      · rintro H' ⟨sm', ts', hD', hts'⟩
        have hl : a.effects.take (ts.map V.ref).length = a.effects := List.take_of_length_le (by rw [List.length_map, Paired.length hts]; exact Nat.le_refl _)
        rw [hl] at hts'
        refine ⟨_, rfl, p, CA, dx, _, rfl, sm' _ _ hp3, T.clA, T.na "effects", by show 7 < 1000; decide, ?_⟩
        have kp : ∀ b o, H' b = some o → b ≠ p → (upd H' p (.ins CA dx (putF "effects" (V.ref D) (af { a with energy := a.energy + n * speed a, gained := a.gained + n * speed a } le)))) b = some o := fun b o e nb => by rw [upd_ne nb]; exact e
        refine k _ D (f3 D hD) ⟨⟨dx, upd_same⟩, ts', kp _ _ hD' (ne_of hD' (sm' _ _ hp3) (by intro z; cases z)), Paired.mapP hts' fun t e q => kp _ _ q (ne_of q (sm' _ _ hp3) (by intro z; cases z))⟩
          fun b o e nb => kp _ _ (sm' _ _ (k3 _ _ e nb)) nb
    exact hsub
/-! ### Actor.__init__ -/
inductive PInitA (CA : Addr) (vs : List V) (H : Hp) (Q : VK) : Prop
  | mk (p dx : Addr) (num : Nat) (b e : Int) (h0 : vs = [.ref p, .int num, .int b, .int e]) (h1 : H p = some (.ins CA dx [])) (h2 : ∀ (H' : Hp) (le : Addr), H le = none → ActorAt CA H' p { num := num, base := b, energy := e } le → (∀ b o, H b = some o → b ≠ p → H' b = some o) → Q .non H') : PInitA CA vs H Q
def spInitA (CA : Addr) : Sp := fun vs H Q _ => PInitA CA vs H Q
theorem scInitA : FnScope ["self", "number", "base", "energy"] ["self", "number", "base", "energy"] (defScope d_Actor_init) := ⟨rfl, rfl, rfl, by decide +kernel, rfl, by decide +kernel, by decide +kernel⟩
theorem ok_initA {f : Addr} {fd : FuncData} (F : Fun K "__init__" "Actor.__init__" d_Actor_init f fd) (T : Txt K mg CA CC) : FnOk P w K mg base CX0 1 f fd ["self", "number", "base", "energy"] (spInitA CA) := by
  refine F.ok scInitA (fun vs H Q E h => ?_) (fun cdv A outer s H vs Q E hr h => ?_)
  · obtain ⟨p, dx, num, b, e, rfl, _⟩ := h
    rfl
  · obtain ⟨p, dx, num, b, e, rfl, hp, k⟩ := h
    refine ⟨_, pss_cons (ps_fld (pv 0) (pv 1) rfl) (pss_cons (ps_fld (pv 0) (pv 2) rfl) (pss_cons (ps_fld (pv 0) (pv 3) rfl) (pss_cons (ps_fld (pv 0) (pe_lst pa_nil) rfl)
      (pss_cons (ps_fld (pv 0) pe_int rfl) (pss_cons (ps_fld (pv 0) pe_int rfl) (pss_one (ps_fld (pv 0) pe_int rfl))))))), ?_⟩
    refine ⟨_, rfl, _, rfl, p, CA, dx, _, rfl, hp, T.clA, T.na "number", by show 0 < 1000; decide, ?_⟩
    refine ⟨_, rfl, _, rfl, p, CA, dx, _, rfl, upd_same, T.clA, T.na "base", by show 1 < 1000; decide, ?_⟩
    refine ⟨_, rfl, _, rfl, p, CA, dx, _, rfl, upd_same, T.clA, T.na "energy", by show 2 < 1000; decide, ?_⟩
    refine ⟨Nat.zero_le _, fun le hle => ?_⟩
    generalize hH3 : upd (upd (upd H p _) p _) p _ = H3 at hle ⊢
    have hp3 : H3 p = some (.ins CA dx [("number", .int num), ("base", .int b), ("energy", .int e)]) := by
      rw [← hH3, upd_same]
      rfl
    have npl : p ≠ le := ne_of_none hp3 hle
    have k3 : ∀ b o, H b = some o → b ≠ p → H3 b = some o := fun b o e nb => by
      rw [← hH3, upd_ne nb, upd_ne nb, upd_ne nb]
      exact e
    have hle0 : H le = none := by
      cases q : H le with
      | none => rfl
      | some o =>
        rw [k3 _ _ q npl.symm] at hle
        cases hle
    refine ⟨_, rfl, p, CA, dx, _, rfl, by rw [upd_ne npl]; exact hp3, T.clA, T.na "effects", by show 3 < 1000; decide, ?_⟩
    refine ⟨_, rfl, p, CA, dx, _, rfl, upd_same, T.clA, T.na "acted", by show 4 < 1000; decide, ?_⟩
    refine ⟨_, rfl, p, CA, dx, _, rfl, upd_same, T.clA, T.na "gained", by show 5 < 1000; decide, ?_⟩
    refine ⟨_, rfl, p, CA, dx, _, rfl, upd_same, T.clA, T.na "spent", by show 6 < 1000; decide, ?_⟩
    refine k _ le hle0 ⟨⟨dx, upd_same⟩, [], ?_, .nil⟩ fun b o e nb => ?_
    · rw [upd_ne npl.symm, upd_ne npl.symm, upd_ne npl.symm, upd_ne npl.symm, upd_same]
      rfl
    · have nl : b ≠ le := ne_of_none e hle0
      rw [upd_ne nb, upd_ne nb, upd_ne nb, upd_ne nb, upd_ne nl]
      exact k3 _ _ e nb
end
end My
end

section
set_option Elab.async false
set_option linter.all false
set_option maxRecDepth 100000
set_option maxHeartbeats 2000000
namespace My
open PySem PySem.Spec PyProof.Rows L2
open Vbrgac (Actor Effect speed ready passed leastOf until_ run rounds runs earlier put queue first change acted State)

section
variable {P : Program} {w : World} {K : PySem.W.Frag} {mg : Str → Option Value} {base : Heap} {CA CC : Addr}
/-! ### Actor.twin -/
inductive PTwinA (CA : Addr) (vs : List V) (H : Hp) (Q : VK) : Prop
  | mk (p : Addr) (a : Actor) (le : Addr) (h0 : vs = [.ref p]) (h1 : ActorAt CA H p a le) (h2 : ∀ (H' : Hp) (q le' : Addr), H q = none → H le' = none → Same H H' → ActorAt CA H' q a le' → Q (.ref q) H') : PTwinA CA vs H Q
def spTwinA (CA : Addr) : Sp := fun vs H Q _ => PTwinA CA vs H Q
theorem scTwinA : FnScope ["self", "other"] ["self"] (defScope d_Actor_twin) := ⟨rfl, rfl, rfl, by decide +kernel, rfl, by decide +kernel, by decide +kernel⟩
theorem ok_twinA {f fI : Addr} {fd fdI : FuncData} (F : Fun K "twin" "Actor.twin" d_Actor_twin f fd) (T : Txt K mg CA CC) (M : Mk K CA fI) (GI : FnOk P w K mg base CX0 1 fI fdI ["self", "number", "base", "energy"] (spInitA CA)) (bI : Binds K fdI ["self", "number", "base", "energy"] []) :
    FnOk P w K mg base CX0 3 f fd ["self"] (spTwinA CA) := by
  refine F.ok scTwinA (fun vs H Q E h => ?_) (fun cdv A outer s H vs Q E hr h => ?_)
  · obtain ⟨p, a, le, rfl, _⟩ := h
    rfl
  · obtain ⟨p, a, le, rfl, ⟨⟨dx, hp⟩, ts, hle, hts⟩, k⟩ := h
    refine ⟨_, pss_cons (ps_set (i := 1) scTwinA.nd rfl (Or.inl rfl) (pe_make M GI hr rfl T.mgA bI .nil pass0 (pa_cons (pe_fld (pv 0) rfl) (pa_cons (pe_fld (pv 0) rfl) (pa_cons (pe_fld (pv 0) rfl) pa_nil)))))
      (pss_cons (ps_fld (pv 1) (pe_callTy call_list_of rfl T.list PyProof.Rows.boot_list (pa_cons (pe_fld (pv 0) rfl) pa_nil)) rfl)
      (pss_cons (ps_fld (pv 1) (pe_fld (pv 0) rfl) rfl) (pss_cons (ps_fld (pv 1) (pe_fld (pv 0) rfl) rfl) (pss_cons (ps_fld (pv 1) (pe_fld (pv 0) rfl) rfl)
      (pss_one (ps_ret (pv 1))))))), ?_⟩
    refine ⟨_, rfl, p, CA, dx, _, _, rfl, hp, T.clA, T.na "number", rfl, _, rfl, p, CA, dx, _, _, rfl, hp, T.clA, T.na "base", rfl, _, rfl, p, CA, dx, _, _, rfl, hp, T.clA, T.na "energy", rfl, ?_⟩
    intro x ix nx nix nex
    refine ⟨x, ix, a.num, a.base, a.energy, rfl, upd_same, fun H1 le1 hle1 hA1 k1 => ⟨rfl, ?_⟩⟩
    have s1 : Same H H1 := Same.made nx nix k1
    obtain ⟨⟨ix1, hx1⟩, _⟩ := hA1
    have npx : p ≠ x := ne_of_none hp nx
    refine ⟨_, rfl, p, CA, dx, _, _, rfl, s1 _ _ hp, T.clA, T.na "effects", rfl, le, _, rfl, .inl (SqL.of (s1 _ _ hle)), fun l hl => ?_⟩
    have nxl : x ≠ l := ne_of_none hx1 hl
    have hl0 : H l = none := s1.free hl
    have s2 : Same H (upd H1 l (.lst (ts.map V.ref))) := s1.trans (Same.upd hl)
    generalize hH2 : upd H1 l (.lst (ts.map V.ref)) = H2 at s2 ⊢
    have hx2 : H2 x = some (.ins CA ix1 (af { num := a.num, base := a.base, energy := a.energy } le1)) := by rw [← hH2, upd_ne nxl]; exact hx1
    have hl2 : H2 l = some (.lst (ts.map V.ref)) := by rw [← hH2, upd_same]
    refine ⟨_, rfl, x, CA, ix1, _, rfl, hx2, T.clA, T.na "effects", by show 7 < 1000; decide, ?_⟩
    have hp3 : ∀ o, (upd H2 x o) p = some (.ins CA dx (af a le)) := fun o => by rw [upd_ne npx]; exact s2 _ _ hp
    refine ⟨_, rfl, p, CA, dx, _, _, rfl, hp3 _, T.clA, T.na "acted", rfl, _, rfl, x, CA, ix1, _, rfl, upd_same, T.clA, T.na "acted", by show 7 < 1000; decide, ?_⟩
    refine ⟨_, rfl, p, CA, dx, _, _, rfl, (by rw [upd_ne npx]; exact hp3 _), T.clA, T.na "gained", rfl, _, rfl, x, CA, ix1, _, rfl, upd_same, T.clA, T.na "gained", by show 7 < 1000; decide, ?_⟩
    refine ⟨_, rfl, p, CA, dx, _, _, rfl, (by rw [upd_ne npx, upd_ne npx]; exact hp3 _), T.clA, T.na "spent", rfl, _, rfl, x, CA, ix1, _, rfl, upd_same, T.clA, T.na "spent", by show 7 < 1000; decide, ?_⟩
    refine ⟨_, rfl, ?_⟩
    refine k _ x l nx hl0 (fun b o e => ?_) ⟨⟨ix1, upd_same⟩, ts, ?_, Paired.mapP hts fun t e q => ?_⟩
    · have nb := ne_of_none e nx
      rw [upd_ne nb, upd_ne nb, upd_ne nb, upd_ne nb]
      exact s2 _ _ e
    · rw [upd_ne nxl.symm, upd_ne nxl.symm, upd_ne nxl.symm, upd_ne nxl.symm]
      exact hl2
    · have nb := ne_of_none q nx
      show (upd _ _ _) t = _
      rw [upd_ne nb, upd_ne nb, upd_ne nb, upd_ne nb]
      exact s2 _ _ q
/-! ### Actor.ticks_until_ready -/
inductive PUntil (CA : Addr) (vs : List V) (H : Hp) (Q : VK) : Prop
  | mk (p : Addr) (a : Actor) (le : Addr) (B : Int) (h0 : vs = [.ref p]) (h1 : ActorAt CA H p a le) (h2 : WfA B a) (h3 : B ≤ 1000000000000) (h4 : ∀ H' : Hp, Same H H' → Q (.int (Vbrgac.when_ a)) H') : PUntil CA vs H Q
def spUntil (CA : Addr) : Sp := fun vs H Q _ => PUntil CA vs H Q
theorem scUntil : FnScope ["self", "ahead", "went", "span"] ["self"] (defScope d_Actor_ticks_until_ready) := ⟨rfl, rfl, rfl, by decide +kernel, rfl, by decide +kernel, by decide +kernel⟩
/-- the loop's state, m the measure -/
inductive UntilInv (CA : Addr) (B : Int) (a : Actor) (H0 : Hp) (p q : Addr) (m : Nat) (σ : L2.St) (H : Hp) : Prop
  | mk (v : Option V) (b : Actor) (le : Addr) (went : Nat) (h0 : m = pot b) (h1 : σ = [some (.ref p), some (.ref q), some (.int went), v]) (h2 : Same H0 H) (h3 : ActorAt CA H q b le) (h4 : WfA B b) (h5 : went + pot b ≤ pot a) (h6 : LoopInv Vbrgac.LONG [a] went [b]) : UntilInv CA B a H0 p q m σ H
theorem ok_until {f fT fR fS fG : Addr} {fd fdT fdR fdS fdG : FuncData} (F : Fun K "ticks_until_ready" "Actor.ticks_until_ready" d_Actor_ticks_until_ready f fd) (T : Txt K mg CA CC)
    (GT : FnOk P w K mg base CX0 3 fT fdT ["self"] (spTwinA CA)) (mT : Meth K CA "twin" fT) (bT : Binds K fdT ["self"] [])
    (GR : FnOk P w K mg base CX0 1 fR fdR ["self"] (spReady CA)) (mR : Meth K CA "is_ready" fR) (bR : Binds K fdR ["self"] [])
    (GS : FnOk P w K mg base CX0 2 fS fdS ["self"] (spSteady CA)) (mS : Meth K CA "steady_ticks" fS) (bS : Binds K fdS ["self"] [])
    (GG : FnOk P w K mg base CX0 2 fG fdG ["self", "ticks"] (spGain CA)) (mG : Meth K CA "gain" fG) (bG : Binds K fdG ["self", "ticks"] []) :
    FnOk P w K mg base CX0 4 f fd ["self"] (spUntil CA) := by
  refine F.ok scUntil (fun vs H Q E h => ?_) (fun cdv A outer s H vs Q E hr h => ?_)
  · obtain ⟨p, a, le, B, rfl, _⟩ := h
    rfl
  · obtain ⟨p, a, le, B, rfl, hA, hW, hB, k⟩ := h
    obtain ⟨⟨dx, hp⟩, _⟩ := id hA
    have hr1 : Room 1 _ := hr.mono (show 1 ≤ 3 by decide)
    have hr2 : Room 2 _ := hr.mono (show 2 ≤ 3 by decide)
    refine ⟨_, pss_cons (ps_set (i := 1) scUntil.nd rfl (Or.inl rfl) (pe_meth0 (pv 0) T.clA mT GT hr bT .nil pass0))
      (pss_cons (ps_set (i := 2) scUntil.nd rfl (Or.inl rfl) pe_int)
      (pss_cons (ps_while PassesOwn.never (pt_not (pt_val (pe_meth0 (pv 1) T.clA mR GR hr1 bR .nil pass0)))
        (pss_cons (ps_set (i := 3) scUntil.nd rfl (Or.inl rfl) (pe_meth0 (pv 1) T.clA mS GS hr2 bS .nil pass0))
        (pss_cons (ps_expr (pe_meth (pv 1) T.clA mG GG hr2 bG .nil pass0 (pa_cons (pv 3) pa_nil)))
        (pss_one (ps_aug (i := 2) scUntil.nd rfl (Or.inl rfl) (pv 3) ip_add)))))
      (pss_one (ps_ret (pv 2))))), ?_⟩
    refine ⟨_, rfl, p, dx, _, rfl, hp, rfl, p, a, le, rfl, hA, fun H1 q lq nq nlq s1 hA1 => ?_⟩
    refine ⟨UntilInv CA B a H p q, ⟨_, none, a, lq, 0, rfl, rfl, s1, hA1, hW, by omega, loop_start _ _⟩, ?_⟩
    rintro m σ H' ⟨v, b, lb, went, rfl, rfl, sm, hb, wb, hpot, hI⟩
    obtain ⟨⟨dq, hq⟩, _⟩ := id hb
    have hp0 := pot_le hW
    refine ⟨_, rfl, q, dq, _, rfl, hq, rfl, q, b, lb, rfl, ⟨dq, hq⟩, _, rfl, ite2 (fun hc => ?_) (fun hc => ?_)⟩
    · have hen : b.energy < 0 := by
        have : ready b = false := by
          cases z : ready b with
          | false => rfl
          | true => rw [z] at hc; cases hc
        have := of_decide_eq_false this
        omega
      refine ⟨fun σ' H' => ∃ m', m' < pot b ∧ UntilInv CA B a H p q m' σ' H', fun _ _ h => h, ?_⟩
      refine ⟨_, rfl, q, dq, _, rfl, hq, rfl, q, b, lb, rfl, hb, wb.few, wb.b1, wb.b2, hen, fun n H2 sm2 hn hmin => ?_⟩
      refine ⟨_, rfl, q, dq, _, rfl, sm2 _ _ hq, rfl, _, rfl, q, b, lb, n, rfl, hb.same sm2, wb.few, fun H3 l3 hl3 hA3 k3 => ?_⟩
      have hstep := pot_step wb hen hmin
      have hpos := spans_pos wb hen n hn
      have hnx : Next [b] n := ⟨⟨b, List.mem_cons_self, hn⟩, fun c hc x hx => by
        have := List.mem_singleton.mp hc
        subst this
        exact hmin x hx⟩
      have hlong : (Vbrgac.LONG : Int) = 1000000000000000 := rfl
      have hfit : n ≤ Vbrgac.LONG - went := by omega
      have hI2 := loop_step hI (by omega) (by
        show (ready b || false) = false
        rw [Bool.or_false]
        exact decide_eq_false (by omega)) hnx
      rw [Nat.min_eq_left hfit] at hI2
      refine ⟨_, rfl, _, rfl, _, _, rfl, rfl, pot (passed n b), by omega, some (.int n), passed n b, l3, went + n, rfl, ?_, fun c o e => ?_, hA3, wb.passed n, by omega, hI2⟩
      · show ([some (V.ref p), some (V.ref q), some (V.int ((went : Int) + (n : Int))), some (V.int (n : Int))] : L2.St) = _
        rw [← Int.natCast_add]
      · exact k3 _ _ (sm2 _ _ (sm _ _ e)) (ne_of_none e nq)
    · have hrd : ready b = true := by
        cases z : ready b with
        | true => rfl
        | false => rw [z] at hc; exact absurd rfl hc
      have hx := loop_exit hI (.inr (by
        show (ready b || false) = true
        rw [hrd]
        rfl))
      have hx2 : Vbrgac.when_ a = went := by
        show (runs Vbrgac.LONG [a]).2 = went
        rw [hx]
      have kk := k H' sm
      rw [hx2] at kk
      exact ⟨_, rfl, kk⟩
end
end My
end

section
set_option Elab.async false
set_option linter.all false
set_option maxRecDepth 100000
set_option maxHeartbeats 2000000
namespace L2
open PySem PySem.Spec PyProof.Rows
/-! walks over a locked dict's values, by an invariant -/
theorem for_vals {d : Addr} {o : Obj} {kvs : List (Key × V)} {g : TG} {tb : TS} {D : Ends} {σ : St} {H : Hp} (Pv : Nat → St → Hp → Prop) (h0 : Pv 0 σ H) (hl : ∀ i σ H, i ≤ kvs.length → Pv i σ H → H d = some (.frz o (.dK kvs)))
    (hs : ∀ i k x σ H, kvs[i]? = some (k, x) → Pv i σ H → g x σ H fun σ2 H2 => tb { D with nx := Pv (i + 1), ct := Pv (i + 1), bk := D.nx } σ2 H2) (hd : ∀ σ H, Pv kvs.length σ H → D.nx σ H) :
    ∃ W : Nat → Nat → St → Hp → Prop, (∃ m, W 0 m σ H) ∧ ∀ i m σ H, W i m σ H →
      ((Itd d o kvs).stop i H ∧ D.nx σ H) ∨ ((Itd d o kvs).go i H ∧ ∃ N : St → Hp → Prop, (∀ σ' H', N σ' H' → ∃ m', m' < m ∧ W (i + 1) m' σ' H') ∧ ∀ x H', (Itd d o kvs).yld i H x H' → g x σ H' fun σ2 H2 => tb { D with nx := N, ct := N, bk := D.nx } σ2 H2) := by
  refine ⟨fun i m σ H => m = kvs.length - i ∧ i ≤ kvs.length ∧ Pv i σ H, ⟨kvs.length, by simp, Nat.zero_le _, h0⟩, ?_⟩
  rintro i m σ H ⟨rfl, hi, p⟩
  have q := hl i σ H hi p
  by_cases hlt : i < kvs.length
  · refine .inr ⟨⟨q, hlt⟩, Pv (i + 1), fun σ' H' p' => ⟨kvs.length - (i + 1), by omega, rfl, hlt, p'⟩, fun x H' y => ?_⟩
    obtain ⟨e, k, y⟩ := y
    subst e
    exact hs i k x σ _ y p
  · have e : i = kvs.length := by omega
    subst e
    exact .inl ⟨⟨q, Nat.le_refl _⟩, hd σ H p⟩
theorem lc_vals {d : Addr} {o : Obj} {kvs : List (Key × V)} {g : TG} {tt : TT} {te : TE} {vs : List Nat} {σ : St} {H1 : Hp} {D : Addr} {Qd : Hp → Prop} (Pv : Nat → Hp → Prop) (h0 : Pv 0 (upd H1 D (.lst []))) (hl : ∀ i H, i ≤ kvs.length → Pv i H → H d = some (.frz o (.dK kvs)))
    (hs : ∀ i k x H, kvs[i]? = some (k, x) → Pv i H → g x (wipe σ vs) H fun σ2 H2 => wipe σ2 vs = wipe σ vs ∧ tt σ2 H2 fun b H3 =>
      if b = true then te σ2 H3 fun y H4 => ∃ acc, H4 D = some (.lst acc) ∧ acc.length < sizeLine ∧ Pv (i + 1) (upd H4 D (.lst (acc ++ [y]))) else Pv (i + 1) H3) (hd : ∀ H, Pv kvs.length H → Qd H) :
    ∃ W : Nat → Nat → Hp → Prop, (∃ m, W 0 m (upd H1 D (.lst []))) ∧ ∀ i m H, W i m H →
      ((Itd d o kvs).stop i H ∧ Qd H) ∨ ((Itd d o kvs).go i H ∧ ∃ Nx : Hp → Prop, (∀ H', Nx H' → ∃ m', m' < m ∧ W (i + 1) m' H') ∧ ∀ x H', (Itd d o kvs).yld i H x H' → g x (wipe σ vs) H' fun σ2 H2 => wipe σ2 vs = wipe σ vs ∧ tt σ2 H2 fun b H3 =>
        if b = true then te σ2 H3 fun y H4 => ∃ acc, H4 D = some (.lst acc) ∧ acc.length < sizeLine ∧ Nx (upd H4 D (.lst (acc ++ [y]))) else Nx H3) := by
  refine ⟨fun i m H => m = kvs.length - i ∧ i ≤ kvs.length ∧ Pv i H, ⟨kvs.length, by simp, Nat.zero_le _, h0⟩, ?_⟩
  rintro i m H ⟨rfl, hi, p⟩
  have q := hl i H hi p
  by_cases hlt : i < kvs.length
  · refine .inr ⟨⟨q, hlt⟩, Pv (i + 1), fun H' p' => ⟨kvs.length - (i + 1), by omega, rfl, hlt, p'⟩, fun x H' y => ?_⟩
    obtain ⟨e, k, y⟩ := y
    subst e
    exact hs i k x _ y p
  · have e : i = kvs.length := by omega
    subst e
    exact .inl ⟨⟨q, Nat.le_refl _⟩, hd H p⟩
end L2
namespace My
open PySem PySem.Spec PyProof.Rows L2
open Vbrgac (Actor Effect speed ready passed leastOf until_ run rounds runs earlier put queue first change acted State)

/-! ### all who are there -/
/-- the actors as at the addresses ps (the instance, its list of effects) stand for the actors l -/
structure ActsAt (CA : Addr) (H : Hp) (ps : List (Addr × Addr)) (l : List Actor) : Prop where
  act : Paired (fun pl a => ActorAt CA H pl.1 a pl.2) ps l
  ndp : (ps.map (·.1)).Nodup
  ndl : (ps.map (·.2)).Nodup
/-- the dict's pairs -/
def kvsOf (ps : List (Addr × Addr)) (l : List Actor) : List (Key × V) := (ps.zip l).map fun x => (Sum.inl (x.2.num : Int), V.ref x.1.1)
theorem kvs_ix {CA : Addr} {H : Hp} {ps : List (Addr × Addr)} {l : List Actor} (h : ActsAt CA H ps l) {i : Nat} {k : Key} {x : V} (e : (kvsOf ps l)[i]? = some (k, x)) :
    ∃ p le a, ps[i]? = some (p, le) ∧ l[i]? = some a ∧ k = Sum.inl (a.num : Int) ∧ x = .ref p ∧ ActorAt CA H p a le := by
  unfold kvsOf at e
  rw [List.getElem?_map] at e
  cases q : (ps.zip l)[i]? with
  | none => rw [q] at e; cases e
  | some z =>
    rw [q] at e
    obtain ⟨⟨p, le⟩, a⟩ := z
    have e := Option.some.inj e
    injection e with e1 e2
    rw [List.getElem?_zip_eq_some] at q
    obtain ⟨y, hy, hA⟩ := paired_ix h.act q.1
    have : y = a := Option.some.inj (hy.symm.trans q.2)
    subst this
    exact ⟨p, le, y, q.1, q.2, e1.symm, e2.symm, hA⟩
theorem ActsAt.length {CA : Addr} {H : Hp} {ps : List (Addr × Addr)} {l : List Actor} (h : ActsAt CA H ps l) : ps.length = l.length := Paired.length h.act
theorem kvs_len {CA : Addr} {H : Hp} {ps : List (Addr × Addr)} {l : List Actor} (h : ActsAt CA H ps l) : (kvsOf ps l).length = l.length := by
  unfold kvsOf
  rw [List.length_map, List.length_zip, h.length]
  omega
theorem ActsAt.same {CA : Addr} {H H' : Hp} {ps : List (Addr × Addr)} {l : List Actor} (sm : Same H H') (h : ActsAt CA H ps l) : ActsAt CA H' ps l := ⟨Paired.mapP h.act fun _ _ q => q.same sm, h.ndp, h.ndl⟩
/-- what keeps all instances and lists (and tuples) keeps the actors -/
theorem ActorAt.keep {CA : Addr} {H H' : Hp} {p : Addr} {a : Actor} {le : Addr} (h : ActorAt CA H p a le) (kp : ∀ b o, H b = some o → (∃ C dx fs, o = .ins C dx fs) ∧ b = p ∨ (∃ xs, o = .lst xs) ∧ b = le ∨ (∃ xs, o = .tup xs) → H' b = some o) : ActorAt CA H' p a le := by
  obtain ⟨⟨dx, h1⟩, ts, h2, h3⟩ := h
  exact ⟨⟨dx, kp _ _ h1 (.inl ⟨⟨_, _, _, rfl⟩, rfl⟩)⟩, ts, kp _ _ h2 (.inr (.inl ⟨⟨_, rfl⟩, rfl⟩)), Paired.mapP h3 fun t e q => kp _ _ q (.inr (.inr ⟨_, rfl⟩))⟩
theorem paired_all {α β : Type} {F G : α → β → Prop} : ∀ {l : List α} {m : List β}, Paired F l m → (∀ (j : Nat) (a : α) (b : β), l[j]? = some a → m[j]? = some b → F a b → G a b) → Paired G l m
  | _, _, .nil, _ => .nil
  | _, _, .cons r t, k => .cons (k 0 _ _ rfl rfl r) (paired_all t fun j a b h1 h2 q => k (j + 1) a b (by simpa using h1) (by simpa using h2) q)
theorem paired_setG {α β : Type} {F G : α → β → Prop} {l : List α} {m : List β} {i : Nat} {x : α} {y : β} (pr : Paired F l m) (k : ∀ (j : Nat) (a : α) (b : β), j ≠ i → l[j]? = some a → m[j]? = some b → F a b → G a b) (q : G x y) : Paired G (l.set i x) (m.set i y) := by
  induction pr generalizing i with
  | nil => exact .nil
  | cons r t ih =>
    cases i with
    | zero => exact .cons q (paired_all t fun j a b h1 h2 z => k (j + 1) a b (by omega) (by simpa using h1) (by simpa using h2) z)
    | succ i => exact .cons (k 0 _ _ (by omega) rfl rfl r) (ih fun j a b hj h1 h2 z => k (j + 1) a b (by omega) (by simpa using h1) (by simpa using h2) z)
theorem map_set {α β : Type} (f : α → β) : ∀ (l : List α) (i : Nat) (x : α), (l.set i x).map f = (l.map f).set i (f x)
  | [], _, _ => rfl
  | _ :: _, 0, _ => rfl
  | a :: l, i + 1, x => by
    show f a :: (l.set i x).map f = f a :: (l.map f).set i (f x)
    rw [map_set f l i x]
theorem set_self {α : Type} : ∀ {l : List α} {i : Nat} {x : α}, l[i]? = some x → l.set i x = l
  | [], _, _, _ => rfl
  | a :: l, 0, x, h => by
    have : a = x := Option.some.inj h
    rw [this]; rfl
  | a :: l, i + 1, x, h => by
    show a :: l.set i x = a :: l
    rw [set_self (l := l) (i := i) (x := x) h]
theorem nd_set {α : Type} [DecidableEq α] : ∀ {l : List α} {i : Nat} {x : α}, l.Nodup → (∀ y ∈ l, y ≠ x) → (l.set i x).Nodup
  | [], _, _, _, _ => List.nodup_nil
  | a :: l, 0, x, h, hx => List.nodup_cons.mpr ⟨fun m => hx x (List.mem_cons_of_mem _ m) rfl, (List.nodup_cons.mp h).2⟩
  | a :: l, i + 1, x, h, hx => by
    obtain ⟨h1, h2⟩ := List.nodup_cons.mp h
    refine List.nodup_cons.mpr ⟨fun m => ?_, nd_set h2 fun y hy => hx y (List.mem_cons_of_mem _ hy)⟩
    rcases List.mem_or_eq_of_mem_set m with z | z
    · exact h1 z
    · exact hx a List.mem_cons_self z
/-- one actor is changed: its instance (or its list, or a new list) -/
theorem ActsAt.set {CA : Addr} {H H' : Hp} {ps : List (Addr × Addr)} {l : List Actor} (h : ActsAt CA H ps l) {i : Nat} {p le le' : Addr} {a' : Actor} (hi : ps[i]? = some (p, le)) (hA : ActorAt CA H' p a' le') (hle : le' = le ∨ H le' = none)
    (kp : ∀ b o, H b = some o → b ≠ p → b ≠ le → H' b = some o) : ActsAt CA H' (ps.set i (p, le')) (l.set i a') := by
  obtain ⟨a, ha, ⟨⟨dx, hp⟩, ts, hl, _⟩⟩ := paired_ix h.act hi
  refine ⟨paired_setG h.act (fun j q b hj h1 h2 hq => ?_) hA, ?_, ?_⟩
  · have n1 : q.1 ≠ p := fun z => hj (nd_ix h.ndp (x := p) (by rw [List.getElem?_map, h1]; exact congrArg some z) (by rw [List.getElem?_map, hi]; rfl))
    have n2 : q.2 ≠ le := fun z => hj (nd_ix h.ndl (x := le) (by rw [List.getElem?_map, h1]; exact congrArg some z) (by rw [List.getElem?_map, hi]; rfl))
    refine hq.keep fun b o e w => kp b o e ?_ ?_
    · rcases w with ⟨_, rfl⟩ | ⟨⟨xs, rfl⟩, _⟩ | ⟨xs, rfl⟩
      · exact n1
      · exact ne_of e hp (by intro z; cases z)
      · exact ne_of e hp (by intro z; cases z)
    · rcases w with ⟨⟨C, d, fs, rfl⟩, _⟩ | ⟨_, rfl⟩ | ⟨xs, rfl⟩
      · exact ne_of e hl (by intro z; cases z)
      · exact n2
      · exact ne_of e hl (by intro z; cases z)
  · rw [map_set, set_self (by rw [List.getElem?_map, hi]; rfl)]
    exact h.ndp
  · rw [map_set]
    rcases hle with rfl | hle
    · rw [set_self (by rw [List.getElem?_map, hi]; rfl)]
      exact h.ndl
    · refine nd_set h.ndl fun y hy z => ?_
      obtain ⟨q, hq, rfl⟩ := List.mem_map.mp hy
      obtain ⟨j, hj, ej⟩ := List.getElem_of_mem hq
      obtain ⟨b, _, ⟨_, ts', hl', _⟩⟩ := paired_ix h.act (List.getElem?_eq_some_iff.mpr ⟨hj, ej⟩)
      rw [z, hle] at hl'
      cases hl'

/-- the addresses that may change -/
def fpOf (ps : List (Addr × Addr)) : List Addr := ps.map (·.1) ++ ps.map (·.2)
end My
end

section
set_option Elab.async false
set_option linter.all false
set_option maxRecDepth 100000
set_option maxHeartbeats 2000000
namespace My
open PySem PySem.Spec PyProof.Rows L2
open Vbrgac (Actor Effect speed ready passed leastOf until_ run rounds runs earlier put queue first change acted State)

structure Lay where
  c : Addr
  dc : Addr
  d : Addr
  ps : List (Addr × Addr)
def cf (now given : Nat) (d : Addr) : List (Str × V) := [("ticks", .int now), ("came", .int given), ("actors", .ref d)]
structure CrowdAt (CA CC : Addr) (H : Hp) (L : Lay) (st : State) : Prop where
  ins : H L.c = some (.ins CC L.dc (cf st.now st.given L.d))
  dic : H L.d = some (.dK (kvsOf L.ps st.actors))
  acts : ActsAt CA H L.ps st.actors
theorem CrowdAt.same {CA CC : Addr} {H H' : Hp} {L : Lay} {st : State} (sm : Same H H') (h : CrowdAt CA CC H L st) : CrowdAt CA CC H' L st := ⟨sm _ _ h.ins, sm _ _ h.dic, h.acts.same sm⟩
theorem CrowdAt.but {CA CC : Addr} {H H' : Hp} {L : Lay} {st : State} (h : CrowdAt CA CC H L st) {P : Addr} {qs : Array Value} (hP : H P = some (.tbl qs)) (kp : ∀ b o, H b = some o → b ≠ P → H' b = some o) : CrowdAt CA CC H' L st :=
  ⟨kp _ _ h.ins (ne_of h.ins hP (by intro z; cases z)), kp _ _ h.dic (ne_of h.dic hP (by intro z; cases z)),
    Paired.mapP h.acts.act fun pl a q => q.keep fun b o e w => kp b o e (by
      rcases w with ⟨⟨C, d, fs, rfl⟩, _⟩ | ⟨⟨xs, rfl⟩, _⟩ | ⟨xs, rfl⟩
      · exact ne_of e hP (by intro z; cases z)
      · exact ne_of e hP (by intro z; cases z)
      · exact ne_of e hP (by intro z; cases z)), h.acts.ndp, h.acts.ndl⟩

abbrev lposR : Pos := ⟨83, 33, 83, 76⟩
abbrev qualR : Str := ("Crowd.ready_in_order" : Str) ++ ".<locals>." ++ "<lambda>"
/-- the table of the code of ready_in_order -/
abbrev TabIn (Pt : Addr) (H : Hp) : Prop := ∃ ps, H Pt = some (.tbl ps) ∧ TabOk H lposR qualR ps
abbrev SmT (Pt : Addr) (H H' : Hp) : Prop := SameT Pt lposR qualR H H'
theorem CrowdAt.smT {CA CC Pt : Addr} {H H' : Hp} {L : Lay} {st : State} (h : CrowdAt CA CC H L st) (hT : TabIn Pt H) (s : SmT Pt H H') : CrowdAt CA CC H' L st :=
  let ⟨_, h1, _⟩ := hT; h.but h1 s.kp

structure TxtC (K : PySem.W.Frag) (mg : Str → Option Value) (CA CC : Addr) : Prop extends Txt K mg CA CC where
  clC : Cls K CC
  naC : ∀ f ∈ (["ticks", "came", "actors"] : List Str), NoAttr K CC f
theorem TxtC.nc {K : PySem.W.Frag} {mg : Str → Option Value} {CA CC : Addr} (T : TxtC K mg CA CC) (f : Str) (h : f ∈ (["ticks", "came", "actors"] : List Str) := by decide +kernel) : NoAttr K CC f := T.naC f h

/-- the ready ones with their addresses -/
def rdy (ps : List (Addr × Addr)) (l : List Actor) : List (Addr × Actor) := ((ps.map (·.1)).zip l).filter fun x => ready x.2
theorem rdy_mem {CA : Addr} {H : Hp} {ps : List (Addr × Addr)} {l : List Actor} (h : ActsAt CA H ps l) {x : Addr × Actor} (hx : x ∈ rdy ps l) : ∃ le, ActorAt CA H x.1 x.2 le ∧ ready x.2 = true := by
  obtain ⟨h1, h2⟩ := List.mem_filter.mp hx
  obtain ⟨i, hi, e⟩ := List.getElem_of_mem h1
  have q := List.getElem?_eq_some_iff.mpr ⟨hi, e⟩
  obtain ⟨p, a⟩ := x
  rw [List.getElem?_zip_eq_some] at q
  obtain ⟨q1, q2⟩ := q
  rw [List.getElem?_map] at q1
  cases z : ps[i]? with
  | none => rw [z] at q1; cases q1
  | some pl =>
    rw [z] at q1
    have e1 : pl.1 = p := Option.some.inj q1
    obtain ⟨b, hb, hA⟩ := paired_ix h.act z
    have : b = a := Option.some.inj (hb.symm.trans q2)
    subst this
    subst e1
    exact ⟨_, hA, h2⟩
theorem zip_filter {α : Type} (f : Actor → Bool) : ∀ (xs : List α) (l : List Actor), xs.length = l.length → ((xs.zip l).filter fun x => f x.2).map (·.2) = l.filter f
  | [], [], _ => rfl
  | x :: xs, a :: l, h => by
    have ih := zip_filter f xs l (by simpa using h)
    rw [List.zip_cons_cons, List.filter_cons, List.filter_cons]
    split
    · rw [List.map_cons, ih]
    · exact ih
theorem rdy_acts {CA : Addr} {H : Hp} {ps : List (Addr × Addr)} {l : List Actor} (h : ActsAt CA H ps l) : (rdy ps l).map (·.2) = l.filter ready := zip_filter ready _ _ (by rw [List.length_map, h.length])
theorem zip_take_snoc {α β : Type} {xs : List α} {l : List β} {i : Nat} {x : α} {y : β} (h1 : xs[i]? = some x) (h2 : l[i]? = some y) : (xs.zip l).take (i + 1) = (xs.zip l).take i ++ [(x, y)] :=
  take_snoc (by rw [List.getElem?_zip_eq_some]; exact ⟨h1, h2⟩)

section
variable {P : Program} {w : World} {K : PySem.W.Frag} {mg : Str → Option Value} {base : Heap} {CA CC Pt cR : Addr}
/-! ### Crowd.ready_in_order -/
inductive POrder (CA CC Pt : Addr) (vs : List V) (H : Hp) (Q : VK) : Prop
  | mk (L : Lay) (st : State) (h0 : vs = [.ref L.c]) (h1 : CrowdAt CA CC H L st) (h2 : TabIn Pt H) (h3 : st.actors.length ≤ 16) (h4 : (st.actors.map fun a => a.num).Nodup) (h5 : ∀ (H' : Hp) (D : Addr) (rs : List (Addr × Actor)), SmT Pt H H' → H' D = some (.lst (rs.map fun x => V.ref x.1)) → rs.map (·.2) = queue st.actors → (∀ x ∈ rs, ∃ le, ActorAt CA H' x.1 x.2 le) → Q (.ref D) H') : POrder CA CC Pt vs H Q
def spOrder (CA CC Pt : Addr) : Sp := fun vs H Q _ => POrder CA CC Pt vs H Q
theorem scOrder : FnScope ["self", "ready", "actor"] ["self"] (defScope d_Crowd_ready_in_order) := ⟨rfl, rfl, rfl, by decide +kernel, rfl, by decide +kernel, by decide +kernel⟩
theorem ok_order {f fR : Addr} {oc kV doc pm ct : Value} {od an : Option Addr} {osl : Array (Option Value)} {fdR : FuncData}
    (lk : K.lookup f = some ⟨oc, od, .func (PySem.W.fnOf "ready_in_order" "Crowd.ready_in_order" (defArgs d_Crowd_ready_in_order) (defBody d_Crowd_ready_in_order) (defScope d_Crowd_ready_in_order) .none kV doc pm an (.ref cR) ct), osl⟩)
    (hcd : PySem.W.codeIn K (.ref cR) "Crowd.ready_in_order" = true) (C : PySem.W.CodeHd base cR Pt) (B : BmIn mg base) (T : TxtC K mg CA CC)
    (FR : Fun K "is_ready" "Actor.is_ready" d_Actor_is_ready fR fdR) (mR : Meth K CA "is_ready" fR) (bR : Binds K fdR ["self"] []) :
    FnOk P w K mg base CX0 5 f (PySem.W.fnOf "ready_in_order" "Crowd.ready_in_order" (defArgs d_Crowd_ready_in_order) (defBody d_Crowd_ready_in_order) (defScope d_Crowd_ready_in_order) .none kV doc pm an (.ref cR) ct) ["self"] (spOrder CA CC Pt) := by
  have GR : FnOk P w K mg base CX0 1 fR fdR ["self"] (spReady CA) := ok_ready FR T.toTxt
  refine fn_of lk hcd scOrder (fun vs H Q E h => ?_) (fun A outer s H vs Q E hr h => ?_)
  · obtain ⟨L, st, rfl, _⟩ := h
    rfl
  · obtain ⟨L, st, rfl, hC, hT, h16, hnd, k⟩ := h
    have hr1 : Room 1 _ := hr.mono (show 1 ≤ 4 by decide)
    refine ⟨_, PSs.nox (pss_cons (ps_lock (ps_setLc (i := 1) (own := [("actor", 2)]) (g := gName 2) rfl scOrder.nd rfl rfl (sw_true rfl rfl rfl (by decide +kernel)) (pi_values (pe_fld (pv 0) rfl))
          (blkOk_by (show blkC ["self", "ready", "actor"] (defScope d_Crowd_ready_in_order) _ _ = true by decide +kernel))
          (fun s H C cl fp => pg_name (i := 2) scOrder.nd rfl (Or.inl rfl) (Or.inr rfl))
          (fun s H C cl fp => pts_one (pt_val (pe_meth0 (pv 2) T.clA mR GR hr1 bR .nil pass0))) (fun s H C cl fp => pv 2)))
      (pss_one (ps_ret (pe_sortedLam (k := 1) (N := ["actor"]) (y := "actor") (t := tTup (tCons (tUn (rU fun i => .int (-i)) (tFld K (tVar 0) "energy")) (tCons (tFld K (tVar 0) "number") tNil))) rfl C B hr rfl T.sorted (pv 1)
          ⟨rfl, rfl, rfl, by decide +kernel, rfl, by decide +kernel, by decide +kernel⟩ (fun _ _ _ _ => rfl)
          (fun f c A outer s' H' => pe_tup (pa_cons (pe_un un_neg (pe_fld (pv 0) rfl)) (pa_cons (pe_fld (pv 0) rfl) pa_nil))))))), ?_⟩
    have hcd' : L.c ≠ L.d := ne_of hC.ins hC.dic (by intro z; cases z)
    -- ready = [actor for actor in self.actors.values() if actor.is_ready()]
    refine ⟨L.d, _, hC.dic, trivial, fun od => ?_⟩
    generalize hH0 : upd H L.d (.frz od (.dK (kvsOf L.ps st.actors))) = H0
    have k0 : ∀ b o, H b = some o → b ≠ L.d → H0 b = some o := fun b o e nb => by rw [← hH0, upd_ne nb]; exact e
    have a0 : ActsAt CA H0 L.ps st.actors := ⟨Paired.mapP hC.acts.act fun pl a q => q.keep fun b o e w => k0 b o e (by
      rcases w with ⟨⟨C, d, fs, rfl⟩, _⟩ | ⟨⟨xs, rfl⟩, _⟩ | ⟨xs, rfl⟩
      · exact ne_of e hC.dic (by intro z; cases z)
      · exact ne_of e hC.dic (by intro z; cases z)
      · exact ne_of e hC.dic (by intro z; cases z)), hC.acts.ndp, hC.acts.ndl⟩
    have hd0 : H0 L.d = some (.frz od (.dK (kvsOf L.ps st.actors))) := by rw [← hH0, upd_same]
    refine ⟨_, rfl, L.c, CC, L.dc, _, _, rfl, k0 _ _ hC.ins hcd', T.clC, T.nc "actors", rfl, L.d, od, _, rfl, hd0, fun D hD => ?_⟩
    refine lc_vals (d := L.d) (o := od) (kvs := kvsOf L.ps st.actors) (fun i H' => Same H0 H' ∧ H' D = some (.lst (((((L.ps.map (·.1)).zip st.actors).take i).filter fun x => ready x.2).map fun x => V.ref x.1))) ⟨Same.upd hD, upd_same⟩
      (fun i H' _ q => q.1 _ _ hd0) ?_ ?_
    · rintro i key x H' hx ⟨sm, hD'⟩
      obtain ⟨p, le, a, hp, ha, rfl, rfl, ⟨⟨dx, hpa⟩, _⟩⟩ := kvs_ix a0 hx
      have sn := zip_take_snoc (xs := L.ps.map (·.1)) (l := st.actors) (i := i) (x := p) (y := a) (by rw [List.getElem?_map, hp]; rfl) ha
      refine ⟨rfl, ?_⟩
      refine ⟨_, rfl, p, dx, _, rfl, sm _ _ hpa, rfl, p, a, le, rfl, ⟨dx, sm _ _ hpa⟩, _, rfl, ite2 (fun hr => ?_) (fun hr => ?_)⟩
      · refine ⟨_, rfl, _, hD', ?_, ?_, ?_⟩
        · have h1 := List.length_filter_le (fun x : Addr × Actor => ready x.2) (((L.ps.map (·.1)).zip st.actors).take i)
          rw [List.length_take, List.length_zip] at h1
          rw [List.length_map]
          exact small1000 (by omega)
        · intro b o e
          rw [upd_ne (ne_of_none e hD)]
          exact sm _ _ e
        · rw [upd_same, sn, List.filter_append, List.map_append]
          have : List.filter (fun x : Addr × Actor => ready x.2) [(p, a)] = [(p, a)] := by rw [List.filter_cons, if_pos hr]; rfl
          rw [this]
          rfl
      · refine ⟨sm, ?_⟩
        rw [sn, List.filter_append]
        have : List.filter (fun x : Addr × Actor => ready x.2) [(p, a)] = [] := by rw [List.filter_cons, if_neg hr]; rfl
        rw [this, List.append_nil]
        exact hD'
    · rintro H1 ⟨sm, hD1⟩
      have hl : ((L.ps.map (·.1)).zip st.actors).take (kvsOf L.ps st.actors).length = (L.ps.map (·.1)).zip st.actors := List.take_of_length_le (by
        rw [kvs_len hC.acts, List.length_zip]
        omega)
      rw [hl] at hD1
      have hD1 : H1 D = some (.lst ((rdy L.ps st.actors).map fun x => V.ref x.1)) := hD1
      refine ⟨sm _ _ hd0, ?_⟩
      have nDd : D ≠ L.d := fun z => by rw [z, hd0] at hD; cases hD
      generalize hH2 : upd H1 L.d (.dK (kvsOf L.ps st.actors)) = H2
      have s2 : Same H H2 := fun b o e => by
        rw [← hH2]
        by_cases q : b = L.d
        · subst q
          rw [upd_same]
          rw [hC.dic] at e
          exact e
        · rw [upd_ne q]
          exact sm _ _ (k0 _ _ e q)
      have hD2 : H2 D = some (.lst ((rdy L.ps st.actors).map fun x => V.ref x.1)) := by rw [← hH2, upd_ne nDd]; exact hD1
      obtain ⟨qs, hq1, hq2⟩ := hT
      have tab2 : TabIn Pt H2 := ⟨qs, s2 _ _ hq1, hq2.same (P := Pt) (fun b o e _ => s2 b o e) ⟨qs, hq1⟩⟩
      have a2 : ActsAt CA H2 L.ps st.actors := hC.acts.same s2
      -- return sorted(ready, key=lambda actor: (-actor.energy, actor.number))
      refine ⟨_, rfl, D, _, (rdy L.ps st.actors).map fun x => (-x.2.energy, (x.2.num : Int)), rfl, SqL.of hD2, by rw [List.length_map, List.length_map], tab2, ?_, ?_⟩
      · intro i x kk H' hx hkk sT
        rw [List.getElem?_map] at hx hkk
        cases z : (rdy L.ps st.actors)[i]? with
        | none => rw [z] at hx; cases hx
        | some y =>
          rw [z] at hx hkk
          have ex := Option.some.inj hx
          have ek := Option.some.inj hkk
          subst ex ek
          obtain ⟨le, ⟨⟨dx, hp⟩, _⟩, _⟩ := rdy_mem a2 (List.mem_of_getElem? z)
          obtain ⟨qs2, hqs2, _⟩ := tab2
          have hp' := sT.kp _ _ hp (ne_of hp hqs2 (by intro z; cases z))
          exact ⟨_, rfl, y.1, CA, dx, _, _, rfl, hp', T.clA, T.na "energy", rfl, _, rfl, _, rfl, y.1, CA, dx, _, _, rfl, hp', T.clA, T.na "number", rfl, (by show 2 ≤ sizeLine; decide), fun q hq => ⟨q, rfl, upd_same, Same.upd hq⟩⟩
      · intro D3 H3 prs sT hD3 hperm hpw
        have ez : ((rdy L.ps st.actors).map fun x => (-x.2.energy, (x.2.num : Int))).zip ((rdy L.ps st.actors).map fun x => V.ref x.1) = (rdy L.ps st.actors).map fun x => ((-x.2.energy, (x.2.num : Int)), V.ref x.1) := by
          rw [List.zip_map', ]
        rw [ez] at hperm
        obtain ⟨rs, hrs, rfl⟩ := perm_map_inv _ hperm
        have hq : rs.map (·.2) = queue st.actors := by
          refine queue_is hnd ?_ ?_
          · rw [← rdy_acts hC.acts]
            exact hrs.map _
          · rw [List.pairwise_map] at hpw ⊢
            refine hpw.imp fun {x y} h => ?_
            rcases h with h | ⟨h1, h2⟩
            · exact .inl (by
                have h : -x.2.energy < -y.2.energy := h
                omega)
            · exact .inr ⟨by
                have h1 : -x.2.energy = -y.2.energy := h1
                omega, Int.ofNat_le.mp h2⟩
        have s3 : Same H3 (upd H3 D3 (.lst (rs.map fun x => V.ref x.1))) := Same.upd hD3
        have sT2 : SmT Pt H H3 := ⟨fun b o e nb => sT.kp _ _ (s2 _ _ e) nb, sT.tab⟩
        have el : (rs.map fun x => (((-x.2.energy, (x.2.num : Int)) : Int × Int), V.ref x.1)).map (·.2) = rs.map fun x => V.ref x.1 := by rw [List.map_map]; rfl
        rw [el]
        refine k _ D3 rs (sT2.same s3) upd_same hq fun x hx => ?_
        obtain ⟨le, hA, _⟩ := rdy_mem (CrowdAt.smT (st := st) (L := L) hC ⟨qs, hq1, hq2⟩ (sT2.same s3)).acts (hrs.mem_iff.mp hx)
        exact ⟨le, hA⟩
end
end My
end

section
set_option Elab.async false
set_option linter.all false
set_option maxRecDepth 100000
set_option maxHeartbeats 2000000
namespace My
open PySem PySem.Spec PyProof.Rows L2
open Vbrgac (Actor Effect speed ready passed leastOf until_ run rounds runs earlier put queue first change acted State)

/-- a state that may be -/
structure Wf (B : Int) (st : State) : Prop where
  few : st.actors.length ≤ 16
  act : ∀ a ∈ st.actors, WfA B a
  inc : (st.actors.map fun a => a.num).Pairwise (· < ·)
  num : ∀ a ∈ st.actors, 1 ≤ a.num ∧ a.num ≤ st.given
theorem Wf.nd {B : Int} {st : State} (w : Wf B st) : (st.actors.map fun a => a.num).Nodup := w.inc.imp fun h => Nat.ne_of_lt h
theorem Wf.pos {B : Int} {st : State} (w : Wf B st) : ∀ a ∈ st.actors, 0 < a.num := fun a ha => (w.num a ha).1
/-- n ticks for all -/
abbrev leap (n : Nat) (st : State) : State := { st with actors := st.actors.map (passed n), now := st.now + n }
theorem Wf.leap {B : Int} {st : State} (w : Wf B st) (n : Nat) : Wf B (leap n st) := by
  refine ⟨by rw [List.length_map]; exact w.few, fun a ha => ?_, ?_, fun a ha => ?_⟩
  · obtain ⟨b, hb, rfl⟩ := List.mem_map.mp ha
    exact (w.act b hb).passed n
  · rw [List.map_map]
    exact w.inc
  · obtain ⟨b, hb, rfl⟩ := List.mem_map.mp ha
    exact w.num b hb

section
variable {P : Program} {w : World} {K : PySem.W.Frag} {mg : Str → Option Value} {base : Heap} {CA CC Pt : Addr}
/-! ### Crowd.turn -/
inductive PTurn (CA CC Pt : Addr) (vs : List V) (H : Hp) (Q : VK) : Prop
  | mk (L : Lay) (st : State) (h0 : vs = [.ref L.c]) (h1 : CrowdAt CA CC H L st) (h2 : TabIn Pt H) (h3 : st.actors.length ≤ 16) (h4 : (st.actors.map fun a => a.num).Nodup) (h5 : ∀ H' : Hp, SmT Pt H H' → Q (.int (turnOf st.actors)) H') : PTurn CA CC Pt vs H Q
def spTurn (CA CC Pt : Addr) : Sp := fun vs H Q _ => PTurn CA CC Pt vs H Q
theorem scTurn : FnScope ["self", "ready"] ["self"] (defScope d_Crowd_turn) := ⟨rfl, rfl, rfl, by decide +kernel, rfl, by decide +kernel, by decide +kernel⟩
theorem ok_turn {f fO : Addr} {fd fdO : FuncData} (F : Fun K "turn" "Crowd.turn" d_Crowd_turn f fd) (T : TxtC K mg CA CC) (GO : FnOk P w K mg base CX0 5 fO fdO ["self"] (spOrder CA CC Pt)) (mO : Meth K CC "ready_in_order" fO) (bO : Binds K fdO ["self"] []) :
    FnOk P w K mg base CX0 6 f fd ["self"] (spTurn CA CC Pt) := by
  refine F.ok scTurn (fun vs H Q E h => ?_) (fun cdv A outer s H vs Q E hr h => ?_)
  · obtain ⟨L, st, rfl, _⟩ := h
    rfl
  · obtain ⟨L, st, rfl, hC, hT, h16, hnd, k⟩ := h
    refine ⟨_, pss_cons (ps_set (i := 1) scTurn.nd rfl (Or.inl rfl) (pe_meth0 (pv 0) T.clC mO GO hr bO .nil pass0))
      (pss_one (ps_ret (pe_ifExp (pt_cmpR op_gt (pe_callB call_len_seq (by rfl) T.len PySem.boot_len (pa_cons (pv 1) pa_nil)) pe_int (nomark _)) (pe_fld (pe_ix ix_list (pv 1) pe_int (fun _ _ => rfl)) rfl) pe_int))), ?_⟩
    refine ⟨_, rfl, L.c, L.dc, _, rfl, hC.ins, rfl, L, st, rfl, hC, hT, h16, hnd, fun H' D rs sT hD hq hA => ?_⟩
    have kk := k H' sT
    refine ⟨_, rfl, D, _, rfl, .inl (SqL.of hD), _, _, rfl, rfl, _, rfl, ite2 (fun hc => ?_) (fun hc => ?_)⟩
    · have hc : (0 : Int) < ((rs.map fun x => V.ref x.1).length : Nat) := of_decide_eq_true hc
      cases e : rs with
      | nil => rw [e] at hc; exact absurd hc (by simp)
      | cons x r =>
        rw [e] at hD hq
        obtain ⟨le, ⟨dx, hx⟩, _⟩ := hA x (by rw [e]; exact List.mem_cons_self)
        have et : turnOf st.actors = x.2.num := by
          unfold turnOf first
          rw [← hq]
          rfl
        rw [et] at kk
        exact ⟨_, rfl, D, _, _, _, rfl, rfl, SqL.of hD, atI_nat (j := 0) rfl, x.1, CA, dx, _, _, rfl, hx, T.clA, T.na "number", rfl, kk⟩
    · have hc : ¬ (0 : Int) < ((rs.map fun x => V.ref x.1).length : Nat) := fun z => hc (decide_eq_true z)
      cases e : rs with
      | cons x r => rw [e] at hc; exact absurd (by simp) hc
      | nil =>
        rw [e] at hq
        have et : turnOf st.actors = 0 := by
          unfold turnOf first
          rw [← hq]
          rfl
        rw [et] at kk
        exact kk
/-! ### Crowd.steady_spans -/
def IsMin (n : Nat) (a : Actor) : Prop := n ∈ spans a ∧ ∀ x ∈ spans a, n ≤ x
inductive PSpans (CA CC : Addr) (vs : List V) (H : Hp) (Q : VK) : Prop
  | mk (L : Lay) (st : State) (B : Int) (h0 : vs = [.ref L.c]) (h1 : CrowdAt CA CC H L st) (h2 : Wf B st) (h3 : (∀ a ∈ st.actors, a.energy < 0)) (h4 : ∀ (H' : Hp) (D : Addr) (ns : List Nat), Same H H' → H D = none → H' D = some (.lst ((ns.map fun n : Nat => (n : Int)).map V.int)) → Paired IsMin ns st.actors → Q (.ref D) H') : PSpans CA CC vs H Q
def spSpans (CA CC : Addr) : Sp := fun vs H Q _ => PSpans CA CC vs H Q
theorem scSpans : FnScope ["self", "actor"] ["self"] (defScope d_Crowd_steady_spans) := ⟨rfl, rfl, rfl, by decide +kernel, rfl, by decide +kernel, by decide +kernel⟩
theorem paired_take_snoc {α β : Type} {F : α → β → Prop} {l : List α} {m : List β} {i : Nat} {x : α} {y : β} (h : Paired F l (m.take i)) (hy : m[i]? = some y) (q : F x y) : Paired F (l ++ [x]) (m.take (i + 1)) := by
  rw [take_snoc hy]
  exact Paired.snoc h q
theorem ok_spans {f fS : Addr} {fd fdS : FuncData} (F : Fun K "steady_spans" "Crowd.steady_spans" d_Crowd_steady_spans f fd) (T : TxtC K mg CA CC) (GS : FnOk P w K mg base CX0 2 fS fdS ["self"] (spSteady CA)) (mS : Meth K CA "steady_ticks" fS) (bS : Binds K fdS ["self"] []) :
    FnOk P w K mg base CX0 3 f fd ["self"] (spSpans CA CC) := by
  refine F.ok scSpans (fun vs H Q E h => ?_) (fun cdv A outer s H vs Q E hr h => ?_)
  · obtain ⟨L, st, B, rfl, _⟩ := h
    rfl
  · obtain ⟨L, st, B, rfl, hC, hW, hen, k⟩ := h
    have hcd' : L.c ≠ L.d := ne_of hC.ins hC.dic (by intro z; cases z)
    refine ⟨_, pss_one (ps_ret (pe_lock (pe_lc (own := [("actor", 1)]) (g := gName 1) rfl scSpans.nd (pi_values (pe_fld (pv 0) rfl))
          (blkOk_by (show blkC ["self", "actor"] (defScope d_Crowd_steady_spans) _ _ = true by decide +kernel))
          (fun s H C cl fp => pg_name (i := 1) scSpans.nd rfl (Or.inl rfl) (Or.inr rfl))
          (fun s H C cl fp => pts_nil) (fun s H C cl fp => pe_meth0 (pv 1) T.clA mS GS hr bS .nil pass0)))), ?_⟩
    refine ⟨L.d, _, hC.dic, trivial, fun od => ?_⟩
    generalize hH0 : upd H L.d (.frz od (.dK (kvsOf L.ps st.actors))) = H0
    have k0 : ∀ b o, H b = some o → b ≠ L.d → H0 b = some o := fun b o e nb => by rw [← hH0, upd_ne nb]; exact e
    have a0 : ActsAt CA H0 L.ps st.actors := ⟨Paired.mapP hC.acts.act fun pl a q => q.keep fun b o e w => k0 b o e (by
      rcases w with ⟨⟨C, d, fs, rfl⟩, _⟩ | ⟨⟨xs, rfl⟩, _⟩ | ⟨xs, rfl⟩
      · exact ne_of e hC.dic (by intro z; cases z)
      · exact ne_of e hC.dic (by intro z; cases z)
      · exact ne_of e hC.dic (by intro z; cases z)), hC.acts.ndp, hC.acts.ndl⟩
    have hd0 : H0 L.d = some (.frz od (.dK (kvsOf L.ps st.actors))) := by rw [← hH0, upd_same]
    refine ⟨_, rfl, L.c, CC, L.dc, _, _, rfl, k0 _ _ hC.ins hcd', T.clC, T.nc "actors", rfl, L.d, od, _, rfl, hd0, fun D hD => ?_⟩
    have nDd : D ≠ L.d := fun z => by rw [z, hd0] at hD; cases hD
    refine lc_vals (d := L.d) (o := od) (kvs := kvsOf L.ps st.actors) (fun i H' => Same H0 H' ∧ ∃ ns : List Nat, H' D = some (.lst ((ns.map fun n : Nat => (n : Int)).map V.int)) ∧ Paired IsMin ns (st.actors.take i)) ⟨Same.upd hD, [], upd_same, .nil⟩
      (fun i H' _ q => q.1 _ _ hd0) ?_ ?_
    · rintro i key x H' hx ⟨sm, ns, hD', hns⟩
      obtain ⟨p, le, a, hp, ha, rfl, rfl, hA⟩ := kvs_ix a0 hx
      obtain ⟨⟨dx, hpa⟩, _⟩ := id hA
      have hm := List.mem_of_getElem? ha
      have wa := hW.act a hm
      refine ⟨rfl, ?_⟩
      refine ⟨_, rfl, p, dx, _, rfl, sm _ _ hpa, rfl, p, a, le, rfl, hA.same sm, wa.few, wa.b1, wa.b2, hen a hm, fun n H2 sm2 h1 h2 => ?_⟩
      refine ⟨_, sm2 _ _ hD', ?_, ?_, ns ++ [n], ?_, paired_take_snoc hns ha ⟨h1, h2⟩⟩
      · have := Paired.length hns
        rw [List.length_take] at this
        rw [List.length_map, List.length_map]
        have := hW.few
        exact small1000 (by omega)
      · intro b o e
        rw [upd_ne (ne_of_none e hD)]
        exact sm2 _ _ (sm _ _ e)
      · rw [upd_same, List.map_append, List.map_append]
        rfl
    · rintro H1 ⟨sm, ns, hD1, hns⟩
      have hl : st.actors.take (kvsOf L.ps st.actors).length = st.actors := List.take_of_length_le (by rw [kvs_len hC.acts]; exact Nat.le_refl _)
      rw [hl] at hns
      refine ⟨sm _ _ hd0, ?_⟩
      refine k _ D ns (fun b o e => ?_) ?_ ?_ hns
      · by_cases q : b = L.d
        · subst q
          rw [upd_same]
          rw [hC.dic] at e
          exact e
        · rw [upd_ne q]
          exact sm _ _ (k0 _ _ e q)
      · rw [← hH0, upd_ne nDd] at hD
        exact hD
      · rw [upd_ne nDd]
        exact hD1
end
end My
end

section
set_option Elab.async false
set_option linter.all false
set_option maxRecDepth 100000
set_option maxHeartbeats 2000000
namespace My
open PySem PySem.Spec PyProof.Rows L2
open Vbrgac (Actor Effect speed ready passed leastOf until_ run rounds runs earlier put queue first change acted State)

/-! ### what a crowd stands on, and what is kept -/
def foot (L : Lay) : List Addr := L.c :: L.d :: (L.ps.map (·.1) ++ L.ps.map (·.2))
theorem mem_foot {L : Lay} {b : Addr} : b ∈ foot L ↔ b = L.c ∨ b = L.d ∨ b ∈ L.ps.map (·.1) ∨ b ∈ L.ps.map (·.2) := by
  unfold foot
  rw [List.mem_cons, List.mem_cons, List.mem_append]
theorem ActsAt.frame {CA : Addr} {H H' : Hp} {ps : List (Addr × Addr)} {l : List Actor} (h : ActsAt CA H ps l)
    (kp : ∀ b o, H b = some o → ((∃ dx a le, o = .ins CA dx (af a le)) ∧ b ∈ ps.map (·.1)) ∨ ((∃ xs, o = .lst xs) ∧ b ∈ ps.map (·.2)) ∨ (∃ xs, o = .tup xs) → H' b = some o) : ActsAt CA H' ps l := by
  refine ⟨paired_all h.act fun j pl a h1 h2 hA => ?_, h.ndp, h.ndl⟩
  obtain ⟨⟨dx, e1⟩, ts, e2, e3⟩ := hA
  have m := List.mem_of_getElem? h1
  exact ⟨⟨dx, kp _ _ e1 (.inl ⟨⟨_, _, _, rfl⟩, List.mem_map.mpr ⟨_, m, rfl⟩⟩)⟩, ts, kp _ _ e2 (.inr (.inl ⟨⟨_, rfl⟩, List.mem_map.mpr ⟨_, m, rfl⟩⟩)), Paired.mapP e3 fun t e q => kp _ _ q (.inr (.inr ⟨_, rfl⟩))⟩
theorem CrowdAt.frame {CA CC : Addr} {H H' : Hp} {L : Lay} {st : State} (h : CrowdAt CA CC H L st) (kp : ∀ b o, H b = some o → (b ∈ foot L ∨ ∃ xs, o = .tup xs) → H' b = some o) : CrowdAt CA CC H' L st :=
  ⟨kp _ _ h.ins (.inl (mem_foot.mpr (.inl rfl))), kp _ _ h.dic (.inl (mem_foot.mpr (.inr (.inl rfl)))), h.acts.frame fun b o e w => kp b o e (by
    rcases w with ⟨_, m⟩ | ⟨_, m⟩ | m
    · exact .inl (mem_foot.mpr (.inr (.inr (.inl m))))
    · exact .inl (mem_foot.mpr (.inr (.inr (.inr m))))
    · exact .inr m)⟩
theorem cf_af {CC CA dc dx : Addr} {n g : Nat} {d : Addr} {a : Actor} {le : Addr} : HO.ins CC dc (cf n g d) ≠ HO.ins CA dx (af a le) := by
  intro z
  injection z with _ _ z
  have := congrArg List.length z
  cases this
theorem foot_obj {CA CC : Addr} {H : Hp} {L : Lay} {st : State} (h : CrowdAt CA CC H L st) {b : Addr} (hb : b ∈ foot L) : ∃ o, H b = some o ∧ ((∃ C dx fs, o = .ins C dx fs) ∨ (∃ xs, o = .lst xs) ∨ (∃ kvs, o = .dK kvs)) := by
  rcases mem_foot.mp hb with rfl | rfl | hb | hb
  · exact ⟨_, h.ins, .inl ⟨_, _, _, rfl⟩⟩
  · exact ⟨_, h.dic, .inr (.inr ⟨_, rfl⟩)⟩
  · obtain ⟨pl, m, rfl⟩ := List.mem_map.mp hb
    obtain ⟨j, hj, e⟩ := List.getElem_of_mem m
    obtain ⟨a, _, ⟨dx, q⟩, _⟩ := paired_ix h.acts.act (List.getElem?_eq_some_iff.mpr ⟨hj, e⟩)
    exact ⟨_, q, .inl ⟨_, _, _, rfl⟩⟩
  · obtain ⟨pl, m, rfl⟩ := List.mem_map.mp hb
    obtain ⟨j, hj, e⟩ := List.getElem_of_mem m
    obtain ⟨a, _, _, ts, q, _⟩ := paired_ix h.acts.act (List.getElem?_eq_some_iff.mpr ⟨hj, e⟩)
    exact ⟨_, q, .inr (.inl ⟨_, rfl⟩)⟩
theorem c_not_p {CA CC : Addr} {H : Hp} {L : Lay} {st : State} (h : CrowdAt CA CC H L st) : L.c ∉ L.ps.map (·.1) := by
  intro hb
  obtain ⟨pl, m, e0⟩ := List.mem_map.mp hb
  obtain ⟨j, hj, e⟩ := List.getElem_of_mem m
  obtain ⟨a, _, ⟨dx, q⟩, _⟩ := paired_ix h.acts.act (List.getElem?_eq_some_iff.mpr ⟨hj, e⟩)
  rw [e0, h.ins] at q
  exact cf_af (Option.some.inj q)

theorem tab_keep {Pt : Addr} {H H' : Hp} (h : TabIn Pt H) (kp : ∀ b o, H b = some o → ((∃ qs, o = .tbl qs) ∨ ∃ φ, o = .ext φ) → H' b = some o) : TabIn Pt H' := by
  obtain ⟨qs, h1, h2, h3⟩ := h
  exact ⟨qs, kp _ _ h1 (.inl ⟨_, rfl⟩), h2, h3.imp id fun ⟨c, e, hc⟩ => ⟨c, e, kp _ _ hc (.inr ⟨_, rfl⟩)⟩⟩
theorem foot_tab {CA CC : Addr} {H : Hp} {L : Lay} {st : State} (h : CrowdAt CA CC H L st) {b : Addr} {o : HO} (e : H b = some o) (w : (∃ qs, o = .tbl qs) ∨ ∃ φ, o = .ext φ) : b ∉ foot L := by
  intro hb
  obtain ⟨o', e', k⟩ := foot_obj h hb
  have : o = o' := Option.some.inj (e.symm.trans e')
  subst this
  rcases w with ⟨qs, rfl⟩ | ⟨φ, rfl⟩ <;> rcases k with ⟨_, _, _, z⟩ | ⟨_, z⟩ | ⟨_, z⟩ <;> cases z

/-- what a step of a crowd leaves: all outside of it, but the code table -/
structure Mv (Pt : Addr) (H0 : Hp) (L0 : Lay) (H : Hp) (L : Lay) : Prop where
  kp : ∀ b o, H0 b = some o → b ∉ foot L0 → b ≠ Pt → H b = some o
  sub : ∀ b ∈ foot L, b ∈ foot L0 ∨ H0 b = none
  c : L.c = L0.c
  tab : TabIn Pt H
  old : ∀ b, H b = none → H0 b = none
theorem Mv.trans {Pt : Addr} {H0 H1 H2 : Hp} {L0 L1 L2 : Lay} (x : Mv Pt H0 L0 H1 L1) (y : Mv Pt H1 L1 H2 L2) : Mv Pt H0 L0 H2 L2 := by
  refine ⟨fun b o e n1 n2 => y.kp _ _ (x.kp _ _ e n1 n2) (fun m => ?_) n2, fun b hb => ?_, y.c.trans x.c, y.tab, fun b hb => x.old _ (y.old _ hb)⟩
  · rcases x.sub b m with q | q
    · exact n1 q
    · rw [q] at e; cases e
  · rcases y.sub b hb with q | q
    · exact x.sub b q
    · exact .inr (x.old _ q)
theorem Mv.smT {Pt : Addr} {H0 H : Hp} {L : Lay} (s : SmT Pt H0 H) : Mv Pt H0 L H L := by
  refine ⟨fun b o e _ n => s.kp _ _ e n, fun b hb => .inl hb, rfl, s.tab, fun b hb => ?_⟩
  cases q : H0 b with
  | none => rfl
  | some o =>
    by_cases z : b = Pt
    · obtain ⟨ps, h1, _⟩ := s.tab
      rw [z, h1] at hb
      cases hb
    · rw [s.kp _ _ q z] at hb
      cases hb
theorem Mv.same {Pt : Addr} {H0 H : Hp} {L : Lay} (t : TabIn Pt H0) (s : Same H0 H) : Mv Pt H0 L H L := Mv.smT (SameT.of_same t s)
theorem Mv.thenT {Pt : Addr} {H0 H1 H : Hp} {L0 L : Lay} (x : Mv Pt H0 L0 H1 L) (s : SmT Pt H1 H) : Mv Pt H0 L0 H L := x.trans (Mv.smT s)
/-- what is tracked elsewhere -/
theorem Mv.lst {Pt : Addr} {H0 H : Hp} {L0 L : Lay} (x : Mv Pt H0 L0 H L) (t : TabIn Pt H0) {b : Addr} {xs : List V} (e : H0 b = some (.lst xs)) (n : b ∉ foot L0) : H b = some (.lst xs) := by
  obtain ⟨qs, h1, _⟩ := t
  exact x.kp _ _ e n (ne_of e h1 (by intro z; cases z))

/-! ### Crowd.go_by -/
/-- the first i have leapt -/
def mix (n : Nat) (l : List Actor) (i : Nat) : List Actor := (l.take i).map (passed n) ++ l.drop i
theorem mix_zero (n : Nat) (l : List Actor) : mix n l 0 = l := rfl
theorem mix_len (n : Nat) (l : List Actor) : mix n l l.length = l.map (passed n) := by
  unfold mix
  rw [List.take_length, List.drop_length, List.append_nil]
theorem mix_set {n : Nat} : ∀ {l : List Actor} {i : Nat} {a : Actor}, l[i]? = some a → (mix n l i).set i (passed n a) = mix n l (i + 1)
  | [], i, a, h => by simp at h
  | b :: l, 0, a, h => by
    have e : b = a := Option.some.inj h
    subst e
    rfl
  | b :: l, i + 1, a, h => by
    have ih := mix_set (n := n) (l := l) (i := i) (a := a) h
    show (passed n b :: mix n l i).set (i + 1) (passed n a) = passed n b :: mix n l (i + 1)
    rw [List.set_cons_succ, ih]
theorem mix_at {n : Nat} : ∀ {l : List Actor} {i : Nat}, (mix n l i)[i]? = l[i]?
  | [], i => by simp [mix]
  | b :: l, 0 => rfl
  | b :: l, i + 1 => by
    show (passed n b :: mix n l i)[i + 1]? = (b :: l)[i + 1]?
    rw [List.getElem?_cons_succ, List.getElem?_cons_succ, mix_at]
theorem kvs_eq : ∀ {ps ps' : List (Addr × Addr)} {l l' : List Actor}, ps'.map (·.1) = ps.map (·.1) → (l'.map fun a => a.num) = (l.map fun a => a.num) → kvsOf ps' l' = kvsOf ps l
  | [], [], l, l', _, _ => by simp [kvsOf]
  | [], _ :: _, _, _, h, _ => by cases h
  | _ :: _, [], _, _, h, _ => by cases h
  | p :: ps, p' :: ps', [], [], _, _ => rfl
  | p :: ps, p' :: ps', [], _ :: _, _, h => by cases h
  | p :: ps, p' :: ps', _ :: _, [], _, h => by cases h
  | p :: ps, p' :: ps', a :: l, a' :: l', h1, h2 => by
    rw [List.map_cons, List.map_cons] at h1 h2
    injection h1 with e1 r1
    injection h2 with e2 r2
    have ih := kvs_eq r1 r2
    show (Sum.inl (a'.num : Int), V.ref p'.1) :: kvsOf ps' l' = (Sum.inl (a.num : Int), V.ref p.1) :: kvsOf ps l
    rw [ih, e1, e2]

section
variable {P : Program} {w : World} {K : PySem.W.Frag} {mg : Str → Option Value} {base : Heap} {CA CC Pt : Addr}
inductive PGo (CA CC Pt : Addr) (vs : List V) (H : Hp) (Q : VK) : Prop
  | mk (L : Lay) (st : State) (n : Nat) (h0 : vs = [.ref L.c, .int n]) (h1 : CrowdAt CA CC H L st) (h2 : TabIn Pt H) (h3 : (∀ a ∈ st.actors, a.effects.length ≤ 8)) (h4 : ∀ (H' : Hp) (L' : Lay), CrowdAt CA CC H' L' (leap n st) → Mv Pt H L H' L' → Q .non H') : PGo CA CC Pt vs H Q
def spGo (CA CC Pt : Addr) : Sp := fun vs H Q _ => PGo CA CC Pt vs H Q
theorem scGo : FnScope ["self", "ticks", "actor"] ["self", "ticks"] (defScope d_Crowd_go_by) := ⟨rfl, rfl, rfl, by decide +kernel, rfl, by decide +kernel, by decide +kernel⟩
/-- the loop's state -/
structure GoInv (CA : Addr) (H0 : Hp) (L : Lay) (l : List Actor) (n i : Nat) (H : Hp) (ps : List (Addr × Addr)) : Prop where
  acts : ActsAt CA H ps (mix n l i)
  fst : ps.map (·.1) = L.ps.map (·.1)
  rest : ∀ j, i ≤ j → ps[j]? = L.ps[j]?
  snd : ∀ b ∈ ps.map (·.2), b ∈ L.ps.map (·.2) ∨ H0 b = none
  kp : ∀ b o, H0 b = some o → b ∉ L.ps.map (·.1) → H b = some o
  old : ∀ b, H b = none → H0 b = none
theorem ok_go {f fG : Addr} {fd fdG : FuncData} (F : Fun K "go_by" "Crowd.go_by" d_Crowd_go_by f fd) (T : TxtC K mg CA CC) (GG : FnOk P w K mg base CX0 2 fG fdG ["self", "ticks"] (spGain CA)) (mG : Meth K CA "gain" fG) (bG : Binds K fdG ["self", "ticks"] []) :
    FnOk P w K mg base CX0 3 f fd ["self", "ticks"] (spGo CA CC Pt) := by
  refine F.ok scGo (fun vs H Q E h => ?_) (fun cdv A outer s H vs Q E hr h => ?_)
  · obtain ⟨L, st, n, rfl, _⟩ := h
    rfl
  · obtain ⟨L, st, n, rfl, hC, hT, h8, k⟩ := h
    have hcd' : L.c ≠ L.d := ne_of hC.ins hC.dic (by intro z; cases z)
    refine ⟨_, pss_cons (ps_lock (ps_for PassesOwn.never rfl (pi_values (pe_fld (pv 0) rfl)) (pg_name (i := 2) scGo.nd rfl (Or.inl rfl))
        (pss_one (ps_expr (pe_meth (pv 2) T.clA mG GG hr bG .nil pass0 (pa_cons (pv 1) pa_nil))))))
      (pss_one (ps_fldaug (pv 0) (pv 1) in_add)), ?_⟩
    refine ⟨L.d, _, hC.dic, trivial, fun od => ?_⟩
    generalize hH0 : upd H L.d (.frz od (.dK (kvsOf L.ps st.actors))) = H0
    have k0 : ∀ b o, H b = some o → b ≠ L.d → H0 b = some o := fun b o e nb => by rw [← hH0, upd_ne nb]; exact e
    have a0 : ActsAt CA H0 L.ps st.actors := hC.acts.frame fun b o e w => k0 b o e (by
      rcases w with ⟨⟨dx, a, le, rfl⟩, _⟩ | ⟨⟨xs, rfl⟩, _⟩ | ⟨xs, rfl⟩
      · exact ne_of e hC.dic (by intro z; cases z)
      · exact ne_of e hC.dic (by intro z; cases z)
      · exact ne_of e hC.dic (by intro z; cases z))
    have hd0 : H0 L.d = some (.frz od (.dK (kvsOf L.ps st.actors))) := by rw [← hH0, upd_same]
    have hc0 : H0 L.c = some (.ins CC L.dc (cf st.now st.given L.d)) := k0 _ _ hC.ins hcd'
    have old0 : ∀ b, H0 b = none → H b = none := fun b hb => by
      by_cases z : b = L.d
      · rw [z, hd0] at hb; cases hb
      · rw [← hH0, upd_ne z] at hb; exact hb
    have ndp : L.d ∉ L.ps.map (·.1) := fun m => by
      obtain ⟨pl, m, e0⟩ := List.mem_map.mp m
      obtain ⟨j, hj, e⟩ := List.getElem_of_mem m
      obtain ⟨a, _, ⟨dx, q⟩, _⟩ := paired_ix hC.acts.act (List.getElem?_eq_some_iff.mpr ⟨hj, e⟩)
      rw [e0, hC.dic] at q
      cases q
    have ncp := c_not_p hC
    refine ⟨_, rfl, L.c, CC, L.dc, _, _, rfl, hc0, T.clC, T.nc "actors", rfl, L.d, od, _, rfl, hd0, ?_⟩
    refine for_vals (d := L.d) (o := od) (kvs := kvsOf L.ps st.actors) (fun i σ H' => ∃ (v : Option V) (ps : List (Addr × Addr)), σ = [some (.ref L.c), some (.int n), v] ∧ GoInv CA H0 L st.actors n i H' ps)
      ⟨none, L.ps, rfl, ⟨a0, rfl, fun _ _ => rfl, fun b hb => .inl hb, fun b o e _ => e, fun b hb => hb⟩⟩ (fun i σ H' _ ⟨_, _, _, g⟩ => g.kp _ _ hd0 ndp) ?_ ?_
    · rintro i key x σ H' hx ⟨v, ps, rfl, g⟩
      obtain ⟨p, le, a, hp, ha, rfl, rfl, _⟩ := kvs_ix a0 hx
      have hp' : ps[i]? = some (p, le) := (g.rest i (Nat.le_refl _)).trans hp
      obtain ⟨b, hb, hA⟩ := paired_ix g.acts.act hp'
      have : b = a := Option.some.inj (hb.symm.trans (mix_at.trans ha))
      subst this
      obtain ⟨⟨dx, hpa⟩, _⟩ := id hA
      have mp : p ∈ L.ps.map (·.1) := List.mem_map.mpr ⟨_, List.mem_of_getElem? hp, rfl⟩
      refine ⟨_, rfl, p, dx, _, rfl, hpa, rfl, _, rfl, p, b, le, n, rfl, hA, h8 b (List.mem_of_getElem? ha), fun H2 le2 hle2 hA2 k2 => ?_⟩
      refine ⟨_, ps.set i (p, le2), rfl, ?_⟩
      have hs := g.acts.set hp' hA2 (.inr hle2) fun b o e n1 _ => k2 b o e n1
      rw [mix_set ha] at hs
      refine ⟨hs, ?_, fun j hj => ?_, fun c hc => ?_, fun c o e nc => ?_, fun c hc => ?_⟩
      · rw [map_set, set_self (by rw [List.getElem?_map, hp']; rfl)]
        exact g.fst
      · rw [List.getElem?_set_ne (by omega)]
        exact g.rest j (by omega)
      · rw [map_set] at hc
        rcases List.mem_or_eq_of_mem_set hc with z | z
        · exact g.snd c z
        · rw [z]
          exact .inr (g.old _ hle2)
      · exact k2 _ _ (g.kp _ _ e nc) fun z => nc (z ▸ mp)
      · refine g.old c ?_
        cases q : H' c with
        | none => rfl
        | some o =>
          by_cases z : c = p
          · obtain ⟨⟨dx2, hp2⟩, _⟩ := hA2
            rw [z, hp2] at hc; cases hc
          · rw [k2 _ _ q z] at hc; cases hc
    · rintro σ H1 ⟨v, ps, rfl, g⟩
      have hl : (kvsOf L.ps st.actors).length = st.actors.length := kvs_len hC.acts
      rw [hl] at g
      have ga := g.acts
      rw [mix_len] at ga
      refine ⟨g.kp _ _ hd0 ndp, ?_⟩
      have hc1 : H1 L.c = some (.ins CC L.dc (cf st.now st.given L.d)) := g.kp _ _ hc0 ncp
      have hd1 : H1 L.d = some (.frz od (.dK (kvsOf L.ps st.actors))) := g.kp _ _ hd0 ndp
      have hc2 : (upd H1 L.d (.dK (kvsOf L.ps st.actors))) L.c = some (.ins CC L.dc (cf st.now st.given L.d)) := by rw [upd_ne hcd']; exact hc1
      refine ⟨_, rfl, L.c, CC, L.dc, _, _, rfl, hc2, T.clC, T.nc "ticks", rfl, _, rfl, _, _, rfl, rfl, L.dc, _, hc2, by show 3 < 1000; decide, ?_⟩
      generalize hH3 : upd (upd H1 L.d (.dK (kvsOf L.ps st.actors))) L.c _ = H3
      have hc3 : H3 L.c = some (.ins CC L.dc (cf (st.now + n) st.given L.d)) := by
        rw [← hH3, upd_same]
        rfl
      have hd3 : H3 L.d = some (.dK (kvsOf L.ps st.actors)) := by rw [← hH3, upd_ne hcd'.symm, upd_same]
      have k3 : ∀ b o, H1 b = some o → b ≠ L.c → b ≠ L.d → H3 b = some o := fun b o e n1 n2 => by rw [← hH3, upd_ne n1, upd_ne n2]; exact e
      have kv : kvsOf ps (st.actors.map (passed n)) = kvsOf L.ps st.actors := kvs_eq g.fst (by rw [List.map_map]; rfl)
      have a3 : ActsAt CA H3 ps (st.actors.map (passed n)) := ga.frame fun b o e w => k3 b o e (by
          rcases w with ⟨⟨dx, a, le, rfl⟩, _⟩ | ⟨⟨xs, rfl⟩, _⟩ | ⟨xs, rfl⟩
          · exact ne_of e hc1 (fun z => cf_af z.symm)
          · exact ne_of e hc1 (by intro z; cases z)
          · exact ne_of e hc1 (by intro z; cases z)) (by
          rcases w with ⟨⟨dx, a, le, rfl⟩, _⟩ | ⟨⟨xs, rfl⟩, _⟩ | ⟨xs, rfl⟩
          · exact ne_of e hd1 (by intro z; cases z)
          · exact ne_of e hd1 (by intro z; cases z)
          · exact ne_of e hd1 (by intro z; cases z))
      have kall : ∀ b o, H b = some o → b ∉ foot L → H3 b = some o := fun b o e nb => by
        have n1 : b ≠ L.c := fun z => nb (mem_foot.mpr (.inl z))
        have n2 : b ≠ L.d := fun z => nb (mem_foot.mpr (.inr (.inl z)))
        have n3 : b ∉ L.ps.map (·.1) := fun z => nb (mem_foot.mpr (.inr (.inr (.inl z))))
        exact k3 _ _ (g.kp _ _ (k0 _ _ e n2) n3) n1 n2
      refine k H3 ⟨L.c, L.dc, L.d, ps⟩ ⟨hc3, ?_, a3⟩ ⟨fun b o e nb _ => kall b o e nb, fun b hb => ?_, rfl, tab_keep hT fun b o e w => kall b o e (foot_tab hC e w), fun b hb => ?_⟩
      · show H3 L.d = some (.dK (kvsOf ps (st.actors.map (passed n))))
        rw [kv]
        exact hd3
      · rcases mem_foot.mp hb with z | z | z | z
        · exact .inl (mem_foot.mpr (.inl z))
        · exact .inl (mem_foot.mpr (.inr (.inl z)))
        · have z : b ∈ ps.map (·.1) := z
          rw [g.fst] at z
          exact .inl (mem_foot.mpr (.inr (.inr (.inl z))))
        · rcases g.snd b z with q | q
          · exact .inl (mem_foot.mpr (.inr (.inr (.inr q))))
          · exact .inr (old0 b q)
      · refine old0 b (g.old b ?_)
        have n1 : b ≠ L.c := fun z => by rw [z, hc3] at hb; cases hb
        have n2 : b ≠ L.d := fun z => by rw [z, hd3] at hb; cases hb
        rw [← hH3, upd_ne n1, upd_ne n2] at hb
        exact hb
end
end My
end

section
set_option Elab.async false
set_option linter.all false
set_option maxRecDepth 100000
set_option maxHeartbeats 2000000
namespace My
open PySem PySem.Spec PyProof.Rows L2
open Vbrgac (Actor Effect speed ready passed leastOf until_ run rounds runs earlier put queue first change acted State)

theorem paired_ix' {α β : Type} {F : α → β → Prop} : ∀ {l : List α} {m : List β} {i : Nat} {y : β}, Paired F l m → m[i]? = some y → ∃ x, l[i]? = some x ∧ F x y
  | _, _, _, _, .nil, e => by simp at e
  | _, _, 0, _, .cons r _, e => by simp at e; subst e; exact ⟨_, rfl, r⟩
  | _, _, i + 1, y, .cons _ t, e => by
    obtain ⟨x, h1, h2⟩ := paired_ix' (i := i) (y := y) t (by simpa using e)
    exact ⟨x, by simpa using h1, h2⟩
theorem next_least {l : List Actor} {ns : List Nat} (h : Paired IsMin ns l) (hl : l ≠ []) : ∃ n, n ∈ ns ∧ (∀ x ∈ ns, n ≤ x) ∧ Next l n := by
  have hn : ns ≠ [] := fun z => by
    have := Paired.length h
    rw [z] at this
    exact hl (List.length_eq_zero_iff.mp this.symm)
  obtain ⟨n, _, h1, h2⟩ := least_some hn
  refine ⟨n, h1, h2, ?_, fun a ha x hx => ?_⟩
  · obtain ⟨j, hj, e⟩ := List.getElem_of_mem h1
    obtain ⟨a, ha, q⟩ := paired_ix h (List.getElem?_eq_some_iff.mpr ⟨hj, e⟩)
    exact ⟨a, List.mem_of_getElem? ha, q.1⟩
  · obtain ⟨j, hj, e⟩ := List.getElem_of_mem ha
    obtain ⟨n', hn', q⟩ := paired_ix' h (List.getElem?_eq_some_iff.mpr ⟨hj, e⟩)
    exact Nat.le_trans (h2 n' (List.mem_of_getElem? hn')) (q.2 x hx)
theorem next_uniq {l : List Actor} {n n' : Nat} (h : Next l n) (h' : Next l n') : n = n' := by
  obtain ⟨a, ha, q⟩ := h.mem
  obtain ⟨a', ha', q'⟩ := h'.mem
  exact Nat.le_antisymm (h.le a' ha' n' q') (h'.le a ha n q)
theorem least_of {l : List Actor} {ns : List Nat} {m : Int} (h : Paired IsMin ns l) (hm : m ∈ ns.map fun n : Nat => (n : Int)) (hmin : ∀ y ∈ ns.map (fun n : Nat => (n : Int)), m ≤ y) : ∃ n : Nat, m = (n : Int) ∧ Next l n := by
  obtain ⟨n, hn, rfl⟩ := List.mem_map.mp hm
  have hl : l ≠ [] := fun z => by
    have := Paired.length h
    rw [z] at this
    rw [List.length_eq_zero_iff.mp this] at hn
    cases hn
  obtain ⟨n', h1, h2, h3⟩ := next_least h hl
  have : n = n' := Nat.le_antisymm (Int.ofNat_le.mp (hmin _ (List.mem_map.mpr ⟨n', h1, rfl⟩))) (h2 n hn)
  exact ⟨n, rfl, this ▸ h3⟩
theorem least_lid {l : List Actor} {ns : List Nat} {r : Nat} {m : Int} (h : Paired IsMin ns l) (hm : m ∈ (r : Int) :: ns.map fun n : Nat => (n : Int)) (hmin : ∀ y ∈ (r : Int) :: ns.map (fun n : Nat => (n : Int)), m ≤ y) :
    ∃ k : Nat, m = (k : Int) ∧ (l = [] → k = r) ∧ (l ≠ [] → ∃ n, Next l n ∧ k = min n r) := by
  have hr : m ≤ (r : Int) := hmin _ List.mem_cons_self
  have key : ∃ k : Nat, m = (k : Int) ∧ (k = r ∨ k ∈ ns) := by
    rcases (List.mem_cons.mp hm) with rfl | hm
    · exact ⟨r, rfl, .inl rfl⟩
    · obtain ⟨n, hn, rfl⟩ := List.mem_map.mp hm
      exact ⟨n, rfl, .inr hn⟩
  obtain ⟨k, rfl, hk⟩ := key
  refine ⟨k, rfl, fun z => ?_, fun hl => ?_⟩
  · have := Paired.length h
    rw [z] at this
    rw [List.length_eq_zero_iff.mp this] at hk
    rcases hk with hk | hk
    · exact hk
    · cases hk
  · obtain ⟨n, h1, h2, h3⟩ := next_least h hl
    have hn : k ≤ n := Int.ofNat_le.mp (hmin _ (List.mem_cons_of_mem _ (List.mem_map.mpr ⟨n, h1, rfl⟩)))
    have hr : k ≤ r := Int.ofNat_le.mp hr
    refine ⟨n, h3, ?_⟩
    rcases hk with hk | hk
    · omega
    · have := h2 k hk
      omega

/-- the state with these actors, so many ticks later -/
abbrev later (st : State) (l : List Actor) (went : Nat) : State := { st with actors := l, now := st.now + went }
theorem leap_later (st : State) (l : List Actor) (went k : Nat) : leap k (later st l went) = later st (l.map (passed k)) (went + k) := by
  show ({ now := st.now + went + k, given := st.given, actors := l.map (passed k) } : State) = { now := st.now + (went + k), given := st.given, actors := l.map (passed k) }
  rw [Nat.add_assoc]
section
variable {P : Program} {w : World} {K : PySem.W.Frag} {mg : Str → Option Value} {base : Heap} {CA CC Pt : Addr}
/-! ### Crowd.pass_ticks -/
inductive PPass (CA CC Pt : Addr) (vs : List V) (H : Hp) (Q : VK) : Prop
  | mk (L : Lay) (st : State) (B : Int) (most : Nat) (h0 : vs = [.ref L.c, .int most]) (h1 : CrowdAt CA CC H L st) (h2 : TabIn Pt H) (h3 : Wf B st) (h4 : ∀ (H' : Hp) (L' : Lay), CrowdAt CA CC H' L' (later st (runs most st.actors).1 (runs most st.actors).2) → Wf B (later st (runs most st.actors).1 (runs most st.actors).2) → Mv Pt H L H' L' → Q (.int (runs most st.actors).2) H') : PPass CA CC Pt vs H Q
def spPass (CA CC Pt : Addr) : Sp := fun vs H Q _ => PPass CA CC Pt vs H Q
theorem scPass : FnScope ["self", "most", "went", "span"] ["self", "most"] (defScope d_Crowd_pass_ticks) := ⟨rfl, rfl, rfl, by decide +kernel, rfl, by decide +kernel, by decide +kernel⟩
inductive PassInv (CA CC Pt : Addr) (H0 : Hp) (L0 : Lay) (st : State) (B : Int) (most m : Nat) (σ : L2.St) (H : Hp) : Prop
  | mk (v : Option V) (L : Lay) (l : List Actor) (went : Nat) (h0 : m = most - went) (h1 : σ = [some (.ref L.c), some (.int most), some (.int went), v]) (h2 : CrowdAt CA CC H L (later st l went)) (h3 : Wf B (later st l went)) (h4 : Mv Pt H0 L0 H L) (h5 : LoopInv most st.actors went l) : PassInv CA CC Pt H0 L0 st B most m σ H
theorem ok_pass {f fT fS fG : Addr} {fd fdT fdS fdG : FuncData} (F : Fun K "pass_ticks" "Crowd.pass_ticks" d_Crowd_pass_ticks f fd) (T : TxtC K mg CA CC)
    (GT : FnOk P w K mg base CX0 6 fT fdT ["self"] (spTurn CA CC Pt)) (mT : Meth K CC "turn" fT) (bT : Binds K fdT ["self"] [])
    (GS : FnOk P w K mg base CX0 3 fS fdS ["self"] (spSpans CA CC)) (mS : Meth K CC "steady_spans" fS) (bS : Binds K fdS ["self"] [])
    (GG : FnOk P w K mg base CX0 3 fG fdG ["self", "ticks"] (spGo CA CC Pt)) (mG : Meth K CC "go_by" fG) (bG : Binds K fdG ["self", "ticks"] []) :
    FnOk P w K mg base CX0 7 f fd ["self", "most"] (spPass CA CC Pt) := by
  refine F.ok scPass (fun vs H Q E h => ?_) (fun cdv A outer s H vs Q E hr h => ?_)
  · obtain ⟨L, st, B, most, rfl, _⟩ := h
    rfl
  · obtain ⟨L0, st, B, most, rfl, hC0, hT0, hW0, k⟩ := h
    have hr3 : Room 3 _ := hr.mono (show 3 ≤ 6 by decide)
    refine ⟨_, pss_cons (ps_set (i := 2) scPass.nd rfl (Or.inl rfl) pe_int)
      (pss_cons (ps_while PassesOwn.never (PW.pt (pw_and (pt_cmpR op_lt (pv 2) (pv 1) (nomark _)) (pw_and1 (pt_cmpR op_eq (pe_meth0 (pv 0) T.clC mT GT hr bT .nil pass0) pe_int (nomark _)))))
        (pss_cons (ps_set (i := 3) scPass.nd rfl (Or.inl rfl) (pe_callB (cr_min rfl) rfl T.min boot_min (pa_cons (pe_op op_cat (pe_lst (pa_cons (pe_op op_sub (pv 1) (pv 2)) pa_nil)) (pe_meth0 (pv 0) T.clC mS GS hr3 bS .nil pass0)) pa_nil)))
        (pss_cons (ps_expr (pe_meth (pv 0) T.clC mG GG hr3 bG .nil pass0 (pa_cons (pv 3) pa_nil)))
        (pss_one (ps_aug (i := 2) scPass.nd rfl (Or.inl rfl) (pv 3) ip_add)))))
      (pss_one (ps_ret (pv 2)))), ?_⟩
    refine ⟨PassInv CA CC Pt H L0 st B most, ⟨_, none, L0, st.actors, 0, rfl, rfl, hC0, hW0, Mv.same hT0 (fun _ _ e => e), loop_start _ _⟩, ?_⟩
    rintro m σ H' ⟨v, L, l, went, rfl, rfl, hC, hW, mv, hI⟩
    have fin : ∀ (H2 : Hp), CrowdAt CA CC H2 L (later st l went) → Mv Pt H L0 H2 L → most ≤ went ∨ l.any ready = true → Q (.int went) H2 := fun H2 hC2 mv2 hx => by
      have hx := loop_exit hI hx
      have kk := k H2 L
      rw [hx] at kk
      exact kk hC2 hW mv2
    refine ⟨_, rfl, _, rfl, _, _, rfl, rfl, _, rfl, ite2 (fun hc => ?_) (fun hc => ?_)⟩
    · have hc : went < most := Int.ofNat_lt.mp (of_decide_eq_true hc)
      refine ⟨_, rfl, L.c, L.dc, _, rfl, hC.ins, rfl, L, _, rfl, hC, mv.tab, hW.few, hW.nd, fun H1 sT => ?_⟩
      have hC1 : CrowdAt CA CC H1 L (later st l went) := hC.smT mv.tab sT
      have mv1 := mv.thenT sT
      refine ⟨rfl, _, rfl, ite2 (fun hz => ?_) (fun hz => ?_)⟩
      · have hz : turnOf l = 0 := by
          have := of_decide_eq_true hz
          injection this
        have hnr : l.any ready = false := (turn_zero hW.pos).mp hz
        refine ⟨fun σ' H' => ∃ m', m' < most - went ∧ PassInv CA CC Pt H L0 st B most m' σ' H', fun _ _ h => h, ?_⟩
        refine ⟨_, rfl, _, rfl, _, _, rfl, rfl, (by show 1 ≤ sizeLine; decide), fun x hx => ?_⟩
        have hC2 := hC1.same (Same.upd (o := .lst [V.int ((most : Int) - (went : Int))]) hx)
        refine ⟨_, rfl, L.c, L.dc, _, rfl, hC2.ins, rfl, L, _, B, rfl, hC2, hW, not_ready hnr, fun H3 D ns sm3 hDn hD hmin => ?_⟩
        refine ⟨x, D, _, _, rfl, rfl, sm3 _ _ upd_same, hD, ?_, fun p hp => ?_⟩
        · rw [List.length_map, List.length_map, Paired.length hmin]
          have := hW.few
          exact Nat.le_of_lt (small1000 (show 1 + (later st l went).actors.length ≤ 1000 by omega))
        have e0 : ((most : Int) - (went : Int)) = ((most - went : Nat) : Int) := by omega
        refine ⟨p, ((most - went : Nat) : Int) :: ns.map (fun n : Nat => (n : Int)), rfl, SqL.of (by rw [upd_same]; show some (HO.lst (V.int ((most : Int) - (went : Int)) :: (ns.map fun n : Nat => (n : Int)).map V.int)) = _; rw [e0]; rfl), Nat.succ_pos _, fun m hm hmn => ?_⟩
        obtain ⟨j, rfl, hj1, hj2⟩ := least_lid hmin hm hmn
        have s4 : Same H1 (upd H3 p (.lst ([V.int ((most : Int) - (went : Int))] ++ (ns.map fun n : Nat => (n : Int)).map V.int))) := ((Same.upd hx).trans sm3).trans (Same.upd hp)
        have hC4 := hC1.same s4
        have mv4 := mv1.trans (Mv.same mv1.tab s4)
        refine ⟨_, rfl, L.c, L.dc, _, rfl, hC4.ins, rfl, _, rfl, L, _, j, rfl, hC4, mv4.tab, fun a ha => (hW.act a ha).few, fun H5 L5 hC5 mv5 => ?_⟩
        rw [leap_later] at hC5
        have hW5 := hW.leap j
        rw [leap_later] at hW5
        have hpos : 0 < j ∧ LoopInv most st.actors (went + j) (l.map (passed j)) := by
          by_cases hl : l = []
          · have := hj1 hl
            subst hl
            subst this
            refine ⟨by omega, ?_⟩
            have := loop_nil hI hc
            rw [show went + (most - went) = most by omega]
            exact this
          · obtain ⟨n, hn, rfl⟩ := hj2 hl
            refine ⟨?_, loop_step hI hc hnr hn⟩
            obtain ⟨a, ha, hx⟩ := hn.mem
            have := spans_pos (hW.act a ha) (not_ready hnr a ha) n hx
            omega
        refine ⟨_, rfl, _, rfl, _, _, rfl, rfl, most - (went + j), by omega, some (.int j), L5, l.map (passed j), went + j, rfl, ?_, hC5, hW5, mv4.trans mv5, hpos.2⟩
        show ([some (V.ref L.c), some (V.int (most : Int)), some (V.int ((went : Int) + (j : Int))), some (V.int (j : Int))] : L2.St) = _
        rw [← Int.natCast_add, mv5.c]
      · have hz : ¬ turnOf l = 0 := fun z => hz (decide_eq_true (by rw [z]))
        have hnr : l.any ready = true := by
          cases q : l.any ready with
          | true => rfl
          | false => exact absurd ((turn_zero hW.pos).mpr q) hz
        exact ⟨_, rfl, fin H1 hC1 mv1 (.inr hnr)⟩
    · have hc : ¬ went < most := fun z => hc (decide_eq_true (Int.ofNat_lt.mpr z))
      exact iteF ⟨_, rfl, fin H' hC mv (.inl (by omega))⟩
/-! ### Crowd.pass_until_ready -/
inductive PPassU (CA CC Pt : Addr) (vs : List V) (H : Hp) (Q : VK) : Prop
  | mk (L : Lay) (st : State) (B : Int) (h0 : vs = [.ref L.c]) (h1 : CrowdAt CA CC H L st) (h2 : TabIn Pt H) (h3 : Wf B st) (h4 : B ≤ 1000000000000) (h5 : st.actors ≠ []) (h6 : ∀ (H' : Hp) (L' : Lay), CrowdAt CA CC H' L' (later st (runs Vbrgac.LONG st.actors).1 (runs Vbrgac.LONG st.actors).2) → Wf B (later st (runs Vbrgac.LONG st.actors).1 (runs Vbrgac.LONG st.actors).2) → (runs Vbrgac.LONG st.actors).1.any ready = true → Mv Pt H L H' L' → Q (.int (runs Vbrgac.LONG st.actors).2) H') : PPassU CA CC Pt vs H Q
def spPassU (CA CC Pt : Addr) : Sp := fun vs H Q _ => PPassU CA CC Pt vs H Q
theorem scPassU : FnScope ["self", "went", "span"] ["self"] (defScope d_Crowd_pass_until_ready) := ⟨rfl, rfl, rfl, by decide +kernel, rfl, by decide +kernel, by decide +kernel⟩
inductive PassUInv (CA CC Pt : Addr) (H0 : Hp) (L0 : Lay) (st : State) (B : Int) (a0 : Actor) (m : Nat) (σ : L2.St) (H : Hp) : Prop
  | mk (v : Option V) (L : Lay) (a : Actor) (r : List Actor) (went : Nat) (h0 : m = pot a) (h1 : went + pot a ≤ pot a0) (h2 : σ = [some (.ref L.c), some (.int went), v]) (h3 : CrowdAt CA CC H L (later st (a :: r) went)) (h4 : Wf B (later st (a :: r) went)) (h5 : Mv Pt H0 L0 H L) (h6 : LoopInv Vbrgac.LONG st.actors went (a :: r)) : PassUInv CA CC Pt H0 L0 st B a0 m σ H
theorem ok_passU {f fT fS fG : Addr} {fd fdT fdS fdG : FuncData} (F : Fun K "pass_until_ready" "Crowd.pass_until_ready" d_Crowd_pass_until_ready f fd) (T : TxtC K mg CA CC)
    (GT : FnOk P w K mg base CX0 6 fT fdT ["self"] (spTurn CA CC Pt)) (mT : Meth K CC "turn" fT) (bT : Binds K fdT ["self"] [])
    (GS : FnOk P w K mg base CX0 3 fS fdS ["self"] (spSpans CA CC)) (mS : Meth K CC "steady_spans" fS) (bS : Binds K fdS ["self"] [])
    (GG : FnOk P w K mg base CX0 3 fG fdG ["self", "ticks"] (spGo CA CC Pt)) (mG : Meth K CC "go_by" fG) (bG : Binds K fdG ["self", "ticks"] []) :
    FnOk P w K mg base CX0 7 f fd ["self"] (spPassU CA CC Pt) := by
  refine F.ok scPassU (fun vs H Q E h => ?_) (fun cdv A outer s H vs Q E hr h => ?_)
  · obtain ⟨L, st, B, rfl, _⟩ := h
    rfl
  · obtain ⟨L0, st, B, rfl, hC0, hT0, hW0, hB, hne, k⟩ := h
    have hr3 : Room 3 _ := hr.mono (show 3 ≤ 6 by decide)
    refine ⟨_, pss_cons (ps_set (i := 1) scPassU.nd rfl (Or.inl rfl) pe_int)
      (pss_cons (ps_while PassesOwn.never (pt_cmpR op_eq (pe_meth0 (pv 0) T.clC mT GT hr bT .nil pass0) pe_int (nomark _))
        (pss_cons (ps_set (i := 2) scPassU.nd rfl (Or.inl rfl) (pe_callB (cr_min rfl) rfl T.min boot_min (pa_cons (pe_meth0 (pv 0) T.clC mS GS hr3 bS .nil pass0) pa_nil)))
        (pss_cons (ps_expr (pe_meth (pv 0) T.clC mG GG hr3 bG .nil pass0 (pa_cons (pv 2) pa_nil)))
        (pss_one (ps_aug (i := 1) scPassU.nd rfl (Or.inl rfl) (pv 2) ip_add)))))
      (pss_one (ps_ret (pv 1)))), ?_⟩
    obtain ⟨a0, r0, e0⟩ : ∃ a r, st.actors = a :: r := by
      cases z : st.actors with
      | nil => exact absurd z hne
      | cons a r => exact ⟨a, r, rfl⟩
    have hW00 : Wf B (later st (a0 :: r0) 0) := by rw [← e0]; exact hW0
    have hC00 : CrowdAt CA CC H L0 (later st (a0 :: r0) 0) := by rw [← e0]; exact hC0
    have hI00 : LoopInv Vbrgac.LONG st.actors 0 (a0 :: r0) := by rw [← e0]; exact loop_start _ _
    refine ⟨PassUInv CA CC Pt H L0 st B a0, ⟨_, none, L0, a0, r0, 0, rfl, by omega, rfl, hC00, hW00, Mv.same hT0 (fun _ _ e => e), hI00⟩, ?_⟩
    have hp0 := pot_le (hW00.act a0 List.mem_cons_self)
    rintro m σ H' ⟨v, L, a, r, went, rfl, hpot, rfl, hC, hW, mv, hI⟩
    refine ⟨_, rfl, L.c, L.dc, _, rfl, hC.ins, rfl, L, _, rfl, hC, mv.tab, hW.few, hW.nd, fun H1 sT => ?_⟩
    have hC1 : CrowdAt CA CC H1 L (later st (a :: r) went) := hC.smT mv.tab sT
    have mv1 := mv.thenT sT
    refine ⟨rfl, _, rfl, ite2 (fun hz => ?_) (fun hz => ?_)⟩
    · have hz : turnOf (a :: r) = 0 := by
        have := of_decide_eq_true hz
        injection this
      have hnr : (a :: r).any ready = false := (turn_zero hW.pos).mp hz
      refine ⟨fun σ' H' => ∃ m', m' < pot a ∧ PassUInv CA CC Pt H L0 st B a0 m' σ' H', fun _ _ h => h, ?_⟩
      refine ⟨_, rfl, L.c, L.dc, _, rfl, hC1.ins, rfl, L, _, B, rfl, hC1, hW, not_ready hnr, fun H3 D ns sm3 hDn hD hmin => ?_⟩
      refine ⟨D, ns.map (fun n : Nat => (n : Int)), rfl, SqL.of hD, ?_, fun m hm hmn => ?_⟩
      · rw [List.length_map, Paired.length hmin]
        exact Nat.succ_pos _
      obtain ⟨j, rfl, hj⟩ := least_of hmin hm hmn
      have hC4 := hC1.same sm3
      have mv4 := mv1.trans (Mv.same mv1.tab sm3)
      refine ⟨_, rfl, L.c, L.dc, _, rfl, hC4.ins, rfl, _, rfl, L, _, j, rfl, hC4, mv4.tab, fun a ha => (hW.act a ha).few, fun H5 L5 hC5 mv5 => ?_⟩
      rw [leap_later] at hC5
      have hW5 := hW.leap j
      rw [leap_later] at hW5
      have wa := hW.act a List.mem_cons_self
      have hen := not_ready hnr a List.mem_cons_self
      have hstep := pot_step wa hen (hj.le a List.mem_cons_self)
      have hpos : 0 < j := by
        obtain ⟨b, hb, hx⟩ := hj.mem
        exact spans_pos (hW.act b hb) (not_ready hnr b hb) j hx
      have hlong : (Vbrgac.LONG : Int) = 1000000000000000 := rfl
      have hfit : j ≤ Vbrgac.LONG - went := by omega
      have hI2 := loop_step hI (by omega) hnr hj
      rw [Nat.min_eq_left hfit] at hI2
      refine ⟨_, rfl, _, rfl, _, _, rfl, rfl, pot (passed j a), by omega, some (.int j), L5, passed j a, r.map (passed j), went + j, rfl, by omega, ?_, hC5, hW5, mv4.trans mv5, hI2⟩
      show ([some (V.ref L.c), some (V.int ((went : Int) + (j : Int))), some (V.int (j : Int))] : L2.St) = _
      rw [← Int.natCast_add, mv5.c]
    · have hz : ¬ turnOf (a :: r) = 0 := fun z => hz (decide_eq_true (by rw [z]))
      have hnr : (a :: r).any ready = true := by
        cases q : (a :: r).any ready with
        | true => rfl
        | false => exact absurd ((turn_zero hW.pos).mpr q) hz
      have hx := loop_exit hI (.inr hnr)
      have kk := k H1 L
      rw [hx] at kk
      exact ⟨_, rfl, kk hC1 hW hnr mv1⟩
end
end My
end

section
set_option Elab.async false
set_option linter.all false
set_option maxRecDepth 100000
set_option maxHeartbeats 2000000
namespace My
open PySem PySem.Spec PyProof.Rows L2
open Vbrgac (Actor Effect speed ready passed leastOf until_ run rounds runs earlier put queue first change acted State)

section
variable {P : Program} {w : World} {K : PySem.W.Frag} {mg : Str → Option Value} {base : Heap} {CA CC Pt : Addr}
/-! ### Crowd.__init__ -/
inductive PInitC (CC : Addr) (vs : List V) (H : Hp) (Q : VK) : Prop
  | mk (c dc : Addr) (h0 : vs = [.ref c]) (h1 : H c = some (.ins CC dc [])) (h2 : ∀ (H' : Hp) (d : Addr), H d = none → H' c = some (.ins CC dc (cf 0 0 d)) → H' d = some (.dK []) → (∀ b o, H b = some o → b ≠ c → H' b = some o) → Q .non H') : PInitC CC vs H Q
def spInitC (CC : Addr) : Sp := fun vs H Q _ => PInitC CC vs H Q
theorem scInitC : FnScope ["self"] ["self"] (defScope d_Crowd_init) := ⟨rfl, rfl, rfl, by decide +kernel, rfl, by decide +kernel, by decide +kernel⟩
theorem ok_initC {f : Addr} {fd : FuncData} (F : Fun K "__init__" "Crowd.__init__" d_Crowd_init f fd) (T : TxtC K mg CA CC) : FnOk P w K mg base CX0 1 f fd ["self"] (spInitC CC) := by
  refine F.ok scInitC (fun vs H Q E h => ?_) (fun cdv A outer s H vs Q E hr h => ?_)
  · obtain ⟨c, dc, rfl, _⟩ := h
    rfl
  · obtain ⟨c, dc, rfl, hc, k⟩ := h
    refine ⟨_, pss_cons (ps_fld (pv 0) pe_int rfl) (pss_cons (ps_fld (pv 0) pe_int rfl) (pss_one (ps_fld (pv 0) pe_dnewK rfl))), ?_⟩
    refine ⟨_, rfl, c, CC, dc, _, rfl, hc, T.clC, T.nc "ticks", by show 0 < 1000; decide, ?_⟩
    refine ⟨_, rfl, c, CC, dc, _, rfl, upd_same, T.clC, T.nc "came", by show 1 < 1000; decide, ?_⟩
    intro d hd
    have ncd : c ≠ d := ne_of_none upd_same hd
    have hd0 : H d = none := by
      rw [upd_ne ncd.symm, upd_ne ncd.symm] at hd
      exact hd
    refine ⟨_, rfl, c, CC, dc, _, rfl, by rw [upd_ne ncd]; exact upd_same, T.clC, T.nc "actors", by show 2 < 1000; decide, ?_⟩
    refine k _ d hd0 upd_same (by rw [upd_ne ncd.symm, upd_same]) fun b o e nb => ?_
    rw [upd_ne nb, upd_ne (ne_of_none e hd0), upd_ne nb, upd_ne nb]
    exact e
/-! ### Crowd.welcome -/
theorem kvs_keys {CA : Addr} {H : Hp} {ps : List (Addr × Addr)} {l : List Actor} (h : ActsAt CA H ps l) : (kvsOf ps l).map (·.1) = l.map fun a => (Sum.inl (a.num : Int) : Key) := by
  unfold kvsOf
  rw [List.map_map]
  have e : ((fun x : Key × V => x.1) ∘ fun x : (Addr × Addr) × Actor => ((Sum.inl (x.2.num : Int) : Key), V.ref x.1.1)) = (fun a : Actor => (Sum.inl (a.num : Int) : Key)) ∘ (fun x : (Addr × Addr) × Actor => x.2) := rfl
  rw [e, ← List.map_map, List.map_snd_zip (by rw [h.length]; exact Nat.le_refl _)]
theorem kvs_none {CA : Addr} {H : Hp} {ps : List (Addr × Addr)} {l : List Actor} (h : ActsAt CA H ps l) {n : Nat} (hn : ∀ a ∈ l, a.num ≠ n) : valV (kvsOf ps l) (Sum.inl (n : Int)) = none := by
  cases e : valV (kvsOf ps l) (Sum.inl (n : Int)) with
  | none => rfl
  | some v =>
    have m := valV_in e
    rw [kvs_keys h] at m
    obtain ⟨a, ha, q⟩ := List.mem_map.mp m
    exact absurd (Int.ofNat.inj (Sum.inl.inj q)) (hn a ha)
theorem paired_append {α β : Type} {F : α → β → Prop} : ∀ {l l' : List α} {m m' : List β}, Paired F l m → Paired F l' m' → Paired F (l ++ l') (m ++ m')
  | _, _, _, _, .nil, q => q
  | _, _, _, _, .cons a r, q => .cons a (paired_append r q)
theorem kvs_snoc {ps : List (Addr × Addr)} {l : List Actor} (h : ps.length = l.length) (p : Addr × Addr) (a : Actor) : kvsOf (ps ++ [p]) (l ++ [a]) = kvsOf ps l ++ [(Sum.inl (a.num : Int), V.ref p.1)] := by
  unfold kvsOf
  rw [List.zip_append h, List.map_append]
  rfl
theorem ActsAt.snoc {CA : Addr} {H : Hp} {ps : List (Addr × Addr)} {l : List Actor} (h : ActsAt CA H ps l) {p le : Addr} {a : Actor} (hA : ActorAt CA H p a le) (n1 : p ∉ ps.map (·.1)) (n2 : le ∉ ps.map (·.2)) : ActsAt CA H (ps ++ [(p, le)]) (l ++ [a]) := by
  refine ⟨Paired.snoc h.act hA, ?_, ?_⟩
  · rw [List.map_append]
    exact nd_snoc h.ndp n1
  · rw [List.map_append]
    exact nd_snoc h.ndl n2
theorem acts_some {CA : Addr} {H : Hp} {ps : List (Addr × Addr)} {l : List Actor} (h : ActsAt CA H ps l) {b : Addr} (hb : H b = none) : b ∉ ps.map (·.1) ∧ b ∉ ps.map (·.2) := by
  refine ⟨fun m => ?_, fun m => ?_⟩
  · obtain ⟨pl, m', rfl⟩ := List.mem_map.mp m
    obtain ⟨j, hj, e⟩ := List.getElem_of_mem m'
    obtain ⟨a, _, ⟨dx, q⟩, _⟩ := paired_ix h.act (List.getElem?_eq_some_iff.mpr ⟨hj, e⟩)
    rw [hb] at q; cases q
  · obtain ⟨pl, m', rfl⟩ := List.mem_map.mp m
    obtain ⟨j, hj, e⟩ := List.getElem_of_mem m'
    obtain ⟨a, _, _, ts, q, _⟩ := paired_ix h.act (List.getElem?_eq_some_iff.mpr ⟨hj, e⟩)
    rw [hb] at q; cases q
inductive PWelcome (CA CC Pt : Addr) (vs : List V) (H : Hp) (Q : VK) : Prop
  | mk (L : Lay) (st : State) (v e : Int) (h0 : vs = [.ref L.c, .int v, .int e]) (h1 : CrowdAt CA CC H L st) (h2 : TabIn Pt H) (h3 : st.actors.length ≤ 16) (h4 : (∀ a ∈ st.actors, a.num ≤ st.given)) (h5 : ∀ (H' : Hp) (L' : Lay), CrowdAt CA CC H' L' { st with given := st.given + 1, actors := st.actors ++ [{ num := st.given + 1, base := v, energy := e }] } → Mv Pt H L H' L' → Q (.int (st.given + 1 : Nat)) H') : PWelcome CA CC Pt vs H Q
def spWelcome (CA CC Pt : Addr) : Sp := fun vs H Q _ => PWelcome CA CC Pt vs H Q
theorem scWelcome : FnScope ["self", "speed", "energy"] ["self", "speed", "energy"] (defScope d_Crowd_welcome) := ⟨rfl, rfl, rfl, by decide +kernel, rfl, by decide +kernel, by decide +kernel⟩
theorem ok_welcome {f fI : Addr} {fd fdI : FuncData} (F : Fun K "welcome" "Crowd.welcome" d_Crowd_welcome f fd) (T : TxtC K mg CA CC) (M : Mk K CA fI) (GI : FnOk P w K mg base CX0 1 fI fdI ["self", "number", "base", "energy"] (spInitA CA)) (bI : Binds K fdI ["self", "number", "base", "energy"] []) :
    FnOk P w K mg base CX0 3 f fd ["self", "speed", "energy"] (spWelcome CA CC Pt) := by
  refine F.ok scWelcome (fun vs H Q E h => ?_) (fun cdv A outer s H vs Q E hr h => ?_)
  · obtain ⟨L, st, v, e, rfl, _⟩ := h
    rfl
  · obtain ⟨L, st, v, en, rfl, hC, hT, h16, hnum, k⟩ := h
    have hcd : L.c ≠ L.d := ne_of hC.ins hC.dic (by intro z; cases z)
    refine ⟨_, pss_cons (ps_fldaug (pv 0) pe_int in_add)
      (pss_cons (ps_dput (hu_of hr) (pe_fld (pv 0) rfl) (pe_fld (pv 0) rfl) (pe_make M GI hr rfl T.mgA bI .nil pass0 (pa_cons (pe_fld (pv 0) rfl) (pa_cons (pv 1) (pa_cons (pv 2) pa_nil)))) rfl)
      (pss_one (ps_ret (pe_fld (pv 0) rfl)))), ?_⟩
    refine ⟨_, rfl, L.c, CC, L.dc, _, _, rfl, hC.ins, T.clC, T.nc "came", rfl, _, _, rfl, rfl, L.dc, _, hC.ins, by show 3 < 1000; decide, ?_⟩
    generalize hH1 : upd H L.c _ = H1
    have hc1 : H1 L.c = some (.ins CC L.dc (cf st.now (st.given + 1) L.d)) := by
      rw [← hH1, upd_same]
      rfl
    have k1 : ∀ b o, H b = some o → b ≠ L.c → H1 b = some o := fun b o e nb => by rw [← hH1, upd_ne nb]; exact e
    have old1 : ∀ b, H1 b = none → H b = none := fun b hb => by
      by_cases z : b = L.c
      · rw [z, hc1] at hb; cases hb
      · rw [← hH1, upd_ne z] at hb; exact hb
    have hd1 : H1 L.d = some (.dK (kvsOf L.ps st.actors)) := k1 _ _ hC.dic hcd.symm
    have a1 : ActsAt CA H1 L.ps st.actors := hC.acts.frame fun b o e w => k1 b o e (by
      rcases w with ⟨⟨dx, a, le, rfl⟩, _⟩ | ⟨⟨xs, rfl⟩, _⟩ | ⟨xs, rfl⟩
      · exact ne_of e hC.ins (fun z => cf_af z.symm)
      · exact ne_of e hC.ins (by intro z; cases z)
      · exact ne_of e hC.ins (by intro z; cases z))
    refine ⟨_, rfl, L.c, CC, L.dc, _, _, rfl, hc1, T.clC, T.nc "came", rfl, _, rfl, _, rfl, ?_⟩
    intro x dx nx ndx nex
    refine ⟨x, dx, st.given + 1, v, en, rfl, upd_same, fun H2 le hle hA k2 => ⟨rfl, ?_⟩⟩
    have s2 : Same H1 H2 := Same.made nx ndx k2
    have hle1 : H1 le = none := by
      cases q : H1 le with
      | none => rfl
      | some o =>
        rw [upd_ne (ne_of_none q nx), upd_ne (ne_of_none q ndx), q] at hle
        cases hle
    have hc2 := s2 _ _ hc1
    have hd2 := s2 _ _ hd1
    have a2 := a1.same s2
    refine ⟨_, rfl, L.c, CC, L.dc, _, _, rfl, hc2, T.clC, T.nc "actors", rfl, _, rfl, L.c, CC, L.dc, _, _, rfl, hc2, T.clC, T.nc "came", rfl, ?_⟩
    have hkv : valV (kvsOf L.ps st.actors) (Sum.inl ((st.given + 1 : Nat) : Int)) = none := kvs_none hC.acts fun a ha z => by
      have := hnum a ha
      omega
    refine ⟨L.d, _, rfl, DPut.k (k := Sum.inl ((st.given + 1 : Nat) : Int)) hd2 (by rw [kvs_len hC.acts]; exact small1000 (by omega)), ?_⟩
    rw [putK_new _ hkv]
    have nd : ∀ b o, H2 b = some o → o ≠ .dK (kvsOf L.ps st.actors) → (upd H2 L.d (.dK (kvsOf L.ps st.actors ++ [(Sum.inl ((st.given + 1 : Nat) : Int), V.ref x)]))) b = some o := fun b o e n => by
      rw [upd_ne (ne_of e hd2 n)]; exact e
    have hc3 := nd _ _ hc2 (by intro z; cases z)
    refine ⟨_, rfl, L.c, CC, L.dc, _, _, rfl, hc3, T.clC, T.nc "came", rfl, ?_⟩
    have nx1 := acts_some a1 nx
    have nl1 := acts_some a1 hle1
    refine k _ ⟨L.c, L.dc, L.d, L.ps ++ [(x, le)]⟩ ⟨hc3, ?_, ?_⟩ ⟨fun b o e n1 n2 => ?_, fun b hb => ?_, rfl, tab_keep hT fun b o e w => ?_, fun b hb => ?_⟩
    · show (upd _ _ _) L.d = some (.dK (kvsOf (L.ps ++ [(x, le)]) (st.actors ++ [_])))
      rw [upd_same, kvs_snoc hC.acts.length]
    · exact (a2.snoc hA nx1.1 nl1.2).frame fun b o e w => nd b o e (by
        rcases w with ⟨⟨dx, a, le, rfl⟩, _⟩ | ⟨⟨xs, rfl⟩, _⟩ | ⟨xs, rfl⟩
        · intro z; cases z
        · intro z; cases z
        · intro z; cases z)
    · rw [upd_ne (fun z => n1 (mem_foot.mpr (.inr (.inl z))))]
      exact s2 _ _ (k1 _ _ e fun z => n1 (mem_foot.mpr (.inl z)))
    · rcases mem_foot.mp hb with z | z | z | z
      · exact .inl (mem_foot.mpr (.inl z))
      · exact .inl (mem_foot.mpr (.inr (.inl z)))
      · have z : b ∈ (L.ps ++ [(x, le)]).map (·.1) := z
        rw [List.map_append] at z
        rcases List.mem_append.mp z with z | z
        · exact .inl (mem_foot.mpr (.inr (.inr (.inl z))))
        · have : b = x := List.mem_singleton.mp z
          exact .inr (this ▸ old1 _ nx)
      · have z : b ∈ (L.ps ++ [(x, le)]).map (·.2) := z
        rw [List.map_append] at z
        rcases List.mem_append.mp z with z | z
        · exact .inl (mem_foot.mpr (.inr (.inr (.inr z))))
        · have : b = le := List.mem_singleton.mp z
          exact .inr (this ▸ old1 _ hle1)
    · have nf := foot_tab hC e w
      rw [upd_ne (fun z => nf (mem_foot.mpr (.inr (.inl z))))]
      exact s2 _ _ (k1 _ _ e fun z => nf (mem_foot.mpr (.inl z)))
    · refine old1 b (s2.free ?_)
      have n2 : b ≠ L.d := fun z => by rw [z, upd_same] at hb; cases hb
      rw [upd_ne n2] at hb
      exact hb
/-! ### Crowd.dismiss -/
/-- those that stay -/
def stay (n : Nat) (ps : List (Addr × Addr)) (l : List Actor) : List (Addr × Addr) := ((ps.zip l).filter fun x => x.2.num != n).map (·.1)
theorem stay_cons_in {n : Nat} {p : Addr × Addr} {a : Actor} {ps : List (Addr × Addr)} {l : List Actor} (h : a.num ≠ n) : stay n (p :: ps) (a :: l) = p :: stay n ps l := by
  unfold stay
  rw [List.zip_cons_cons, List.filter_cons, if_pos (by simpa using h), List.map_cons]
theorem stay_cons_out {n : Nat} {p : Addr × Addr} {a : Actor} {ps : List (Addr × Addr)} {l : List Actor} (h : a.num = n) : stay n (p :: ps) (a :: l) = stay n ps l := by
  unfold stay
  rw [List.zip_cons_cons, List.filter_cons, if_neg (by simpa using h)]
theorem fil_in {n : Nat} {a : Actor} {l : List Actor} (h : a.num ≠ n) : (a :: l).filter (fun a => a.num != n) = a :: l.filter fun a => a.num != n := by rw [List.filter_cons, if_pos (by simpa using h)]
theorem fil_out {n : Nat} {a : Actor} {l : List Actor} (h : a.num = n) : (a :: l).filter (fun a => a.num != n) = l.filter fun a => a.num != n := by rw [List.filter_cons, if_neg (by simpa using h)]
theorem stay_sub {n : Nat} {ps : List (Addr × Addr)} {l : List Actor} : (stay n ps l).Sublist ps := by
  unfold stay
  refine ((List.filter_sublist (l := ps.zip l)).map _).trans ?_
  induction ps generalizing l with
  | nil => simp
  | cons p ps ih =>
    cases l with
    | nil => simp
    | cons a l =>
      rw [List.zip_cons_cons, List.map_cons]
      exact (ih (l := l)).cons₂ p
theorem stay_pair {F : Addr × Addr → Actor → Prop} {n : Nat} : ∀ {ps : List (Addr × Addr)} {l : List Actor}, Paired F ps l → Paired F (stay n ps l) (l.filter fun a => a.num != n)
  | _, _, .nil => .nil
  | _, _, .cons (a := p) (b := a) q r => by
    by_cases h : a.num = n
    · rw [stay_cons_out h, fil_out h]
      exact stay_pair r
    · rw [stay_cons_in h, fil_in h]
      exact .cons q (stay_pair r)
theorem stay_kvs {F : Addr × Addr → Actor → Prop} {n : Nat} : ∀ {ps : List (Addr × Addr)} {l : List Actor}, Paired F ps l → dropK (kvsOf ps l) (Sum.inl (n : Int)) = kvsOf (stay n ps l) (l.filter fun a => a.num != n)
  | _, _, .nil => rfl
  | p :: ps, a :: l, .cons q r => by
    have ih := stay_kvs (n := n) r
    by_cases h : a.num = n
    · rw [stay_cons_out h, fil_out h, ← ih]
      exact dropK_pos (p := (Sum.inl (a.num : Int), V.ref p.1)) (by rw [h])
    · rw [stay_cons_in h, fil_in h]
      show dropK ((Sum.inl (a.num : Int), V.ref p.1) :: kvsOf ps l) (Sum.inl (n : Int)) = (Sum.inl (a.num : Int), V.ref p.1) :: kvsOf (stay n ps l) (l.filter fun a => a.num != n)
      rw [← ih]
      exact dropK_neg (fun z => h (Int.ofNat.inj (Sum.inl.inj z)))
/-- the dict's item of an actor -/
theorem kvs_get {CA : Addr} {H : Hp} {ps : List (Addr × Addr)} {l : List Actor} (h : ActsAt CA H ps l) (hn : (l.map fun a => a.num).Nodup) {i : Nat} {p le : Addr} {a : Actor} (hi : ps[i]? = some (p, le)) (ha : l[i]? = some a) : valV (kvsOf ps l) (Sum.inl (a.num : Int)) = some (V.ref p) := by
  have hp := h.act
  clear h
  induction hp generalizing i with
  | nil => simp at hi
  | @cons q b ps l r t ih =>
    rw [List.map_cons] at hn
    obtain ⟨n1, n2⟩ := List.nodup_cons.mp hn
    cases i with
    | zero =>
      have e1 : q = (p, le) := Option.some.inj hi
      have e2 : b = a := Option.some.inj ha
      subst e1 e2
      exact valV_pos (p := (Sum.inl (b.num : Int), V.ref p)) rfl
    | succ i =>
      have hi : ps[i]? = some (p, le) := hi
      have ha : l[i]? = some a := ha
      refine (valV_neg (p := (Sum.inl (b.num : Int), V.ref q.1)) (r := kvsOf ps l) (fun z => ?_)).trans (ih n2 hi ha)
      have : b.num = a.num := Int.ofNat.inj (Sum.inl.inj z)
      exact n1 (List.mem_map.mpr ⟨a, List.mem_of_getElem? ha, this.symm⟩)
inductive PDismiss (CA CC Pt : Addr) (vs : List V) (H : Hp) (Q : VK) : Prop
  | mk (L : Lay) (st : State) (n i : Nat) (p le : Addr) (a : Actor) (h0 : vs = [.ref L.c, .int n]) (h1 : CrowdAt CA CC H L st) (h2 : TabIn Pt H) (h3 : (st.actors.map fun a => a.num).Nodup) (h4 : L.ps[i]? = some (p, le)) (h5 : st.actors[i]? = some a) (h6 : a.num = n) (h7 : ∀ (H' : Hp) (L' : Lay), CrowdAt CA CC H' L' { st with actors := st.actors.filter fun a => a.num != n } → Mv Pt H L H' L' → Q .non H') : PDismiss CA CC Pt vs H Q
def spDismiss (CA CC Pt : Addr) : Sp := fun vs H Q _ => PDismiss CA CC Pt vs H Q
theorem scDismiss : FnScope ["self", "number"] ["self", "number"] (defScope d_Crowd_dismiss) := ⟨rfl, rfl, rfl, by decide +kernel, rfl, by decide +kernel, by decide +kernel⟩
theorem ok_dismiss {f : Addr} {fd : FuncData} (F : Fun K "dismiss" "Crowd.dismiss" d_Crowd_dismiss f fd) (T : TxtC K mg CA CC) : FnOk P w K mg base CX0 1 f fd ["self", "number"] (spDismiss CA CC Pt) := by
  refine F.ok scDismiss (fun vs H Q E h => ?_) (fun cdv A outer s H vs Q E hr h => ?_)
  · obtain ⟨L, st, n, i, p, le, a, rfl, _⟩ := h
    rfl
  · obtain ⟨L, st, n, i, p, le, a, rfl, hC, hT, hn, hi, ha, rfl, k⟩ := h
    have hcd : L.c ≠ L.d := ne_of hC.ins hC.dic (by intro z; cases z)
    refine ⟨_, pss_one (ps_expr (pe_dpop1 (pe_fld (pv 0) rfl) (pv 1) ⟨rfl, rfl, rfl, rfl⟩)), ?_⟩
    refine ⟨_, rfl, L.c, CC, L.dc, _, _, rfl, hC.ins, T.clC, T.nc "actors", rfl, L.d, rfl, .inl ⟨_, .inl hC.dic⟩, _, rfl, _, Sum.inl (a.num : Int), _, hC.dic, rfl, kvs_get hC.acts hn hi ha, ?_⟩
    rw [stay_kvs hC.acts.act]
    generalize hH1 : upd H L.d _ = H1
    have hd1 : H1 L.d = some (.dK (kvsOf (stay a.num L.ps st.actors) (st.actors.filter fun b => b.num != a.num))) := by rw [← hH1, upd_same]
    have k1 : ∀ b o, H b = some o → b ≠ L.d → H1 b = some o := fun b o e nb => by rw [← hH1, upd_ne nb]; exact e
    have sb1 := (stay_sub (n := a.num) (ps := L.ps) (l := st.actors)).map (·.1)
    have sb2 := (stay_sub (n := a.num) (ps := L.ps) (l := st.actors)).map (·.2)
    have as : ActsAt CA H (stay a.num L.ps st.actors) (st.actors.filter fun b => b.num != a.num) := ⟨stay_pair hC.acts.act, hC.acts.ndp.sublist sb1, hC.acts.ndl.sublist sb2⟩
    refine k H1 ⟨L.c, L.dc, L.d, stay a.num L.ps st.actors⟩ ⟨k1 _ _ hC.ins hcd, hd1, as.frame fun b o e w => k1 b o e ?_⟩ ⟨fun b o e n1 n2 => ?_, fun b hb => ?_, rfl, tab_keep hT fun b o e w => ?_, fun b hb => ?_⟩
    · rcases w with ⟨⟨dx, a, le, rfl⟩, _⟩ | ⟨⟨xs, rfl⟩, _⟩ | ⟨xs, rfl⟩
      · exact ne_of e hC.dic (by intro z; cases z)
      · exact ne_of e hC.dic (by intro z; cases z)
      · exact ne_of e hC.dic (by intro z; cases z)
    · exact k1 _ _ e fun z => n1 (mem_foot.mpr (.inr (.inl z)))
    · left
      rcases mem_foot.mp hb with z | z | z | z
      · exact mem_foot.mpr (.inl z)
      · exact mem_foot.mpr (.inr (.inl z))
      · exact mem_foot.mpr (.inr (.inr (.inl (sb1.subset z))))
      · exact mem_foot.mpr (.inr (.inr (.inr (sb2.subset z))))
    · exact k1 _ _ e fun z => foot_tab hC e w (mem_foot.mpr (.inr (.inl z)))
    · have n2 : b ≠ L.d := fun z => by rw [z, hd1] at hb; cases hb
      rw [← hH1, upd_ne n2] at hb
      exact hb
end
end My
end

section
set_option Elab.async false
set_option linter.all false
set_option maxRecDepth 100000
set_option maxHeartbeats 2000000
namespace L2
open PySem PySem.Spec PyProof.Rows
theorem lc_items {d : Addr} {o : Obj} {kvs : List (Key × V)} {g : TG} {tt : TT} {te : TE} {vs : List Nat} {σ : St} {H1 : Hp} {D : Addr} {Qd : Hp → Prop} (Pv : Nat → Hp → Prop) (h0 : Pv 0 (upd H1 D (.lst []))) (hl : ∀ i H, i ≤ kvs.length → Pv i H → H d = some (.frz o (.dK kvs)))
    (hs : ∀ i k x T H, kvs[i]? = some (k, x) → Pv i H → H T = none → g (.ref T) (wipe σ vs) (upd H T (.tup [kV k, x])) fun σ2 H2 => wipe σ2 vs = wipe σ vs ∧ tt σ2 H2 fun b H3 =>
      if b = true then te σ2 H3 fun y H4 => ∃ acc, H4 D = some (.lst acc) ∧ acc.length < sizeLine ∧ Pv (i + 1) (upd H4 D (.lst (acc ++ [y]))) else Pv (i + 1) H3) (hd : ∀ H, Pv kvs.length H → Qd H) :
    ∃ W : Nat → Nat → Hp → Prop, (∃ m, W 0 m (upd H1 D (.lst []))) ∧ ∀ i m H, W i m H →
      ((Iti d o kvs).stop i H ∧ Qd H) ∨ ((Iti d o kvs).go i H ∧ ∃ Nx : Hp → Prop, (∀ H', Nx H' → ∃ m', m' < m ∧ W (i + 1) m' H') ∧ ∀ x H', (Iti d o kvs).yld i H x H' → g x (wipe σ vs) H' fun σ2 H2 => wipe σ2 vs = wipe σ vs ∧ tt σ2 H2 fun b H3 =>
        if b = true then te σ2 H3 fun y H4 => ∃ acc, H4 D = some (.lst acc) ∧ acc.length < sizeLine ∧ Nx (upd H4 D (.lst (acc ++ [y]))) else Nx H3) := by
  refine ⟨fun i m H => m = kvs.length - i ∧ i ≤ kvs.length ∧ Pv i H, ⟨kvs.length, by simp, Nat.zero_le _, h0⟩, ?_⟩
  rintro i m H ⟨rfl, hi, p⟩
  have q := hl i H hi p
  by_cases hlt : i < kvs.length
  · refine .inr ⟨⟨q, hlt⟩, Pv (i + 1), fun H' p' => ⟨kvs.length - (i + 1), by omega, rfl, hlt, p'⟩, fun x H' y => ?_⟩
    obtain ⟨T, k, v, e, rfl, hT, rfl⟩ := y
    exact hs i k v T _ e p hT
  · have e : i = kvs.length := by omega
    subst e
    exact .inl ⟨⟨q, Nat.le_refl _⟩, hd H p⟩
theorem merge_new : ∀ (more kvs : List (Key × V)), ((kvs ++ more).map (·.1)).Nodup → mergeK kvs more = kvs ++ more
  | [], kvs, _ => by rw [List.append_nil]; rfl
  | p :: r, kvs, h => by
    have hn : valV kvs p.1 = none := by
      cases e : valV kvs p.1 with
      | none => rfl
      | some v =>
        exfalso
        rw [List.map_append] at h
        exact (List.nodup_append.mp h).2.2 _ (valV_in e) _ (List.mem_map.mpr ⟨p, List.mem_cons_self, rfl⟩) rfl
    show mergeK (putK kvs p.1 p.2) r = kvs ++ p :: r
    rw [putK_new _ hn, merge_new r _ (by rw [List.append_assoc]; exact h), List.append_assoc]
    rfl
end L2
namespace My
open PySem PySem.Spec PyProof.Rows L2
open Vbrgac (Actor Effect speed ready passed leastOf until_ run rounds runs earlier put queue first change acted State)
structure TxtD (K : PySem.W.Frag) (mg : Str → Option Value) (CA CC : Addr) : Prop extends TxtC K mg CA CC where
  mgC : mg "Crowd" = some (.ref CC)
theorem nums_keys {l : List Actor} (h : (l.map fun a => a.num).Nodup) : (l.map fun a => (Sum.inl (a.num : Int) : Key)).Nodup := by
  have e : (l.map fun a => (Sum.inl (a.num : Int) : Key)) = (l.map fun a => a.num).map fun n : Nat => (Sum.inl (n : Int) : Key) := by rw [List.map_map]; rfl
  rw [e]
  exact List.pairwise_map.mpr (h.imp fun {a b} n z => n (Int.ofNat.inj (Sum.inl.inj z)))
section
variable {P : Program} {w : World} {K : PySem.W.Frag} {mg : Str → Option Value} {base : Heap} {CA CC Pt : Addr}
/-! ### Crowd.twin -/
inductive PTwinC (CA CC : Addr) (vs : List V) (H : Hp) (Q : VK) : Prop
  | mk (L : Lay) (st : State) (h0 : vs = [.ref L.c]) (h1 : CrowdAt CA CC H L st) (h2 : st.actors.length ≤ 16) (h3 : (st.actors.map fun a => a.num).Nodup) (h4 : ∀ (H' : Hp) (L' : Lay), Same H H' → (∀ b ∈ foot L', H b = none) → CrowdAt CA CC H' L' st → Q (.ref L'.c) H') : PTwinC CA CC vs H Q
def spTwinC (CA CC : Addr) : Sp := fun vs H Q _ => PTwinC CA CC vs H Q
theorem scTwinC : FnScope ["self", "other", "number", "actor"] ["self"] (defScope d_Crowd_twin) := ⟨rfl, rfl, rfl, by decide +kernel, rfl, by decide +kernel, by decide +kernel⟩
structure TwinInv (CA : Addr) (H0 : Hp) (l : List Actor) (D : Addr) (i : Nat) (H : Hp) (ts : List Addr) (qs : List (Addr × Addr)) : Prop where
  sm : Same H0 H
  lst : H D = some (.lst (ts.map V.ref))
  acts : ActsAt CA H qs (l.take i)
  tup : Paired (fun t (kv : Key × V) => H t = some (.tup [kV kv.1, kv.2])) ts (kvsOf qs (l.take i))
  new : ∀ b, b ∈ qs.map (·.1) ∨ b ∈ qs.map (·.2) → H0 b = none
  nd : D ∉ qs.map (·.2)
theorem ok_twinC {f fI fT : Addr} {fd fdI fdT : FuncData} (F : Fun K "twin" "Crowd.twin" d_Crowd_twin f fd) (T : TxtD K mg CA CC) (M : Mk K CC fI) (GI : FnOk P w K mg base CX0 1 fI fdI ["self"] (spInitC CC)) (bI : Binds K fdI ["self"] [])
    (GT : FnOk P w K mg base CX0 3 fT fdT ["self"] (spTwinA CA)) (mT : Meth K CA "twin" fT) (bT : Binds K fdT ["self"] []) :
    FnOk P w K mg base CX0 4 f fd ["self"] (spTwinC CA CC) := by
  refine F.ok scTwinC (fun vs H Q E h => ?_) (fun cdv A outer s H vs Q E hr h => ?_)
  · obtain ⟨L, st, rfl, _⟩ := h
    rfl
  · obtain ⟨L, st, rfl, hC, h16, hnd, k⟩ := h
    have hcd : L.c ≠ L.d := ne_of hC.ins hC.dic (by intro z; cases z)
    have hr2 : Room 2 _ := hr.mono (show 2 ≤ 3 by decide)
    refine ⟨_, pss_cons (ps_set (i := 1) scTwinC.nd rfl (Or.inl rfl) (pe_make0 M GI hr2 rfl T.mgC bI .nil pass0))
      (pss_cons (ps_fld (pv 1) (pe_fld (pv 0) rfl) rfl) (pss_cons (ps_fld (pv 1) (pe_fld (pv 0) rfl) rfl)
      (pss_cons (ps_lock (ps_fld (pv 1) (pe_callTy (call_dictP rfl) rfl T.dict PyProof.Rows.boot_dict (pa_cons (pe_lc (own := [("number", 2), ("actor", 3)]) (g := gTup K 2 (gCons (gName 2) (gCons (gName 3) gNil))) rfl scTwinC.nd (pi_items (pe_fld (pv 0) rfl))
          (blkOk_by (show blkC ["self", "other", "number", "actor"] (defScope d_Crowd_twin) _ _ = true by decide +kernel))
          (fun s H C cl fp => pg_tup (n := 2) rfl (pgs_cons (pg_name (i := 2) scTwinC.nd rfl (Or.inl rfl) (Or.inr rfl)) (pgs_cons (pg_name (i := 3) scTwinC.nd rfl (Or.inl rfl) (Or.inr rfl)) pgs_nil)))
          (fun s H C cl fp => pts_nil) (fun s H C cl fp => pe_tup (pa_cons (pv 2) (pa_cons (pe_meth0 (pv 3) T.clA mT GT hr bT .nil pass0) pa_nil)))) pa_nil)) rfl))
      (pss_one (ps_ret (pv 1)))))), ?_⟩
    intro x dx nx ndx nex
    refine ⟨x, dx, rfl, upd_same, fun H1 e1 he1 hx1 hd1 k1 => ⟨rfl, ?_⟩⟩
    have s1 : Same H H1 := Same.made nx ndx k1
    have he0 : H e1 = none := by
      cases q : H e1 with
      | none => rfl
      | some o =>
        rw [upd_ne (ne_of_none q nx), upd_ne (ne_of_none q ndx), q] at he1
        cases he1
    have nxe : x ≠ e1 := ne_of hx1 hd1 (by intro z; cases z)
    have ncx : L.c ≠ x := ne_of_none hC.ins nx
    refine ⟨_, rfl, L.c, CC, L.dc, _, _, rfl, s1 _ _ hC.ins, T.clC, T.nc "ticks", rfl, _, rfl, x, CC, dx, _, rfl, hx1, T.clC, T.nc "ticks", by show 3 < 1000; decide, ?_⟩
    refine ⟨_, rfl, L.c, CC, L.dc, _, _, rfl, (by rw [upd_ne ncx]; exact s1 _ _ hC.ins), T.clC, T.nc "came", rfl, _, rfl, x, CC, dx, _, rfl, upd_same, T.clC, T.nc "came", by show 3 < 1000; decide, ?_⟩
    generalize hH2 : upd (upd H1 x _) x _ = H2
    have hx2 : H2 x = some (.ins CC dx (cf st.now st.given e1)) := by
      rw [← hH2, upd_same]
      rfl
    have s2 : Same H H2 := fun b o e => by
      have nb := ne_of_none e nx
      rw [← hH2, upd_ne nb, upd_ne nb]
      exact s1 _ _ e
    have hC2 := hC.same s2
    refine ⟨L.d, _, hC2.dic, trivial, fun od => ?_⟩
    generalize hH0 : upd H2 L.d (.frz od (.dK (kvsOf L.ps st.actors))) = H0
    have k0 : ∀ b o, H2 b = some o → b ≠ L.d → H0 b = some o := fun b o e nb => by rw [← hH0, upd_ne nb]; exact e
    have a0 : ActsAt CA H0 L.ps st.actors := hC2.acts.frame fun b o e w => k0 b o e (by
      rcases w with ⟨⟨dx, a, le, rfl⟩, _⟩ | ⟨⟨xs, rfl⟩, _⟩ | ⟨xs, rfl⟩
      · exact ne_of e hC2.dic (by intro z; cases z)
      · exact ne_of e hC2.dic (by intro z; cases z)
      · exact ne_of e hC2.dic (by intro z; cases z))
    have hd0 : H0 L.d = some (.frz od (.dK (kvsOf L.ps st.actors))) := by rw [← hH0, upd_same]
    have hx0 : H0 x = some (.ins CC dx (cf st.now st.given e1)) := k0 _ _ hx2 (ne_of hx2 hC2.dic (by intro z; cases z))
    have old0 : ∀ b, H0 b = none → H b = none := fun b hb => by
      by_cases z : b = L.d
      · rw [z, hd0] at hb; cases hb
      · rw [← hH0, upd_ne z] at hb; exact s2.free hb
    refine ⟨_, rfl, L.c, CC, L.dc, _, _, rfl, k0 _ _ hC2.ins hcd, T.clC, T.nc "actors", rfl, L.d, od, _, rfl, hd0, fun D hD => ?_⟩
    refine lc_items (d := L.d) (o := od) (kvs := kvsOf L.ps st.actors) (fun i H' => ∃ ts qs, TwinInv CA H0 st.actors D i H' ts qs) ⟨[], [], Same.upd hD, upd_same, ⟨.nil, List.nodup_nil, List.nodup_nil⟩, .nil, (fun b hb => by rcases hb with z | z <;> cases z), (fun z => by cases z)⟩
      (fun i H' _ ⟨_, _, g⟩ => g.sm _ _ hd0) ?_ ?_
    · rintro i key y t H' hy ⟨ts, qs, g⟩ ht
      obtain ⟨p, le, a, hp, ha, rfl, rfl, hA⟩ := kvs_ix a0 hy
      have sT : Same H' (upd H' t (.tup [kV (Sum.inl (a.num : Int)), V.ref p])) := Same.upd ht
      have hA' := (hA.same g.sm).same sT
      obtain ⟨⟨da, hpa⟩, _⟩ := id hA'
      refine ⟨t, _, rfl, SqT.of upd_same, rfl, _, _, rfl, _, _, rfl, rfl, rfl, ?_⟩
      refine ⟨_, rfl, _, rfl, p, da, _, rfl, hpa, rfl, p, a, le, rfl, hA', fun H3 q lq nq nlq s3 hA3 => ?_⟩
      refine ⟨by show 2 ≤ sizeLine; decide, fun u hu => ?_⟩
      have sAll : Same H' (upd H3 u (.tup [V.int (a.num : Int), V.ref q])) := (sT.trans s3).trans (Same.upd hu)
      have tlen : ts.length = qs.length := by
        have h1 := Paired.length g.tup
        rw [h1]
        exact (kvs_len g.acts).trans g.acts.length.symm
      have nDu : D ≠ u := ne_of_none (s3 _ _ (sT _ _ g.lst)) hu
      refine ⟨_, sAll _ _ g.lst, ?_, ts ++ [u], qs ++ [(q, lq)], ?_⟩
      · rw [List.length_map, tlen, g.acts.length, List.length_take]
        exact small1000 (by omega)
      show TwinInv CA H0 st.actors D (i + 1) (upd (upd H3 u (.tup [V.int (a.num : Int), V.ref q])) D (.lst (ts.map V.ref ++ [V.ref u]))) _ _
      generalize hH4 : upd H3 u (.tup [V.int (a.num : Int), V.ref q]) = H4 at sAll ⊢
      have hu4 : H4 u = some (.tup [V.int (a.num : Int), V.ref q]) := by rw [← hH4, upd_same]
      have hA4 : ActorAt CA H4 q a lq := by rw [← hH4]; exact hA3.same (Same.upd hu)
      have hD4 : H4 D = some (.lst (ts.map V.ref)) := sAll _ _ g.lst
      have nq' : H' q = none := sT.free nq
      have nlq' : H' lq = none := sT.free nlq
      have nqD : q ≠ D := fun z => by rw [z, g.lst] at nq'; cases nq'
      have nlD : lq ≠ D := fun z => by rw [z, g.lst] at nlq'; cases nlq'
      have nq0 : H0 q = none := g.sm.free nq'
      have nlq0 : H0 lq = none := g.sm.free nlq'
      have nq1 := acts_some g.acts nq'
      have nl1 := acts_some g.acts nlq'
      have k5 : ∀ b o, H4 b = some o → b ≠ D → (upd H4 D (.lst (ts.map V.ref ++ [V.ref u]))) b = some o := fun b o e nb => by rw [upd_ne nb]; exact e
      have hlen : qs.length = (st.actors.take i).length := g.acts.length
      have nd5 : D ∉ (qs ++ [(q, lq)]).map (·.2) := fun z => by
        rw [List.map_append] at z
        rcases List.mem_append.mp z with z | z
        · exact g.nd z
        · exact nlD (List.mem_singleton.mp z).symm
      refine ⟨fun b o e => k5 _ _ (sAll _ _ (g.sm _ _ e)) (ne_of_none e hD), by rw [upd_same, List.map_append]; rfl, ?_, ?_, fun b hb => ?_, nd5⟩
      · rw [take_snoc ha]
        refine ((g.acts.same sAll).snoc hA4 nq1.1 nl1.2).frame fun b o e w => k5 b o e ?_
        rcases w with ⟨⟨dx, a, le, rfl⟩, _⟩ | ⟨⟨xs, rfl⟩, m⟩ | ⟨xs, rfl⟩
        · exact ne_of e hD4 (by intro z; cases z)
        · exact fun z => nd5 (z ▸ m)
        · exact ne_of e hD4 (by intro z; cases z)
      · rw [take_snoc ha, kvs_snoc hlen]
        refine Paired.snoc (Paired.mapP g.tup fun t' kv e => k5 _ _ (sAll _ _ e) (ne_of (sAll _ _ e) hD4 (by intro z; cases z))) ?_
        exact k5 _ _ hu4 nDu.symm
      · rw [List.map_append, List.map_append] at hb
        rcases hb with hb | hb
        · rcases List.mem_append.mp hb with z | z
          · exact g.new b (.inl z)
          · rw [List.mem_singleton.mp z]; exact nq0
        · rcases List.mem_append.mp hb with z | z
          · exact g.new b (.inr z)
          · rw [List.mem_singleton.mp z]; exact nlq0
    · rintro Hn ⟨ts, qs, g⟩
      have hl : st.actors.take (kvsOf L.ps st.actors).length = st.actors := List.take_of_length_le (by rw [kvs_len hC.acts]; exact Nat.le_refl _)
      obtain ⟨gsm, glst, gacts, gtup, gnew, gnd⟩ := g
      rw [hl] at gacts gtup
      have hmk : mergeK [] (kvsOf qs st.actors) = kvsOf qs st.actors := by
        rw [merge_new _ _ (by rw [List.nil_append, kvs_keys gacts]; exact nums_keys hnd), List.nil_append]
      refine ⟨D, ts, kvsOf qs st.actors, rfl, SqL.of glst, Paired.mapP gtup fun t kv e => SqT.of e, fun p hp => ?_⟩
      rw [hmk]
      have hxn := gsm _ _ hx0
      have hdn := gsm _ _ hd0
      have nxp : x ≠ p := ne_of_none hxn hp
      have ndp : L.d ≠ p := ne_of_none hdn hp
      have nxd : x ≠ L.d := ne_of hxn hdn (by intro z; cases z)
      have hp0 : H p = none := old0 _ (gsm.free hp)
      refine ⟨_, rfl, x, CC, dx, _, rfl, by rw [upd_ne nxp]; exact hxn, T.clC, T.nc "actors", by show 3 < 1000; decide, ?_, ?_⟩
      · rw [upd_ne nxd.symm, upd_ne ndp]
        exact hdn
      refine ⟨_, rfl, ?_⟩
      generalize hHf : upd (upd (upd Hn p (.dK (kvsOf qs st.actors))) x _) L.d (.dK (kvsOf L.ps st.actors)) = Hf
      have kf : ∀ b o, Hn b = some o → b ≠ x → b ≠ L.d → Hf b = some o := fun b o e n1 n2 => by
        rw [← hHf, upd_ne n2, upd_ne n1, upd_ne (ne_of_none e hp)]; exact e
      have hxf : Hf x = some (.ins CC dx (cf st.now st.given p)) := by
        rw [← hHf, upd_ne nxd, upd_same]
        rfl
      have hpf : Hf p = some (.dK (kvsOf qs st.actors)) := by rw [← hHf, upd_ne ndp.symm, upd_ne nxp.symm, upd_same]
      have hdf : Hf L.d = some (.dK (kvsOf L.ps st.actors)) := by rw [← hHf, upd_same]
      refine k Hf ⟨x, dx, p, qs⟩ (fun b o e => ?_) (fun b hb => ?_) ⟨hxf, hpf, gacts.frame fun b o e w => kf b o e ?_ ?_⟩
      · by_cases z : b = L.d
        · subst z
          rw [hC.dic] at e
          exact hdf.trans e
        · exact kf _ _ (gsm _ _ (k0 _ _ (s2 _ _ e) z)) (ne_of_none e nx) z
      · rcases mem_foot.mp hb with z | z | z | z
        · rw [z]; exact nx
        · rw [z]; exact hp0
        · exact old0 _ (gnew b (.inl z))
        · exact old0 _ (gnew b (.inr z))
      · rcases w with ⟨⟨dx, a, le, rfl⟩, _⟩ | ⟨⟨xs, rfl⟩, _⟩ | ⟨xs, rfl⟩
        · exact ne_of e hxn (fun z => cf_af z.symm)
        · exact ne_of e hxn (by intro z; cases z)
        · exact ne_of e hxn (by intro z; cases z)
      · rcases w with ⟨⟨dx, a, le, rfl⟩, _⟩ | ⟨⟨xs, rfl⟩, _⟩ | ⟨xs, rfl⟩
        · exact ne_of e hdn (by intro z; cases z)
        · exact ne_of e hdn (by intro z; cases z)
        · exact ne_of e hdn (by intro z; cases z)
end
end My
end

section
set_option Elab.async false
set_option linter.all false
set_option maxRecDepth 100000
set_option maxHeartbeats 2000000
namespace My
open PySem PySem.Spec PyProof.Rows L2
open Vbrgac (Actor Effect speed ready passed leastOf until_ run rounds runs earlier put queue first change acted State)

/-! ### one actor is changed -/
theorem change_set {g : Actor → Actor} : ∀ {l : List Actor} {i : Nat} {a : Actor}, (l.map fun a => a.num).Nodup → l[i]? = some a → change a.num g l = l.set i (g a)
  | [], i, a, _, h => by simp at h
  | b :: l, 0, a, hn, h => by
    have e : b = a := Option.some.inj h
    subst e
    rw [List.map_cons] at hn
    obtain ⟨n1, n2⟩ := List.nodup_cons.mp hn
    show (if b.num = b.num then g b else b) :: change b.num g l = g b :: l
    rw [if_pos rfl]
    congr 1
    unfold change
    refine (List.map_congr_left fun x hx => ?_).trans (List.map_id l)
    rw [if_neg fun z => n1 (List.mem_map.mpr ⟨x, hx, z⟩)]
    rfl
  | b :: l, i + 1, a, hn, h => by
    rw [List.map_cons] at hn
    obtain ⟨n1, n2⟩ := List.nodup_cons.mp hn
    have h : l[i]? = some a := h
    show (if b.num = a.num then g b else b) :: change a.num g l = b :: l.set i (g a)
    rw [if_neg fun z => n1 (List.mem_map.mpr ⟨a, List.mem_of_getElem? h, z.symm⟩), change_set n2 h]
theorem set_nums {l : List Actor} {i : Nat} {a a' : Actor} (h : l[i]? = some a) (hn : a'.num = a.num) : ((l.set i a').map fun a => a.num) = l.map fun a => a.num := by
  rw [map_set, hn, set_self (by rw [List.getElem?_map, h]; rfl)]
theorem set_fst {ps : List (Addr × Addr)} {i : Nat} {p le le' : Addr} (h : ps[i]? = some (p, le)) : (ps.set i (p, le')).map (·.1) = ps.map (·.1) := by
  rw [map_set, set_self (by rw [List.getElem?_map, h]; rfl)]
theorem mem_set_of {l : List Actor} {i : Nat} {a' x : Actor} (h : x ∈ l.set i a') : x ∈ l ∨ x = a' := by
  rcases List.mem_or_eq_of_mem_set h with z | z
  · exact .inl z
  · exact .inr z
theorem Wf.set {B : Int} {st : State} (w : Wf B st) {i : Nat} {a a' : Actor} (h : st.actors[i]? = some a) (hn : a'.num = a.num) (wa : WfA B a') : Wf B { st with actors := st.actors.set i a' } := by
  refine ⟨by rw [List.length_set]; exact w.few, fun x hx => ?_, ?_, fun x hx => ?_⟩
  · rcases mem_set_of hx with z | z
    · exact w.act x z
    · exact z ▸ wa
  · show ((st.actors.set i a').map fun a => a.num).Pairwise (· < ·)
    rw [set_nums h hn]
    exact w.inc
  · rcases mem_set_of hx with z | z
    · exact w.num x z
    · rw [z, hn]
      exact w.num a (List.mem_of_getElem? h)
theorem CrowdAt.set {CA CC : Addr} {H H' : Hp} {L : Lay} {st : State} (h : CrowdAt CA CC H L st) {i : Nat} {p le le' : Addr} {a a' : Actor} (hi : L.ps[i]? = some (p, le)) (ha : st.actors[i]? = some a) (hA : ActorAt CA H' p a' le') (hn : a'.num = a.num)
    (hle : le' = le ∨ H le' = none) (kp : ∀ b o, H b = some o → b ≠ p → b ≠ le → H' b = some o) : CrowdAt CA CC H' { L with ps := L.ps.set i (p, le') } { st with actors := st.actors.set i a' } := by
  obtain ⟨b, hb, ⟨⟨dx, hp⟩, ts, hl, _⟩⟩ := paired_ix h.acts.act hi
  refine ⟨kp _ _ h.ins (ne_of h.ins hp cf_af) (ne_of h.ins hl (by intro z; cases z)), ?_, h.acts.set hi hA hle kp⟩
  show H' L.d = some (.dK (kvsOf (L.ps.set i (p, le')) (st.actors.set i a')))
  rw [kvs_eq (set_fst hi) (set_nums ha hn)]
  exact kp _ _ h.dic (ne_of h.dic hp (by intro z; cases z)) (ne_of h.dic hl (by intro z; cases z))
theorem Mv.set {CA CC Pt : Addr} {H H' : Hp} {L : Lay} {st : State} (h : CrowdAt CA CC H L st) (hT : TabIn Pt H) {i : Nat} {p le le' : Addr} {a' : Actor} (hi : L.ps[i]? = some (p, le)) (hA : ActorAt CA H' p a' le')
    (hle : le' = le ∨ H le' = none) (hl' : ∃ o, H' le = some o) (kp : ∀ b o, H b = some o → b ≠ p → b ≠ le → H' b = some o) : Mv Pt H L H' { L with ps := L.ps.set i (p, le') } := by
  have m1 : p ∈ L.ps.map (·.1) := List.mem_map.mpr ⟨_, List.mem_of_getElem? hi, rfl⟩
  have m2 : le ∈ L.ps.map (·.2) := List.mem_map.mpr ⟨_, List.mem_of_getElem? hi, rfl⟩
  have kall : ∀ b o, H b = some o → b ∉ foot L → H' b = some o := fun b o e nb => kp b o e (fun z => nb (mem_foot.mpr (.inr (.inr (.inl (z ▸ m1)))))) (fun z => nb (mem_foot.mpr (.inr (.inr (.inr (z ▸ m2))))))
  refine ⟨fun b o e nb _ => kall b o e nb, fun b hb => ?_, rfl, tab_keep hT fun b o e w => kall b o e (foot_tab h e w), fun b hb => ?_⟩
  · rcases mem_foot.mp hb with z | z | z | z
    · exact .inl (mem_foot.mpr (.inl z))
    · exact .inl (mem_foot.mpr (.inr (.inl z)))
    · have z : b ∈ (L.ps.set i (p, le')).map (·.1) := z
      rw [set_fst hi] at z
      exact .inl (mem_foot.mpr (.inr (.inr (.inl z))))
    · have z : b ∈ (L.ps.set i (p, le')).map (·.2) := z
      rw [map_set] at z
      rcases List.mem_or_eq_of_mem_set z with z | z
      · exact .inl (mem_foot.mpr (.inr (.inr (.inr z))))
      · rcases hle with q | q
        · rw [z]
          show le' ∈ _ ∨ _
          rw [q]
          exact .inl (mem_foot.mpr (.inr (.inr (.inr m2))))
        · rw [z]
          exact .inr q
  · cases q : H b with
    | none => rfl
    | some o =>
      by_cases z1 : b = p
      · obtain ⟨⟨dx, e⟩, _⟩ := hA
        rw [z1, e] at hb; cases hb
      · by_cases z2 : b = le
        · obtain ⟨o', e⟩ := hl'
          rw [z2, e] at hb; cases hb
        · rw [kp _ _ q z1 z2] at hb; cases hb
/-- something new beside a crowd -/
theorem Mv.beside {Pt : Addr} {H0 H : Hp} {L0 L : Lay} (x : Mv Pt H0 L0 H L) {D : Addr} {ys : List V} (h0 : H0 D = none) (hD : H D = none ∨ ∃ xs, H D = some (.lst xs)) : Mv Pt H0 L0 (upd H D (.lst ys)) L := by
  refine ⟨fun b o e n1 n2 => ?_, x.sub, x.c, tab_keep x.tab fun b o e w => ?_, fun b hb => ?_⟩
  · rw [upd_ne (ne_of_none e h0)]
    exact x.kp _ _ e n1 n2
  · have nb : b ≠ D := by
      rcases hD with hD | ⟨xs, hD⟩
      · exact ne_of_none e hD
      · refine ne_of e hD ?_
        rcases w with ⟨_, rfl⟩ | ⟨_, rfl⟩ <;> intro z <;> cases z
    rw [upd_ne nb]; exact e
  · by_cases z : b = D
    · rw [z, upd_same] at hb; cases hb
    · rw [upd_ne z] at hb; exact x.old _ hb
theorem CrowdAt.beside {CA CC : Addr} {H : Hp} {L : Lay} {st : State} (h : CrowdAt CA CC H L st) {D : Addr} {xs ys : List V} (hD : H D = some (.lst xs)) (nD : D ∉ foot L) : CrowdAt CA CC (upd H D (.lst ys)) L st :=
  h.frame fun b o e w => by
    have nb : b ≠ D := by
      rcases w with w | ⟨zs, rfl⟩
      · exact fun z => nD (z ▸ w)
      · exact ne_of e hD (by intro z; cases z)
    rw [upd_ne nb]; exact e
/-! ### the turn's actor -/
theorem turn_ix {l : List Actor} (h : l.any ready = true) : ∃ (i : Nat) (a : Actor), l[i]? = some a ∧ first l = some a.num ∧ turnOf l = a.num ∧ 0 ≤ a.energy := by
  cases e : queue l with
  | nil =>
    have := queue_nil.mp e
    rw [h] at this
    cases this
  | cons a r =>
    have ha := List.mem_filter.mp ((queue_perm l).mem_iff.mp (by rw [e]; exact List.mem_cons_self))
    obtain ⟨i, hi, q⟩ := List.getElem_of_mem ha.1
    refine ⟨i, a, List.getElem?_eq_some_iff.mpr ⟨hi, q⟩, ?_, ?_, of_decide_eq_true ha.2⟩
    · unfold first
      rw [e]
      rfl
    · unfold turnOf first
      rw [e]
      rfl
theorem run_nums : ∀ (k most : Nat) (l : List Actor), ((run k most l).1.map fun a => a.num) = l.map fun a => a.num
  | 0, _, _ => rfl
  | k + 1, most, l => by
    unfold Vbrgac.run
    split
    · rfl
    · split
      · rfl
      · rename_i n _
        show ((run k (most - min n most) (l.map (passed (min n most)))).1.map fun a => a.num) = _
        rw [run_nums k, List.map_map]
        rfl
theorem runs_nums (most : Nat) (l : List Actor) : ((runs most l).1.map fun a => a.num) = l.map fun a => a.num := run_nums _ _ _
theorem turns_step {cost : Nat → Int} {k t n : Nat} {l : List Actor} (h : first (runs Vbrgac.LONG l).1 = some n) :
    Vbrgac.turns cost (k + 1) t l = (n, t + (runs Vbrgac.LONG l).2) :: Vbrgac.turns cost k (t + (runs Vbrgac.LONG l).2) (change n (acted (cost n)) (runs Vbrgac.LONG l).1) := by
  show (match first (runs Vbrgac.LONG l).1 with
    | none => []
    | some n => (n, t + (runs Vbrgac.LONG l).2) :: Vbrgac.turns cost k (t + (runs Vbrgac.LONG l).2) (change n (acted (cost n)) (runs Vbrgac.LONG l).1)) = _
  rw [h]
theorem WfA.acted {B : Int} {a : Actor} (w : WfA B a) {c : Int} (hB : 1000000 ≤ B) (he : 0 ≤ a.energy) (hc : c ≤ 1000000) : WfA B (acted c a) :=
  ⟨w.b1, w.b2, w.few, w.eff, by show -B ≤ a.energy - c; omega⟩

def TurnAt (H : Hp) (t : Addr) (x : Nat × Nat) : Prop := H t = some (.tup [.int x.1, .int x.2])
section
variable {P : Program} {w : World} {K : PySem.W.Frag} {mg : Str → Option Value} {base : Heap} {CA CC Pt : Addr}
/-! ### Crowd.turns_to_come -/
inductive PTurns (CA CC Pt : Addr) (vs : List V) (H : Hp) (Q : VK) : Prop
  | mk (L : Lay) (st : State) (B : Int) (many : Nat) (ckvs : List (Key × V)) (dc : Addr) (cost : Nat → Int) (h0 : vs = [.ref L.c, .int many, .ref dc]) (h1 : CrowdAt CA CC H L st) (h2 : TabIn Pt H) (h3 : Wf B st) (h4 : 1000000 ≤ B) (h5 : B ≤ 1000000000000) (h6 : st.actors ≠ []) (h7 : many ≤ 100) (h8 : H dc = some (.dK ckvs)) (h9 : (∀ a ∈ st.actors, valV ckvs (Sum.inl (a.num : Int)) = some (.int (cost a.num)) ∧ cost a.num ≤ 1000000)) (h10 : ∀ (H' : Hp) (D : Addr) (ts : List Addr), SmT Pt H H' → H' D = some (.lst (ts.map V.ref)) → Paired (TurnAt H') ts (Vbrgac.turns cost many 0 st.actors) → Q (.ref D) H') : PTurns CA CC Pt vs H Q
def spTurns (CA CC Pt : Addr) : Sp := fun vs H Q _ => PTurns CA CC Pt vs H Q
theorem scTurns : FnScope ["self", "many", "costs", "ahead", "turns", "went", "number"] ["self", "many", "costs"] (defScope d_Crowd_turns_to_come) := ⟨rfl, rfl, rfl, by decide +kernel, rfl, by decide +kernel, by decide +kernel⟩
structure TurnsInv (CA CC Pt : Addr) (H1 : Hp) (L1 : Lay) (B : Int) (nums : List Nat) (all : List (Nat × Nat)) (cost : Nat → Int) (many : Nat) (D : Addr) (H : Hp) (L : Lay) (st : State) (ts : List Addr) (dn : List (Nat × Nat)) (went : Nat) : Prop where
  cr : CrowdAt CA CC H L st
  wf : Wf B st
  nm : (st.actors.map fun a => a.num) = nums
  mv : Mv Pt H1 L1 H L
  nD : D ∉ foot L
  lst : H D = some (.lst (ts.map V.ref))
  tup : Paired (TurnAt H) ts dn
  le : dn.length ≤ many
  eq : all = dn ++ Vbrgac.turns cost (many - dn.length) went st.actors
theorem ok_turns {f fT fP fN fA : Addr} {fd fdT fdP fdN fdA : FuncData} (F : Fun K "turns_to_come" "Crowd.turns_to_come" d_Crowd_turns_to_come f fd) (T : TxtD K mg CA CC)
    (GT : FnOk P w K mg base CX0 4 fT fdT ["self"] (spTwinC CA CC)) (mT : Meth K CC "twin" fT) (bT : Binds K fdT ["self"] [])
    (GP : FnOk P w K mg base CX0 7 fP fdP ["self"] (spPassU CA CC Pt)) (mP : Meth K CC "pass_until_ready" fP) (bP : Binds K fdP ["self"] [])
    (GN : FnOk P w K mg base CX0 6 fN fdN ["self"] (spTurn CA CC Pt)) (mN : Meth K CC "turn" fN) (bN : Binds K fdN ["self"] [])
    (GA : FnOk P w K mg base CX0 2 fA fdA ["self", "cost"] (spAct CA)) (mA : Meth K CA "act" fA) (bA : Binds K fdA ["self", "cost"] []) :
    FnOk P w K mg base CX0 8 f fd ["self", "many", "costs"] (spTurns CA CC Pt) := by
  refine F.ok scTurns (fun vs H Q E h => ?_) (fun cdv A outer s H vs Q E hr h => ?_)
  · obtain ⟨L, st, B, many, ckvs, dc, cost, rfl, _⟩ := h
    rfl
  · obtain ⟨L0, st0, B, many, ckvs, dc, cost, rfl, hC0, hT0, hW0, hB1, hB2, hne, hmany, hdc, hcost, k⟩ := h
    have hr2 : Room 2 _ := hr.mono (show 2 ≤ 7 by decide)
    have hr4 : Room 4 _ := hr.mono (show 4 ≤ 7 by decide)
    have hr6 : Room 6 _ := hr.mono (show 6 ≤ 7 by decide)
    have hu := hu_of hr
    refine ⟨_, pss_cons (ps_set (i := 3) scTurns.nd rfl (Or.inl rfl) (pe_meth0 (pv 0) T.clC mT GT hr4 bT .nil pass0))
      (pss_cons (ps_set (i := 4) scTurns.nd rfl (Or.inl rfl) (pe_lst pa_nil))
      (pss_cons (ps_set (i := 5) scTurns.nd rfl (Or.inl rfl) pe_int)
      (pss_cons (ps_while PassesOwn.never (pt_cmpR op_lt (pe_callB call_len_seq (by rfl) T.len PySem.boot_len (pa_cons (pv 4) pa_nil)) (pv 1) (nomark _))
        (pss_cons (ps_aug (i := 5) scTurns.nd rfl (Or.inl rfl) (pe_meth0 (pv 3) T.clC mP GP hr bP .nil pass0) ip_add)
        (pss_cons (ps_set (i := 6) scTurns.nd rfl (Or.inl rfl) (pe_meth0 (pv 3) T.clC mN GN hr6 bN .nil pass0))
        (pss_cons (ps_expr (pe_meth (pe_dget hu (pe_fld (pv 3) rfl) (pv 6) (fun _ _ => rfl)) T.clA mA GA hr2 bA .nil pass0 (pa_cons (pe_dget hu (pv 2) (pv 6) (fun _ _ => rfl)) pa_nil)))
        (pss_one (ps_expr (pe_bm PySem.F.plainAttrs_list PySem.F.slot_list_append PySem.F.type_list_append mt_append (pv 4) (pa_cons (pe_tup (pa_cons (pv 6) (pa_cons (pv 5) pa_nil))) pa_nil))))))))
      (pss_one (ps_ret (pv 4)))))), ?_⟩
    refine ⟨_, rfl, L0.c, L0.dc, _, rfl, hC0.ins, rfl, L0, st0, rfl, hC0, hW0.few, hW0.nd, fun H1 L1 s1 new1 hC1 => ?_⟩
    refine ⟨Nat.zero_le _, fun D hD => ?_⟩
    have hT1 : TabIn Pt H1 := (SameT.of_same hT0 s1).tab
    have nD1 : D ∉ foot L1 := fun z => by
      obtain ⟨o, e, _⟩ := foot_obj hC1 z
      rw [hD] at e; cases e
    have sD : Same H1 (upd H1 D (.lst [])) := Same.upd hD
    have keepH : ∀ (H2 : Hp) (L2 : Lay), Mv Pt H1 L1 H2 L2 → ∀ b o, H b = some o → b ≠ Pt → H2 b = some o := fun H2 L2 mv b o e nb =>
      mv.kp _ _ (s1 _ _ e) (fun z => by rw [new1 b z] at e; cases e) nb
    have hdcP : dc ≠ Pt := by
      obtain ⟨qs, h1, _⟩ := hT0
      exact ne_of hdc h1 (by intro z; cases z)
    refine ⟨fun m σ H' => ∃ (v : Option V) (L : Lay) (st : State) (ts : List Addr) (dn : List (Nat × Nat)) (went : Nat), m = many - dn.length ∧ σ = [some (.ref L0.c), some (.int many), some (.ref dc), some (.ref L.c), some (.ref D), some (.int went), v] ∧
      TurnsInv CA CC Pt H1 L1 B (st0.actors.map fun a => a.num) (Vbrgac.turns cost many 0 st0.actors) cost many D H' L st ts dn went,
      ⟨_, none, L1, st0, [], [], 0, rfl, rfl, ⟨hC1.same sD, hW0, rfl, (Mv.same hT1 (fun _ _ e => e)).beside hD (.inl hD), nD1, upd_same, .nil, Nat.zero_le _, rfl⟩⟩, ?_⟩
    rintro m σ H' ⟨v, L, st, ts, dn, went, rfl, rfl, g⟩
    have tlen : ts.length = dn.length := Paired.length g.tup
    refine ⟨_, rfl, D, _, rfl, .inl (SqL.of g.lst), _, rfl, _, _, rfl, rfl, _, rfl, ite2 (fun hc => ?_) (fun hc => ?_)⟩
    · have hc : dn.length < many := by
        have := of_decide_eq_true hc
        rw [List.length_map, tlen] at this
        exact Int.ofNat_lt.mp this
      have hne' : st.actors ≠ [] := fun z => by
        have := g.nm
        rw [z] at this
        exact hne (List.map_eq_nil_iff.mp this.symm)
      refine ⟨_, fun _ _ h => h, ?_⟩
      refine ⟨_, rfl, _, rfl, L.c, L.dc, _, rfl, g.cr.ins, rfl, L, st, B, rfl, g.cr, g.mv.tab, g.wf, hB2, hne', fun H2 L2 hC2 hW2 hany mv2 => ⟨_, _, rfl, rfl, ?_⟩⟩
      obtain ⟨i, a, ha, hfirst, hturn, hen⟩ := turn_ix hany
      -- number = ahead.turn()
      refine ⟨_, rfl, L2.c, L2.dc, _, by rw [mv2.c], hC2.ins, rfl, L2, _, by rw [mv2.c]; rfl, hC2, mv2.tab, hW2.few, hW2.nd, fun H3 sT => ?_⟩
      have hC3 := hC2.smT mv2.tab sT
      have mv3 := (g.mv.trans mv2).thenT sT
      have nD2 : D ∉ foot L2 := fun z => by
        rcases mv2.sub D z with q | q
        · exact g.nD q
        · rw [g.lst] at q; cases q
      have hD3 : H3 D = some (.lst (ts.map V.ref)) := (mv2.thenT sT).lst g.mv.tab g.lst g.nD
      have tup3 : Paired (TurnAt H3) ts dn := Paired.mapP g.tup fun t x e => (mv2.thenT sT).kp _ _ e (fun z => by
        obtain ⟨o, e', w⟩ := foot_obj g.cr z
        rw [e] at e'
        cases e'
        rcases w with ⟨_, _, _, z⟩ | ⟨_, z⟩ | ⟨_, z⟩ <;> cases z) (by
        obtain ⟨qs, h1, _⟩ := g.mv.tab
        exact ne_of e h1 (by intro z; cases z))
      have hnum : a.num ∈ st0.actors.map fun a => a.num := by
        rw [← g.nm, ← runs_nums Vbrgac.LONG st.actors]
        exact List.mem_map.mpr ⟨a, List.mem_of_getElem? ha, rfl⟩
      obtain ⟨b, hb, hbn⟩ := List.mem_map.mp hnum
      obtain ⟨hcv, hcb⟩ := hcost b hb
      rw [hbn] at hcv hcb
      obtain ⟨⟨p, le⟩, hp, hA⟩ := paired_ix' hC3.acts.act ha
      obtain ⟨⟨dp, hpa⟩, ts3, hle3, hts3⟩ := id hA
      have hget : DGet H3 L2.d (.int (turnOf (later st (runs Vbrgac.LONG st.actors).1 (runs Vbrgac.LONG st.actors).2).actors)) (some (.ref p)) := by
        have : turnOf (later st (runs Vbrgac.LONG st.actors).1 (runs Vbrgac.LONG st.actors).2).actors = (a.num : Int) := hturn
        rw [this, ← kvs_get hC3.acts hW2.nd hp ha]
        exact DGet.k (k := Sum.inl (a.num : Int)) hC3.dic
      have hdc3 : H3 dc = some (.dK ckvs) := keepH H3 L2 mv3 _ _ hdc hdcP
      have hgetc : DGet H3 dc (.int (turnOf (later st (runs Vbrgac.LONG st.actors).1 (runs Vbrgac.LONG st.actors).2).actors)) (some (.int (cost a.num))) := by
        have : turnOf (later st (runs Vbrgac.LONG st.actors).1 (runs Vbrgac.LONG st.actors).2).actors = (a.num : Int) := hturn
        rw [this, ← hcv]
        exact DGet.k (k := Sum.inl (a.num : Int)) hdc3
      refine ⟨_, rfl, L2.c, CC, L2.dc, _, _, by rw [mv2.c], hC3.ins, T.clC, T.nc "actors", rfl, _, rfl, L2.d, _, rfl, hget, p, dp, _, rfl, hpa, rfl, _, rfl, _, rfl, dc, _, rfl, hgetc, p, a, le, cost a.num, rfl, hA, fun H4 hA4 k4 => ?_⟩
      have hC4 := hC3.set (a' := acted (cost a.num) a) (le' := le) hp ha hA4 rfl (.inl rfl) fun b o e n1 _ => k4 b o e n1
      have hl4 : ∃ o, H4 le = some o := ⟨_, k4 _ _ hle3 (ne_of hle3 hpa (by intro z; cases z))⟩
      have mv4 := mv3.trans (Mv.set hC3 mv3.tab hp hA4 (.inl rfl) hl4 fun b o e n1 _ => k4 b o e n1)
      rw [set_self hp] at hC4 mv4
      have hD4 : H4 D = some (.lst (ts.map V.ref)) := k4 _ _ hD3 (ne_of hD3 hpa (by intro z; cases z))
      have tup4 : Paired (TurnAt H4) ts dn := Paired.mapP tup3 fun t x e => k4 _ _ e (ne_of e hpa (by intro z; cases z))
      refine ⟨_, rfl, .inl ⟨rfl, _, SqL.of hD4⟩, _, rfl, _, rfl, (by show 2 ≤ sizeLine; decide), fun u hu' => ?_⟩
      have nuD : D ≠ u := ne_of_none hD4 hu'
      refine ⟨D, _, _, rfl, rfl, by rw [upd_ne nuD]; exact hD4, by rw [List.length_map, tlen]; exact small1000 (by omega), ?_⟩
      have eT : turnOf (later st (runs Vbrgac.LONG st.actors).1 (runs Vbrgac.LONG st.actors).2).actors = (a.num : Int) := hturn
      have hW4 := hW2.set (a' := acted (cost a.num) a) ha rfl ((hW2.act a (List.mem_of_getElem? ha)).acted hB1 hen hcb)
      have s5 : Same H4 (upd H4 u (.tup [V.int (a.num : Int), V.int ((went : Int) + ((runs Vbrgac.LONG st.actors).2 : Int))])) := Same.upd hu'
      refine ⟨many - (dn.length + 1), by omega, some (.int (a.num : Int)), L2, { later st (runs Vbrgac.LONG st.actors).1 (runs Vbrgac.LONG st.actors).2 with actors := (runs Vbrgac.LONG st.actors).1.set i (acted (cost a.num) a) }, ts ++ [u], dn ++ [(a.num, went + (runs Vbrgac.LONG st.actors).2)], went + (runs Vbrgac.LONG st.actors).2, by rw [List.length_append]; rfl, ?_, ?_⟩
      · show ([some (V.ref L0.c), some (V.int (many : Int)), some (V.ref dc), some (V.ref L.c), some (V.ref D), some (V.int ((went : Int) + ((runs Vbrgac.LONG st.actors).2 : Int))), some (V.int (turnOf (later st (runs Vbrgac.LONG st.actors).1 (runs Vbrgac.LONG st.actors).2).actors))] : _root_.L2.St) = _
        rw [← Int.natCast_add, mv2.c, eT]
      · rw [eT]
        show TurnsInv CA CC Pt H1 L1 B _ _ cost many D (upd (upd H4 u (.tup [V.int (a.num : Int), V.int ((went : Int) + ((runs Vbrgac.LONG st.actors).2 : Int))])) D (.lst (ts.map V.ref ++ [V.ref u]))) L2 _ _ _ _
        have hD5 := s5 _ _ hD4
        have mv5 := mv4.trans (Mv.same mv4.tab s5)
        refine ⟨(hC4.same s5).beside hD5 nD2, hW4, ?_, mv5.beside hD (.inr ⟨_, hD5⟩), nD2, by rw [upd_same, List.map_append]; rfl, ?_, by rw [List.length_append]; exact hc, ?_⟩
        · show (((runs Vbrgac.LONG st.actors).1.set i (acted (cost a.num) a)).map fun a => a.num) = _
          rw [set_nums (a' := acted (cost a.num) a) ha rfl, runs_nums]
          exact g.nm
        · refine Paired.snoc (Paired.mapP tup4 fun t x e => ?_) ?_
          · show (upd _ D _) t = _
            rw [upd_ne (ne_of (s5 _ _ e) hD5 (by intro z; cases z))]
            exact s5 _ _ e
          · show (upd _ D _) u = _
            rw [upd_ne nuD.symm, upd_same]
            rfl
        · rw [g.eq, List.length_append]
          obtain ⟨j, hj⟩ : ∃ j, many - dn.length = j + 1 := ⟨many - dn.length - 1, by omega⟩
          have hj' : many - (dn.length + [(a.num, went + (runs Vbrgac.LONG st.actors).2)].length) = j := by
            show many - (dn.length + 1) = j
            omega
          rw [hj, hj', turns_step hfirst, List.append_assoc]
          show dn ++ _ :: Vbrgac.turns cost j _ (change a.num (acted (cost a.num)) (runs Vbrgac.LONG st.actors).1) = _
          rw [change_set hW2.nd ha]
          rfl
    · have hc : ¬ dn.length < many := fun z => hc (by
        refine decide_eq_true ?_
        rw [List.length_map, tlen]
        exact Int.ofNat_lt.mpr z)
      have hle := g.le
      have e0 : many - dn.length = 0 := by omega
      have heq := g.eq
      rw [e0] at heq
      have heq : Vbrgac.turns cost many 0 st0.actors = dn ++ [] := heq
      rw [List.append_nil] at heq
      refine ⟨_, rfl, k H' D ts ⟨fun b o e nb => keepH H' L g.mv b o e nb, g.mv.tab⟩ g.lst ?_⟩
      rw [heq]
      exact g.tup
end
end My
end

section
set_option Elab.async false
set_option linter.all false
set_option maxRecDepth 100000
set_option maxHeartbeats 1000000
/-! zip over any two iterators, each known by what its next turn does: an item, or its end. -/
namespace Zp
open PySem PySem.Spec PyProof.Rows

/-- all but ex stands as it did -/
def Kept (ex : List Addr) (h h' : Heap) : Prop := ∀ c o, c ∉ ex → h.get? c = some o → h'.get? c = some o
theorem Kept.of {a : Addr} {h h' : Heap} (x : Heap.SameBut a h h') : Kept [a] h h' := fun c o n e => x.extBut _ _ (fun q => n (q ▸ List.mem_singleton.mpr rfl)) e
theorem Kept.ext {a : Addr} {h h' : Heap} (x : Heap.ExtBut a h h') : Kept [a] h h' := fun c o n e => x _ _ (fun q => n (q ▸ List.mem_singleton.mpr rfl)) e
theorem Kept.push (h : Heap) (o : Obj) : Kept [] h (h.push o) := fun _ _ _ e => Heap.get?_push_of_some _ e
theorem Kept.andThen {e1 e2 : List Addr} {h h1 h2 : Heap} (x : Kept e1 h h1) (y : Kept e2 h1 h2) : Kept (e1 ++ e2) h h2 := fun c o n e => y c o (fun m => n (List.mem_append_right _ m)) (x c o (fun m => n (List.mem_append_left _ m)) e)
theorem Kept.weak {e1 e2 : List Addr} {h h1 : Heap} (x : Kept e1 h h1) (s : ∀ c ∈ e1, c ∈ e2) : Kept e2 h h1 := fun c o n e => x c o (fun m => n (s c m)) e

abbrev Ends (h : Heap) (e : Addr) : Prop := ∃ o, h.get? e = some o ∧ o.cls = .type "StopIteration"
/-- the iterator at it walks the thing at dep: n items, st i its state before the i-th -/
structure SubIt (prog : Program) (w : World) (it dep : Addr) (n : Nat) (val : Nat → Value → Prop) (st : Nat → Heap → Prop) : Prop where
  keep : ∀ {i : Nat} {h h' : Heap} {ex : List Addr}, st i h → Kept ex h h' → it ∉ ex → dep ∉ ex → st i h'
  obj : ∀ {i : Nat} {h : Heap}, st i h → ∃ o, h.get? it = some o ∧ ∀ v, o.data ≠ .cell v
  turn : ∀ {A : Around} {i : Nat} {s : Shared} {Q : Value → Shared → Prop} {E : Value → Shared → Prop}, A.handled = none → st i s.heap →
    (∀ x g, i < n → val i x → st (i + 1) g → Heap.SameBut it s.heap g → Q x { s with heap := g }) → (∀ g e, n ≤ i → Heap.ExtBut it s.heap g → Ends g e → E (.ref e) { s with heap := g }) →
    wpAny (model prog w) A (Builtin.SmallTypes.nextOf (.ref it)) Q E s

/-- the zip object: what it has handed out, and whether that was seen to be alive -/
abbrev ZipAt (h : Heap) (z TI TO : Addr) (f0 : Value) (b : Bool) : Prop :=
  h.get? z = some { cls := .type "zip", dict := none, data := .fields #[f0, .bool b, .bool false, .ref TI, .ref TO], slots := #[] }

section
variable {prog : Program} {w : World} {A : Around} {E : Value → Shared → Prop} {s : Shared}
variable {z TI TO i1 i2 l1 l2 : Addr} {n1 n2 k : Nat} {val1 val2 : Nat → Value → Prop} {st1 st2 : Nat → Heap → Prop} {a b : Value}

/-- nothing is handed out: the pair of its own is filled, copied and handed out -/
theorem own_turn (S1 : SubIt prog w i1 l1 n1 val1 st1) (S2 : SubIt prog w i2 l2 n2 val2 st2) {Q : Value → Shared → Prop} (hh : A.handled = none) (D : ZipApart z TI TO i1 i2 l1 l2)
    (hz : ZipAt s.heap z TI TO .none false) (hTI : IsPair s.heap TI (.ref i1) (.ref i2)) (hTO : IsPair s.heap TO a b) (q1 : st1 k s.heap) (q2 : st2 k s.heap)
    (hQ : ∀ x y g, k < n1 → k < n2 → val1 k x → val2 k y → ZipAt g z TI TO (rawInt s.heap.objs.size) false → IsPair g TO x y → st1 (k + 1) g → st2 (k + 1) g → IsPair g s.heap.objs.size x y → Kept [z, TO, i1, i2] s.heap g → Q (.ref s.heap.objs.size) { s with heap := g })
    (hE : ∀ g e, n1 ≤ k ∨ n2 ≤ k → Kept [z, TO, i1, i2] s.heap g → Ends g e → E (.ref e) { s with heap := g }) :
    wpAny (model prog w) A (Builtin.«zip.__next__» ⟨[.ref z], []⟩) (fun r t => ∃ v, r = .done (.ret v) ∧ Q v t) E s := by
  have y1 : i1 ∉ [z] ∧ l1 ∉ [z] := ⟨by simp [D.i1z], by simp [D.l1z]⟩
  refine wpAny_bind (m := field (.ref z) 2) (wpAny_field hz rfl (x := .bool false) rfl (wpAny_bind (m := field (.ref z) 3) (wpAny_field hz rfl (x := .ref TI) rfl (wpAny_bind (wpAny_seqItems hTI rfl ?_)))))
  refine wpAny_bind (m := Builtin.SmallTypes.ownedTupleIsFree (.ref z)) (wpAny_bind (m := field (.ref z) 0) (wpAny_field hz rfl (x := .none) rfl (wpAny_pure ?_)))
  simp only [if_true]
  refine wpAny_bind (wpAny_rule (wpAny_bind (wpAny_field hz rfl (x := .ref TO) rfl (wpAny_bind (wpAny_setField_rec hz (by simp) fun g1 z1 s1 => wpAny_bind ?_)))))
  have z1' : ZipAt g1 z TI TO .ellipsis false := z1
  have p1 : IsPair g1 TO a b := Kept.of s1 _ _ (by simp [D.TOz]) hTO
  simp only [List.forIn_cons, List.forIn_nil, List.zipIdx_cons, List.zipIdx_nil]
  refine wpAny_bind (wpAny_bind (wpAny_onRaise (wpAny_bind (m := Builtin.SmallTypes.nextOf (.ref i1)) (S1.turn hh (S1.keep q1 (Kept.of s1) y1.1 y1.2) (fun x g2 c1 vx r1 s2 => wpAny_pure ?_) fun g2 e c1 s2 he => ?_))))
  case refine_2 =>
    -- the first has ended
    obtain ⟨oe, e1, e2⟩ := he
    have z2 : ZipAt g2 z TI TO .ellipsis false := s2 _ _ D.i1z.symm z1'
    have nez : e ≠ z := by rintro rfl; rw [z2] at e1; cases e1; simp at e2
    refine wpAny_setField_rec z2 (by simp) fun g3 _ s3 => hE g3 e (.inl c1) (((Kept.of s1).andThen ((Kept.ext s2).andThen (Kept.of s3))).weak (by simp)) ⟨oe, Kept.of s3 _ _ (by simp [nez]) e1, e2⟩
  have p2 : IsPair g2 TO a b := Kept.of s2 _ _ (by simp [D.TOi1]) p1
  refine wpAny_bind (wpAny_seqItems p2 rfl (wpAny_bind (wpAny_updateSeq_pair p2 fun g3 p3 s3 => wpAny_bind (wpAny_letGo (wpAny_pure ?_)))))
  have p3' : IsPair g3 TO x b := p3
  have k13 : Kept [z, i1, TO] s.heap g3 := (Kept.of s1).andThen ((Kept.of s2).andThen (Kept.of s3))
  have z3 : ZipAt g3 z TI TO .ellipsis false := Kept.of s3 _ _ (by simp [D.TOz.symm]) (Kept.of s2 _ _ (by simp [D.i1z.symm]) z1')
  refine wpAny_bind (wpAny_bind (wpAny_onRaise (wpAny_bind (m := Builtin.SmallTypes.nextOf (.ref i2)) (S2.turn hh (S2.keep q2 k13 (by simp [D.i2z, D.i12.symm, D.TOi2.symm]) (by simp [D.l2z, D.l2i1, D.l2TO])) (fun y g4 c2 vy r2 s4 => wpAny_pure ?_) fun g4 e c2 s4 he => ?_))))
  case refine_2 =>
    -- the second has ended
    obtain ⟨oe, e1, e2⟩ := he
    have z4 : ZipAt g4 z TI TO .ellipsis false := s4 _ _ D.i2z.symm z3
    have nez : e ≠ z := by rintro rfl; rw [z4] at e1; cases e1; simp at e2
    refine wpAny_setField_rec z4 (by simp) fun g5 _ s5 => hE g5 e (.inr c2) ((k13.andThen ((Kept.ext s4).andThen (Kept.of s5))).weak (by simp)) ⟨oe, Kept.of s5 _ _ (by simp [nez]) e1, e2⟩
  have p4 : IsPair g4 TO x b := Kept.of s4 _ _ (by simp [D.TOi2]) p3'
  refine wpAny_bind (wpAny_seqItems p4 rfl (wpAny_bind (wpAny_updateSeq_pair p4 fun g5 p5 s5 => wpAny_bind (wpAny_letGo (wpAny_pure (wpAny_pure ?_))))))
  have p5' : IsPair g5 TO x y := p5
  refine wpAny_bind (wpAny_seqItems p5' rfl (wpAny_bind (wpAny_newTuple ?_)))
  have size : g5.objs.size = s.heap.objs.size := s5.1.trans (s4.1.trans (s3.1.trans (s2.1.trans s1.1)))
  have z5 : ZipAt g5 z TI TO .ellipsis false := Kept.of s5 _ _ (by simp [D.TOz.symm]) (Kept.of s4 _ _ (by simp [D.i2z.symm]) z3)
  have w1 : st1 (k + 1) g5 := S1.keep r1 ((Kept.of s3).andThen ((Kept.of s4).andThen (Kept.of s5))) (by simp [D.TOi1.symm, D.i12]) (by simp [D.l1TO, D.l1i2])
  have w2 : st2 (k + 1) g5 := S2.keep r2 (Kept.of s5) (by simp [D.TOi2.symm]) (by simp [D.l2TO])
  refine wpAny_bind (m := Builtin.SmallTypes.ownedTupleHandOut (.ref z) (.ref g5.objs.size)) (wpAny_bind (m := setField (.ref z) 0 (rawInt g5.objs.size)) (wpAny_setField_rec (Heap.get?_push_of_some _ z5) (by simp) fun g7 z7 s7 => ?_))
  have z7' : ZipAt g7 z TI TO (rawInt g5.objs.size) false := z7
  refine wpAny_setField_rec z7' (by simp) fun g8 z8 s8 => wpAny_pure ⟨_, rfl, ?_⟩
  have z8' : ZipAt g8 z TI TO (rawInt g5.objs.size) false := z8
  have up : Kept [z] g5 g8 := (((Kept.push g5 _).andThen (Kept.of s7)).andThen (Kept.of s8)).weak (by simp)
  have new : IsPair g8 g5.objs.size x y := Kept.of s8 _ _ (by simp [Nat.ne_of_gt (Heap.lt_size z5)]) (Kept.of s7 _ _ (by simp [Nat.ne_of_gt (Heap.lt_size z5)]) (Heap.get?_push_size _ rfl))
  rw [size] at z8' new ⊢
  exact hQ x y g8 c1 c2 vx vy z8' (up _ _ (by simp [D.TOz]) p5') (S1.keep w1 up y1.1 y1.2) (S2.keep w2 up (by simp [D.i2z]) (by simp [D.l2z])) new ((k13.andThen ((Kept.of s4).andThen ((Kept.of s5).andThen up))).weak (by simp))

theorem alive {M : Model} {c : Addr} {Q : Option Obj → Shared → Prop} (h : Q (s.heap.get? c) s) : wpAny M A (loadIfAlive c) Q E s := fun _ _ _ => h
/-- what was handed out is still there: a new pair is made -/
theorem new_turn (S1 : SubIt prog w i1 l1 n1 val1 st1) (S2 : SubIt prog w i2 l2 n2 val2 st2) {T : Nat} {oT : Obj} {bb : Bool} {Q : Value → Shared → Prop} (hh : A.handled = none) (D : ZipApart z TI TO i1 i2 l1 l2)
    (hz : ZipAt s.heap z TI TO (rawInt T) bb) (hT : s.heap.get? T = some oT) (hTI : IsPair s.heap TI (.ref i1) (.ref i2)) (q1 : st1 k s.heap) (q2 : st2 k s.heap)
    (hQ : ∀ x y g, k < n1 → k < n2 → val1 k x → val2 k y → ZipAt g z TI TO (rawInt T) true → st1 (k + 1) g → st2 (k + 1) g → IsPair g s.heap.objs.size x y → Kept [z, i1, i2] s.heap g → Q (.ref s.heap.objs.size) { s with heap := g })
    (hE : ∀ g e, n1 ≤ k ∨ n2 ≤ k → Kept [z, i1, i2] s.heap g → Ends g e → E (.ref e) { s with heap := g }) :
    wpAny (model prog w) A (Builtin.«zip.__next__» ⟨[.ref z], []⟩) (fun r t => ∃ v, r = .done (.ret v) ∧ Q v t) E s := by
  have busy : ∀ R : Bool → Shared → Prop, (∀ g, ZipAt g z TI TO (rawInt T) true → Heap.SameBut z s.heap g → R false { s with heap := g }) → wpAny (model prog w) A (Builtin.SmallTypes.ownedTupleIsFree (.ref z)) R E s := by
    intro R hR
    refine wpAny_bind (m := field (.ref z) 0) (wpAny_field hz rfl (x := rawInt T) rfl (wpAny_bind (m := loadIfAlive (T : Int).toNat) (alive ?_)))
    rw [Int.toNat_natCast, hT]
    refine wpAny_bind (m := field (.ref z) 1) (wpAny_field hz rfl (x := .bool bb) rfl ?_)
    cases bb with
    | true => exact wpAny_pure (hR s.heap hz ⟨rfl, fun _ _ => rfl⟩)
    | false => exact wpAny_bind (m := setField (.ref z) 1 (.bool true)) (wpAny_setField_rec hz (by simp) fun g z1 s1 => wpAny_pure (hR g z1 s1))
  refine wpAny_bind (m := field (.ref z) 2) (wpAny_field hz rfl (x := .bool false) rfl (wpAny_bind (m := field (.ref z) 3) (wpAny_field hz rfl (x := .ref TI) rfl (wpAny_bind (wpAny_seqItems hTI rfl ?_)))))
  refine wpAny_bind (m := Builtin.SmallTypes.ownedTupleIsFree (.ref z)) (busy _ fun g1 z1 s1 => ?_)
  simp only [Bool.false_eq_true, if_false, Array.forIn_toList, ← Array.forIn_toList, List.forIn_cons, List.forIn_nil]
  refine wpAny_bind (wpAny_bind (wpAny_bind (wpAny_holding (wpAny_bind (m := Builtin.SmallTypes.nextOf (.ref i1)) (S1.turn hh (S1.keep q1 (Kept.of s1) (by simp [D.i1z]) (by simp [D.l1z])) (fun x g2 c1 vx r1 s2 => wpAny_pure (wpAny_pure ?_))
    fun g2 e c1 s2 he => hE g2 e (.inl c1) (((Kept.of s1).andThen (Kept.ext s2)).weak (by simp)) he)))))
  have k2 : Kept [z, i1] s.heap g2 := (Kept.of s1).andThen (Kept.of s2)
  refine wpAny_bind (wpAny_bind (wpAny_holding (wpAny_bind (m := Builtin.SmallTypes.nextOf (.ref i2)) (S2.turn hh (S2.keep q2 k2 (by simp [D.i2z, D.i12.symm]) (by simp [D.l2z, D.l2i1])) (fun y g4 c2 vy r2 s4 => wpAny_pure (wpAny_pure (wpAny_pure ?_)))
    fun g4 e c2 s4 he => hE g4 e (.inr c2) ((k2.andThen (Kept.ext s4)).weak (by simp)) he))))
  refine wpAny_bind (wpAny_newTuple (wpAny_pure ⟨_, rfl, ?_⟩) (by show 2 ≤ sizeLine; decide))
  have size : g4.objs.size = s.heap.objs.size := s4.1.trans (s2.1.trans s1.1)
  have up := Kept.push g4 { cls := .type "tuple", data := .seq #[x, y] }
  have z4 : ZipAt g4 z TI TO (rawInt T) true := Kept.of s4 _ _ (by simp [D.i2z.symm]) (Kept.of s2 _ _ (by simp [D.i1z.symm]) z1)
  have new : IsPair (g4.push { cls := .type "tuple", data := .seq #[x, y] }) g4.objs.size x y := Heap.get?_push_size _ rfl
  show Q (.ref g4.objs.size) _
  rw [size] at new ⊢
  exact hQ x y _ c1 c2 vx vy (up _ _ (by simp) z4) (S1.keep (S1.keep r1 (Kept.of s4) (by simp [D.i12]) (by simp [D.l1i2])) up (by simp) (by simp)) (S2.keep r2 up (by simp) (by simp)) new ((k2.andThen ((Kept.of s4).andThen up)).weak (by simp))

/-! ### next -/
theorem zip_next (hT : s.TypeIs (.ref z) "zip") {Q : Option Value → Shared → Prop}
    (h : wpAny (model prog w) A.in1 (Builtin.«zip.__next__» ⟨[.ref z], []⟩) (fun r t => ∃ v, r = .done (.ret v) ∧ Q (some v) t) (fun e t => ∃ c, e = .ref c ∧ Ends t.heap c ∧ Q none t) s) : wpAny (model prog w) A (pyNext (.ref z)) Q E s := by
  unfold pyNext
  refine wpAny_bind (wpAny_attempt (wpAny_callSpecial?_slot (name := Str.ofString "__next__") hT F.slot_zip_next (wpAny_call_entry F.slot_zip_next hT F.entry_zip_next ?_ (F.args_zip_next_1 _))))
  refine wpAny_mono h (fun r t ⟨v, e, q⟩ => ⟨v, e, wpAny_pure q⟩) fun e t ⟨c, ec, ⟨o, e1, e2⟩, q⟩ => ?_
  subst ec
  exact wpAny_bind (wpAny_isInstance (T := "StopIteration") (b := true) ⟨o, e1, e2⟩ isSubtype_stop (wpAny_pure q))
/-- its state where what it hands out is never let go; ex: what is never handed out -/
def ZSt (ex : List Addr) (z TI TO : Addr) (h : Heap) : Prop := (ZipAt h z TI TO .none false ∧ ∃ a b, IsPair h TO a b) ∨ ∃ (T : Nat) (oT : Obj) (bb : Bool), ZipAt h z TI TO (rawInt T) bb ∧ h.get? T = some oT ∧ T ∉ ex
theorem ZSt.type {ex : List Addr} (x : ZSt ex z TI TO s.heap) : s.TypeIs (.ref z) "zip" := by
  rcases x with ⟨h1, _⟩ | ⟨T, oT, bb, h1, _⟩
  · exact ⟨_, h1, rfl⟩
  · exact ⟨_, h1, rfl⟩
theorem ZSt.but {ex : List Addr} {h h' : Heap} {S : Addr} (x : ZSt ex z TI TO h) (hS : S ∈ ex) (zS : z ≠ S) (tS : TO ≠ S) (k : Kept [S] h h') : ZSt ex z TI TO h' := by
  rcases x with ⟨h1, a, b, h2⟩ | ⟨T, oT, bb, h1, h2, h3⟩
  · exact .inl ⟨k _ _ (by simp [zS]) h1, a, b, k _ _ (by simp [tS]) h2⟩
  · exact .inr ⟨T, oT, bb, k _ _ (by simp [zS]) h1, k _ _ (fun m => h3 (List.mem_singleton.mp m ▸ hS)) h2, h3⟩
/-- a turn of a zip that lets nothing go -/
theorem zst_next (S1 : SubIt prog w i1 l1 n1 val1 st1) (S2 : SubIt prog w i2 l2 n2 val2 st2) {ex : List Addr} {Q : Option Value → Shared → Prop} (hh : A.handled = none) (D : ZipApart z TI TO i1 i2 l1 l2) (ez : z ∈ ex) (e1 : i1 ∈ ex) (e2 : i2 ∈ ex)
    (exl : ∀ c ∈ ex, c < s.heap.objs.size) (hz : ZSt ex z TI TO s.heap) (hTI : IsPair s.heap TI (.ref i1) (.ref i2)) (q1 : st1 k s.heap) (q2 : st2 k s.heap)
    (hQ : ∀ x y g, k < n1 → k < n2 → val1 k x → val2 k y → ZSt ex z TI TO g → st1 (k + 1) g → st2 (k + 1) g → IsPair g s.heap.objs.size x y → Kept [z, TO, i1, i2] s.heap g → Q (some (.ref s.heap.objs.size)) { s with heap := g })
    (hN : ∀ g, n1 ≤ k ∨ n2 ≤ k → Kept [z, TO, i1, i2] s.heap g → Q none { s with heap := g }) : wpAny (model prog w) A (pyNext (.ref z)) Q E s := by
  refine zip_next hz.type ?_
  rcases hz with ⟨hz, a, b, hTO⟩ | ⟨T, oT, bb, hz, hT, hx⟩
  · exact own_turn S1 S2 hh D hz hTI hTO q1 q2 (fun x y g c1 c2 vx vy zg pg r1 r2 ng kg => hQ x y g c1 c2 vx vy (.inr ⟨_, _, _, zg, ng, fun m => absurd (exl _ m) (Nat.lt_irrefl _)⟩) r1 r2 ng kg)
      fun g e c kg he => ⟨e, rfl, he, hN g c kg⟩
  · have wk : ∀ c ∈ ([z, i1, i2] : List Addr), c ∈ ([z, TO, i1, i2] : List Addr) := by simp
    have nT : T ∉ ([z, i1, i2] : List Addr) := by
      intro m
      simp at m
      rcases m with m | m | m
      · exact hx (m ▸ ez)
      · exact hx (m ▸ e1)
      · exact hx (m ▸ e2)
    exact new_turn S1 S2 hh D hz hT hTI q1 q2 (fun x y g c1 c2 vx vy zg r1 r2 ng kg => hQ x y g c1 c2 vx vy (.inr ⟨T, oT, true, zg, kg _ _ nT hT, hx⟩) r1 r2 ng (kg.weak wk))
      fun g e c kg he => ⟨e, rfl, he, hN g c (kg.weak wk)⟩
end

/-! ### the iterators of a list, a tuple, a dict's keys -/
section
variable {w : World} {prog : Program}
theorem list_sub {it l : Addr} {items : Array Value} (hne : l ≠ it) : SubIt prog w it l items.size (fun i x => items[i]? = some x) (fun i h => h.IsListIter it l i ∧ h.IsList l items) where
  keep := fun x k n1 n2 => ⟨x.1.at fun o e => k _ o n1 e, x.2.at fun o e => k _ o n2 e⟩
  obj := fun ⟨⟨o, e, _, d⟩, _⟩ => ⟨o, e, fun v q => by rw [d] at q; cases q⟩
  turn := fun {A i s Q E} hh x hQ hE => by
    by_cases c : i < items.size
    · exact wpAny_nextOf_list_item x.1 x.2 (Array.getElem?_eq_getElem c) fun g y sb => hQ _ g c (Array.getElem?_eq_getElem c) ⟨y, x.2.extBut sb.extBut hne⟩ sb
    · exact wpAny_nextOf_list_end hh x.1 x.2 (Array.getElem?_eq_none (by omega)) fun g e sb he => hE g e (by omega) sb he
/-- the StopIteration that an iterator ends with -/
theorem stops {A : Around} {s : Shared} {α : Type} {Q : α → Shared → Prop} {E : Value → Shared → Prop} (hh : A.handled = none) (hE : ∀ g e, (∀ b o, s.heap.get? b = some o → g.get? b = some o) → Ends g e → E (.ref e) { s with heap := g }) :
    wpAny (model prog w) A (newExc (.type "StopIteration") [] >>= fun v => raiseNew v) Q E s := by
  simp only [newExc, newTuple, raiseNew]
  refine wpAny_bind (wpAny_bind (wpAny_newObj_type (wpAny_bind (m := firstArgMember _ _) (wpAny_of_eq (a := Value.none) (by first | rfl | (simp only [firstArgMember]; rfl)) (wpAny_newObj_type (wpAny_bind (wpAny_handled ?_)) (by size_fits)))) (by size_fits)))
  rw [hh]
  exact wpAny_bind (wpAny_pure (wpAny_throw (hE _ _ (fun b o e => Heap.get?_push_of_some _ (Heap.get?_push_of_some _ e)) ⟨_, Heap.get?_push_size _ rfl, rfl⟩)))
theorem moved {s : Shared} {it : Addr} {o : Obj} {vs : Array Value} {T : String} {f : Array Value → Array Value} (ho : s.heap.get? it = some o) (hc : o.cls = .type T) (hd : o.data = .fields vs) : ∃ o', (s.heap.update it (Obj.mapFields f)).get? it = some o' ∧ o'.cls = .type T ∧ o'.data = .fields (f vs) :=
  ⟨_, Heap.get?_update_self _ ho (Obj.isFreed_of_fields (Obj.data_mapFields hd _)), (Obj.cls_mapFields ..).trans hc, by rw [Obj.data_mapFields hd]⟩
theorem tup_sub {it t : Addr} {items : Array Value} (hne : t ≠ it) : SubIt prog w it t items.size (fun i x => items[i]? = some x) (fun i h => IsTupIter h it t i ∧ IsTup h t items) where
  keep := fun ⟨⟨o, ho, r⟩, ⟨o', ho', r'⟩⟩ k n1 n2 => ⟨⟨o, k _ o n1 ho, r⟩, ⟨o', k _ o' n2 ho', r'⟩⟩
  obj := fun ⟨⟨o, e, _, d⟩, _⟩ => ⟨o, e, fun v q => by rw [d] at q; cases q⟩
  turn := fun {A i s Q E} hh x hQ hE => by
    obtain ⟨hit, ht⟩ := x
    obtain ⟨o, ho, hc, hd⟩ := id hit
    obtain ⟨ot, hot, _, nt, hdt⟩ := id ht
    (unfold Builtin.SmallTypes.nextOf)
    refine wpAny_bind (wpAny_callSpecial?_slot (name := Str.ofString "__next__") hit.typeIs slot_tupleiter_next (wpAny_call_entry slot_tupleiter_next hit.typeIs entry_tupleiter_next ?_ (args_tupleiter_next _)))
    refine wpAny_bind (m := field (.ref it) 0) (wpAny_field ho hd (x := .ref t) rfl ?_)
    rw [if_neg (show ¬ (Value.ref t == Value.none) = true from Bool.false_ne_true)]
    refine wpAny_bind (m := field (.ref it) 1) (wpAny_field ho hd (x := .int i 0) rfl (wpAny_bind (m := seqItems? (.ref t)) (wpAny_seqItems hot hdt ?_)))
    by_cases c : i < items.size
    · have hx : items[i]? = some items[i] := Array.getElem?_eq_getElem c
      simp only [hx, Int.toNat_natCast]
      refine wpAny_bind (wpAny_setField ho hd (by simp) (wpAny_pure ⟨_, rfl, wpAny_pure (hQ _ _ c hx ⟨?_, ht.extBut (Heap.SameBut.update ..).extBut hne⟩ (Heap.SameBut.update ..))⟩))
      obtain ⟨o', a1, a2, a3⟩ := moved (f := (·.setIfInBounds 1 (rawInt ((i : Int) + 1)))) ho hc hd
      exact ⟨o', a1, a2, by rw [a3]; simp [rawInt]⟩
    · simp only [Int.toNat_natCast, Array.getElem?_eq_none (show items.size ≤ i by omega)]
      refine wpAny_bind (wpAny_rule (wpAny_bind (wpAny_setField ho hd (by simp) (stops hh fun g e kg he => hE g e (by omega) (fun b o nb q => kg _ _ ((Heap.SameBut.update ..).extBut b o nb q)) he))))
theorem key_sub {it d : Addr} {od : Obj} {es : Array DictEntry} {ep : Nat} (hne : d ≠ it) (hdd : od.data = .dict es ep) :
    SubIt prog w it d es.size (fun i x => ∃ en, es[i]? = some en ∧ x = en.key) (fun i h => h.IsKeyIter it d i es.size ep ∧ h.get? d = some od) where
  keep := fun ⟨⟨o, ho, r⟩, y⟩ k n1 n2 => ⟨⟨o, k _ o n1 ho, r⟩, k _ _ n2 y⟩
  obj := fun ⟨⟨o, e, _, d⟩, _⟩ => ⟨o, e, fun v q => by rw [d] at q; cases q⟩
  turn := fun {A i s Q E} hh x hQ hE => by
    obtain ⟨hit, hod⟩ := x
    obtain ⟨o, ho, hc, hd⟩ := id hit
    have own : Builtin.Dict_items.ownsTuple "dict_keyiterator" = false := by decide
    (unfold Builtin.SmallTypes.nextOf)
    refine wpAny_bind (wpAny_callSpecial?_slot (name := Str.ofString "__next__") hit.typeIs F.slot_dict_keyiterator_next (wpAny_call_entry F.slot_dict_keyiterator_next hit.typeIs F.entry_dict_keyiterator_next ?_ (F.args_dict_keyiterator_next_1 _)))
    refine wpAny_bind (wpAny_pure (wpAny_bind (wpAny_bind ?_)))
    first | refine wpAny_bind (wpAny_typeNameOfWhole_keyiter hit.typeIs (wpAny_pure ?_)) | refine wpAny_bind (wpAny_typeNameOf_keyiter hit.typeIs (wpAny_pure ?_))
    refine wpAny_bind (wpAny_fieldsOf ho hd ?_)
    simp only [own, Bool.false_eq_true, if_false]
    show wpAny _ _ (if (Value.ref d == Value.none) = true then _ else _) _ _ s
    rw [if_neg (show ¬ (Value.ref d == Value.none) = true from Bool.false_ne_true)]
    refine wpAny_bind (wpAny_pure (wpAny_bind (wpAny_dictEntries hod hdd ?_)))
    rw [if_neg (by simp)]
    refine wpAny_bind (wpAny_pure (wpAny_bind (wpAny_dictEpoch hod hdd ?_)))
    rw [if_neg (by simp)]
    refine wpAny_pure ?_
    by_cases c : i < es.size
    · simp only [show ¬ ((i : Int) < 0) from by omega, if_false, Int.toNat_natCast, Array.getElem?_eq_getElem c]
      refine wpAny_bind ?_
      first | refine wpAny_bind (wpAny_typeNameOfWhole_keyiter hit.typeIs (wpAny_pure ?_)) | refine wpAny_bind (wpAny_typeNameOf_keyiter hit.typeIs (wpAny_pure ?_))
      refine wpAny_bind (wpAny_isOneOf_keyiter hit.typeIs ?_)
      have hit' : (s.heap.update it (Obj.mapFields (·.setIfInBounds 1 (rawInt ((i : Int) + 1))))).IsKeyIter it d (i + 1) es.size ep := by
        obtain ⟨o', a1, a2, a3⟩ := moved (f := (·.setIfInBounds 1 (rawInt ((i : Int) + 1)))) ho hc hd
        exact ⟨o', a1, a2, by rw [a3]; simp [rawInt]⟩
      refine wpAny_bind (m := setField (.ref it) 1 (rawInt ((i : Int) + 1))) (wpAny_setField ho hd (by simp) (wpAny_bind (wpAny_holding ?_)))
      refine wpAny_bind (wpAny_isOneOf_keyiter (s := { s with heap := s.heap.update it (Obj.mapFields (·.setIfInBounds 1 (rawInt ((i : Int) + 1)))) }) hit'.typeIs (wpAny_pure (wpAny_pure ⟨_, rfl, wpAny_pure ?_⟩)))
      exact hQ _ _ c ⟨_, Array.getElem?_eq_getElem c, rfl⟩ ⟨hit', ((Heap.SameBut.update ..).2 _ hne).trans hod⟩ (Heap.SameBut.update ..)
    · simp only [show ¬ ((i : Int) < 0) from by omega, if_false, Int.toNat_natCast, Array.getElem?_eq_none (show es.size ≤ i by omega)]
      refine wpAny_bind ?_
      first | refine wpAny_bind (wpAny_typeNameOfWhole_keyiter hit.typeIs (wpAny_pure ?_)) | refine wpAny_bind (wpAny_typeNameOf_keyiter hit.typeIs (wpAny_pure ?_))
      refine wpAny_bind (m := setField (.ref it) 0 .none) (wpAny_setField ho hd (by simp) (stops hh fun g e kg he => hE g e (by omega) (fun b o nb q => kg _ _ ((Heap.SameBut.update ..).extBut b o nb q)) he))
end
end Zp
end

section
set_option Elab.async false
set_option linter.all false
set_option maxRecDepth 100000
set_option maxHeartbeats 1000000
namespace Zp
open PySem PySem.Spec PyProof.Rows

/-- iter(l) is a new object o, from the state s on -/
def IterIs (s : Shared) (l : Addr) (o : Obj) : Prop := ∀ {prog : Program} {w : World} {A : Around} {Q : Value → Shared → Prop} {E : Value → Shared → Prop}, Q (.ref s.heap.objs.size) { s with heap := s.heap.push o } → wpAny (model prog w) A (pyIter (.ref l)) Q E s
abbrev zh2 (h : Heap) (o1 o2 : Obj) : Heap := (h.push o1).push o2
abbrev zh3 (h : Heap) (o1 o2 : Obj) : Heap := (zh2 h o1 o2).push { cls := .type "tuple", data := .seq #[.ref h.objs.size, .ref (h.push o1).objs.size] }
abbrev zh4 (h : Heap) (o1 o2 : Obj) : Heap := (zh3 h o1 o2).push { cls := .type "tuple", data := .seq #[.none, .none] }
abbrev zh5 (h : Heap) (o1 o2 : Obj) : Heap := (zh4 h o1 o2).push { cls := .type "zip", data := .fields #[.none, .bool false, .bool false, .ref (zh2 h o1 o2).objs.size, .ref (zh3 h o1 o2).objs.size] }
theorem meets_zip (l1 l2 : Addr) (o1 o2 : Obj) : Meets (Builtin.«zip.__new__» ⟨[.type "zip", .ref l1, .ref l2], []⟩) (fun _ R s => IterIs s l1 o1 ∧ IterIs { s with heap := s.heap.push o1 } l2 o2 ∧
      R (.ok (.ret (.ref (zh4 s.heap o1 o2).objs.size))) { s with heap := zh5 s.heap o1 o2 }) :=
  .of_wp fun prog w A R s h => by
    obtain ⟨hp, g, d, tk, os⟩ := s
    obtain ⟨t1, t2, h⟩ := h
    have sub := sub_zip
    have u1 : ∀ {A : Around} {Q : Value → Shared → Prop} {E : Value → Shared → Prop}, Q (.ref hp.objs.size) ⟨hp.push o1, g, d, tk, os⟩ → wpAny (model prog w) A (pyIter (.ref l1)) Q E ⟨hp, g, d, tk, os⟩ := fun {A Q E} q => @t1 prog w A Q E q
    have u2 : ∀ {A : Around} {Q : Value → Shared → Prop} {E : Value → Shared → Prop}, Q (.ref (hp.push o1).objs.size) ⟨(hp.push o1).push o2, g, d, tk, os⟩ → wpAny (model prog w) A (pyIter (.ref l2)) Q E ⟨hp.push o1, g, d, tk, os⟩ := fun {A Q E} q => @t2 prog w A Q E q
    wp_walk using u1, u2
    exact ⟨_, rfl, h⟩
section
variable {prog : Program} {w : World} {A : Around} {E : Value → Shared → Prop} {s : Shared}
theorem call_zip {l1 l2 : Addr} {o1 o2 : Obj} {Q : Value → Shared → Prop} (t1 : IterIs s l1 o1) (t2 : IterIs { s with heap := s.heap.push o1 } l2 o2) (f1 : o1.isFreed = false) (f2 : o2.isFreed = false)
    (h : ∀ g, ZipAt g (s.heap.objs.size + 4) (s.heap.objs.size + 2) (s.heap.objs.size + 3) .none false → IsPair g (s.heap.objs.size + 2) (.ref s.heap.objs.size) (.ref (s.heap.objs.size + 1)) → IsPair g (s.heap.objs.size + 3) .none .none →
      g.get? s.heap.objs.size = some o1 → g.get? (s.heap.objs.size + 1) = some o2 → g.objs.size = s.heap.objs.size + 5 → Kept [] s.heap g → Q (.ref (s.heap.objs.size + 4)) { s with heap := g }) :
    (wpAny (model prog w) A (call (.type "zip") [.ref l1, .ref l2]) Q E s) := by
  refine callType_new F.called_zip (by decide) (F.typeCall_zip_2 _ _) (F.newCall_zip_2 _ _) (fun obj => F.args_object_init_3 obj _ _) F.entry_zip_new (meets_zip l1 l2 o1 o2) ⟨t1, t2, ?_⟩
  have n1 : (s.heap.push o1).objs.size = s.heap.objs.size + 1 := Heap.size_push ..
  have n2 : (zh2 s.heap o1 o2).objs.size = s.heap.objs.size + 2 := by rw [Heap.size_push, n1]
  have n3 : (zh3 s.heap o1 o2).objs.size = s.heap.objs.size + 3 := by rw [Heap.size_push, n2]
  have n4 : (zh4 s.heap o1 o2).objs.size = s.heap.objs.size + 4 := by rw [Heap.size_push, n3]
  have n5 : (zh5 s.heap o1 o2).objs.size = s.heap.objs.size + 5 := by rw [Heap.size_push, n4]
  have up4 := Kept.push (zh4 s.heap o1 o2) { cls := .type "zip", data := .fields #[.none, .bool false, .bool false, .ref (zh2 s.heap o1 o2).objs.size, .ref (zh3 s.heap o1 o2).objs.size] }
  have up3 := (Kept.push (zh3 s.heap o1 o2) { cls := .type "tuple", data := .seq #[.none, .none] }).andThen up4
  have up2 := (Kept.push (zh2 s.heap o1 o2) { cls := .type "tuple", data := .seq #[.ref s.heap.objs.size, .ref (s.heap.push o1).objs.size] }).andThen up3
  have up1 := (Kept.push (s.heap.push o1) o2).andThen up2
  have up0 := (Kept.push s.heap o1).andThen up1
  have v5 : (zh5 s.heap o1 o2).get? (zh4 s.heap o1 o2).objs.size = some _ := Heap.get?_push_size _ rfl
  have v4 : (zh5 s.heap o1 o2).get? (zh3 s.heap o1 o2).objs.size = some _ := up4 _ _ (by simp) (Heap.get?_push_size _ rfl)
  have v3 : (zh5 s.heap o1 o2).get? (zh2 s.heap o1 o2).objs.size = some _ := up3 _ _ (by simp) (Heap.get?_push_size _ rfl)
  have v2 : (zh5 s.heap o1 o2).get? (s.heap.push o1).objs.size = some o2 := up2 _ _ (by simp) (Heap.get?_push_size _ f2)
  have v1 : (zh5 s.heap o1 o2).get? s.heap.objs.size = some o1 := up1 _ _ (by simp) (Heap.get?_push_size _ f1)
  show _ ∧ _
  rw [n2, n3, n4] at v5
  rw [n1, n2] at v3
  rw [n3] at v4
  rw [n1] at v2
  rw [n4]
  exact ⟨⟨_, v5, rfl⟩, h _ v5 v3 v4 v1 v2 n5 (up0.weak (by simp))⟩
end
end Zp
end

section
set_option Elab.async false
set_option linter.all false
set_option maxRecDepth 100000
set_option maxHeartbeats 1000000
namespace L2
open PySem PySem.Spec PyProof.Rows Zp

theorem iter_list {s : Shared} {l : Addr} {items : Array Value} (h : s.heap.IsList l items) : IterIs s l { cls := .type "list_iterator", data := .fields #[.ref l, .int 0 0] } := fun {prog w A Q E} q => wpAny_pyIter_list h q
theorem iter_tup {s : Shared} {l : Addr} {items : Array Value} (h : IsTup s.heap l items) : IterIs s l { cls := .type "tuple_iterator", data := .fields #[.ref l, .int 0 0] } := fun {prog w A Q E} q => iter_tuple h q
theorem iter_dict {s : Shared} {d : Addr} {o : Obj} {es : Array DictEntry} {ep : Nat} (hd : (d == sysModules) = false) (ho : s.heap.get? d = some o) (hc : o.ExactDict) (hdat : o.data = .dict es ep) :
    IterIs s d { cls := .type "dict_keyiterator", data := .fields #[.ref d, .int 0 0, .int es.size 0, .int ep 0] } := fun {prog w A Q E} q => iter_keys hd ho hc hdat q

/-! ### zip(list, tuple) in a for or a comprehension -/
def Itzt (K : PySem.W.Frag) (a b : Addr) : It :=
  ⟨fun i H => ∃ (xs ys : List V) (x y : V), SqL K H a xs ∧ SqT K H b ys ∧ xs[i]? = some x ∧ ys[i]? = some y,
    fun i H v H' => ∃ T x y, v = .ref T ∧ H T = none ∧ H' = upd H T (.tup [x, y]) ∧ (∀ xs, SqL K H a xs → xs[i]? = some x) ∧ ∀ ys, SqT K H b ys → ys[i]? = some y,
    fun i H => ∃ xs ys : List V, SqL K H a xs ∧ SqT K H b ys ∧ (xs.length ≤ i ∨ ys.length ≤ i)⟩
/-- between two turns -/
structure ZtSt (z TI TO i1 i2 a b : Addr) (i : Nat) (h : Heap) : Prop where
  zip : ZipAt h z TI TO .none false
  ti : IsPair h TI (.ref i1) (.ref i2)
  to : ∃ x y, IsPair h TO x y
  it1 : h.IsListIter i1 a i
  it2 : IsTupIter h i2 b i
theorem ZtSt.some {z TI TO i1 i2 a b c : Addr} {i : Nat} {h : Heap} (x : ZtSt z TI TO i1 i2 a b i h) (hc : c ∈ [z, TI, TO, i1, i2]) : ∃ o, h.get? c = some o ∧ ∀ v, o.data ≠ .cell v := by
  obtain ⟨hz, hTI, ⟨p, q, hTO⟩, ⟨o1, e1, _, d1⟩, ⟨o2, e2, _, d2⟩⟩ := x
  simp only [List.mem_cons, List.not_mem_nil, or_false] at hc
  rcases hc with rfl | rfl | rfl | rfl | rfl
  · exact ⟨_, hz, fun v q => nomatch q⟩
  · exact ⟨_, hTI, fun v q => nomatch q⟩
  · exact ⟨_, hTO, fun v q => nomatch q⟩
  · exact ⟨o1, e1, fun v q => by rw [d1] at q; cases q⟩
  · exact ⟨o2, e2, fun v q => by rw [d2] at q; cases q⟩
theorem ZtSt.keeps {z TI TO i1 i2 a b : Addr} {i : Nat} {h h' : Heap} (x : ZtSt z TI TO i1 i2 a b i h) (k : ∀ c ∈ [z, TI, TO, i1, i2], ∀ o, h.get? c = Option.some o → h'.get? c = Option.some o) : ZtSt z TI TO i1 i2 a b i h' := by
  obtain ⟨hz, hTI, ⟨p, q, hTO⟩, ⟨o1, e1, r1⟩, ⟨o2, e2, r2⟩⟩ := x
  exact ⟨k z (by simp) _ hz, k TI (by simp) _ hTI, ⟨p, q, k TO (by simp) _ hTO⟩, ⟨o1, k i1 (by simp) _ e1, r1⟩, ⟨o2, k i2 (by simp) _ e2, r2⟩⟩
theorem turn_zipt {P : Program} {w : World} {K : PySem.W.Frag} {elts : List Expr} {kk : Nat} {tpos : Pos} {a b z TI TO i1 i2 : Addr} (D : ZipApart z TI TO i1 i2 a b) :
    Turn P w K (.Tuple elts kk tpos) (Itzt K a b) [z, TI, TO, i1, i2] z (ZtSt z TI TO i1 i2 a b) where
  mem := by simp
  obj := fun i h st c hc => st.some hc
  keep := fun i h h' st k => st.keeps k
  item := by
    intro X hP hw hK hc i pins s σ H E I hf st hg
    subst hP hw hK
    obtain ⟨xs, ys, x, y, hqx, hqy, hx, hy⟩ := hg
    obtain ⟨its, rv, p, _⟩ := I.list hqx
    obtain ⟨its2, rv2, p2, _⟩ := I.tuple hqy
    obtain ⟨u, hu, ru⟩ := rv.get hx
    obtain ⟨u2, hu2, ru2⟩ := rv2.get hy
    obtain ⟨c0, e0⟩ := st.to
    obtain ⟨d0, e0⟩ := e0
    have S1 : SubIt X.prog X.w i1 a its.toArray.size (fun i x => its.toArray[i]? = some x) (fun i h => h.IsListIter i1 a i ∧ h.IsList a its.toArray) := list_sub D.l1i1
    have S2 : SubIt X.prog X.w i2 b its2.toArray.size (fun i x => its2.toArray[i]? = some x) (fun i h => IsTupIter h i2 b i ∧ IsTup h b its2.toArray) := tup_sub D.l2i2
    have li : i < its.length := (List.getElem?_eq_some_iff.mp hu).1
    have li2 : i < its2.length := (List.getElem?_eq_some_iff.mp hu2).1
    refine zip_next ⟨_, st.zip, rfl⟩ (own_turn S1 S2 (I.ok.hd hc) D st.zip st.ti e0 ⟨st.it1, p.isList⟩ ⟨st.it2, p2⟩ (fun v v2 g c1 c2 ev ev2 zg pg r1 r2 ng kg => ?_) fun g e c _ _ => ?_)
    · have ev : v = u := by simpa [hu] using ev.symm
      have ev2 : v2 = u2 := by simpa [hu2] using ev2.symm
      subst ev ev2
      refine ⟨_, rfl, wpAny_letOwnedTupleGo_zip (s := { s with heap := g }) zg fun g2 z2 sb => ?_⟩
      have hzl : z < s.heap.objs.size := Heap.lt_size st.zip
      have hT2 : g2.get? s.heap.objs.size = some { cls := .type "tuple", data := .seq #[v, v2] } := (sb.2 _ (Nat.ne_of_gt hzl)).trans ng
      have new : ObjOk X.prog X.w (upd H s.heap.objs.size (.tup [x, y])) g2 s.heap.objs.size (.tup [x, y]) := ⟨by show 2 ≤ sizeLine; decide, [v, v2], .cons ru (.cons ru2 .nil), ⟨_, hT2, rfl, _, rfl⟩⟩
      have k2 : Kept [z, TO, i1, i2] s.heap g2 := (kg.andThen (Kept.of sb)).weak (by simp)
      have I1 : Inv X pins σ (upd H s.heap.objs.size (.tup [x, y])) { s with heap := g2 } := I.turnedNew (t' := s.toks) (ch := [z, TI, TO, i1, i2]) (fun c o hb q => k2 c o (fun m => hb (by simp at m ⊢; rcases m with m | m | m | m <;> simp [m])) q) hf (Nat.le_refl _) new
      refine ⟨.ref s.heap.objs.size, _, I1, rfl, ⟨_, x, y, rfl, I.hok.fresh (Nat.le_refl _), rfl, fun l hl => by rw [I.list_inj hl hqx]; exact hx, fun l hl => by rw [I.tuple_inj hl hqy]; exact hy⟩, ⟨z2, ?_, ⟨v, v2, ?_⟩, ?_, ?_⟩, fun c hcm => ?_⟩
      · exact k2 _ _ (by simp [D.TIz, D.TITO, D.TIi1, D.TIi2]) st.ti
      · exact Kept.of sb _ _ (by simp [D.TOz]) pg
      · exact r1.1.at fun o q => Kept.of sb _ _ (by simp [D.i1z]) q
      · obtain ⟨o2, e2, q2⟩ := r2.1
        exact ⟨o2, Kept.of sb _ _ (by simp [D.i2z]) e2, q2⟩
      · obtain ⟨oc, ec, _⟩ := st.some hcm
        rw [upd_ne (Nat.ne_of_lt (Heap.lt_size ec))]
        exact (hf c hcm).1
    · simp at c
      omega
  done := by
    intro X hP hw hK hc i pins s σ H E I hf st hg
    subst hP hw hK
    obtain ⟨xs, ys, hqx, hqy, hend⟩ := hg
    obtain ⟨its, rv, p, _⟩ := I.list hqx
    obtain ⟨its2, rv2, p2, _⟩ := I.tuple hqy
    obtain ⟨c0, e0⟩ := st.to
    obtain ⟨d0, e0⟩ := e0
    have l1 := rv.length
    have l2 := rv2.length
    have S1 : SubIt X.prog X.w i1 a its.toArray.size (fun i x => its.toArray[i]? = some x) (fun i h => h.IsListIter i1 a i ∧ h.IsList a its.toArray) := list_sub D.l1i1
    have S2 : SubIt X.prog X.w i2 b its2.toArray.size (fun i x => its2.toArray[i]? = some x) (fun i h => IsTupIter h i2 b i ∧ IsTup h b its2.toArray) := tup_sub D.l2i2
    refine zip_next ⟨_, st.zip, rfl⟩ (own_turn S1 S2 (I.ok.hd hc) D st.zip st.ti e0 ⟨st.it1, p.isList⟩ ⟨st.it2, p2⟩ (fun v v2 g c1 c2 _ _ _ _ _ _ _ _ => ?_) fun g e c kg he => ⟨e, rfl, he, rfl, ?_⟩)
    · simp at c1 c2
      omega
    · exact I.turnedL (t' := s.toks) (ch := [z, TI, TO, i1, i2]) (fun c o hb q => kg c o (fun m => hb (by simp at m ⊢; rcases m with m | m | m | m <;> simp [m])) q) hf
  self := fun A i s Q E st h => wpAny_pyIter_zip st.zip h
def iZipt (K : PySem.W.Frag) (ta : TA) : TI := fun σ H R => ta σ H fun vs H1 => ∃ a b xs ys, vs = [.ref a, .ref b] ∧ SqL K H1 a xs ∧ SqT K H1 b ys ∧ R (Itzt K a b) H1
theorem pi_zipt {X : Cx} {e e2 : Expr} {ta : TA} {p pos tpos : Pos} {elts : List Expr} {kk : Nat} (hg : Gl X "zip") (hm : X.mg "zip" = none) (ha : PA X [e, e2] ta)
    (hs : starEach [e, e2] X.env = (false, eval e X.env) :: starEach [e2] X.env := by rfl) (hpl : (backTo pos (starEach [e2] X.env)).any (·.1) = false := by rfl) :
    PI X (.Tuple elts kk tpos) (.Call (.Name "zip" p) [e, e2] [] pos) (iZipt X.K ta) := by
  intro pins s σ H R I h
  refine Call_ (ld_blt I hg hm boot_zip5 (PyProof.Rows.callWith_type1 (thn (ha pos pins s σ H _ I h) fun us s1 ⟨vs, H1, I1, r1, q1⟩ => ?_) hs hpl))
  obtain ⟨a, b, xs, ys, rfl, hqx, hqy, q⟩ := q1
  obtain ⟨u, u2, rfl, ru, ru2⟩ := vals2 r1
  cases ru
  cases ru2
  obtain ⟨its, rv, p1, _⟩ := I1.list hqx
  obtain ⟨its2, rv2, p2, _⟩ := I1.tuple hqy
  have la : a < s1.heap.objs.size := p1.lt
  have lb : b < s1.heap.objs.size := p2.lt
  refine call_zip (iter_list p1.isList) (iter_tup (IsTup.push p2 _)) rfl rfl fun g hz hTI hTO h1 h2 hsz hk => wpAny_pyIter_zip hz ?_
  have I2 : Inv X pins σ H1 { s1 with heap := g } := I1.kept (t' := s1.toks) fun b u e => hk b u (by simp) e
  refine ⟨s1.heap.objs.size + 4, [s1.heap.objs.size + 4, s1.heap.objs.size + 2, s1.heap.objs.size + 3, s1.heap.objs.size, s1.heap.objs.size + 1], _, _, H1, rfl, I2, turn_zipt (PySem.W.ktu_apart s1.heap.objs.size a b la lb), ⟨hz, hTI, ⟨_, _, hTO⟩, ⟨_, h1, rfl, rfl⟩, ⟨_, h2, rfl, rfl⟩⟩, fun c hcm => ?_, q⟩
  have hle : s1.heap.objs.size ≤ c := by
    simp only [List.mem_cons, List.not_mem_nil, or_false] at hcm
    rcases hcm with rfl | rfl | rfl | rfl | rfl
    · exact Nat.le_add_right _ _
    · exact Nat.le_add_right _ _
    · exact Nat.le_add_right _ _
    · exact Nat.le_refl _
    · exact Nat.le_add_right _ _
  exact I1.fpOk hle (I1.hok.fresh hle)
/-- a comprehension over zip(list, tuple), by an invariant -/
theorem lc_zipt {K : PySem.W.Frag} {a b : Addr} {xs ys : List V} {g : TG} {tt : TT} {te : TE} {vs : List Nat} {σ : St} {H1 : Hp} {D : Addr} {Qd : Hp → Prop} (Pv : Nat → Hp → Prop) (h0 : Pv 0 (upd H1 D (.lst []))) (hl : ∀ i H, i ≤ min xs.length ys.length → Pv i H → SqL K H a xs ∧ SqT K H b ys)
    (hs : ∀ i x y T H, xs[i]? = some x → ys[i]? = some y → Pv i H → H T = none → g (.ref T) (wipe σ vs) (upd H T (.tup [x, y])) fun σ2 H2 => wipe σ2 vs = wipe σ vs ∧ tt σ2 H2 fun b H3 =>
      if b = true then te σ2 H3 fun y H4 => ∃ acc, H4 D = some (.lst acc) ∧ acc.length < sizeLine ∧ Pv (i + 1) (upd H4 D (.lst (acc ++ [y]))) else Pv (i + 1) H3) (hd : ∀ H, Pv (min xs.length ys.length) H → Qd H) :
    ∃ W : Nat → Nat → Hp → Prop, (∃ m, W 0 m (upd H1 D (.lst []))) ∧ ∀ i m H, W i m H →
      ((Itzt K a b).stop i H ∧ Qd H) ∨ ((Itzt K a b).go i H ∧ ∃ Nx : Hp → Prop, (∀ H', Nx H' → ∃ m', m' < m ∧ W (i + 1) m' H') ∧ ∀ x H', (Itzt K a b).yld i H x H' → g x (wipe σ vs) H' fun σ2 H2 => wipe σ2 vs = wipe σ vs ∧ tt σ2 H2 fun b H3 =>
        if b = true then te σ2 H3 fun y H4 => ∃ acc, H4 D = some (.lst acc) ∧ acc.length < sizeLine ∧ Nx (upd H4 D (.lst (acc ++ [y]))) else Nx H3) := by
  refine ⟨fun i m H => m = min xs.length ys.length - i ∧ i ≤ min xs.length ys.length ∧ Pv i H, ⟨min xs.length ys.length, by simp, Nat.zero_le _, h0⟩, ?_⟩
  rintro i m H ⟨rfl, hi, p⟩
  obtain ⟨q1, q2⟩ := hl i H hi p
  by_cases hlt : i < min xs.length ys.length
  · have e1 : xs[i]? = some xs[i] := List.getElem?_eq_getElem (by omega)
    have e2 : ys[i]? = some ys[i] := List.getElem?_eq_getElem (by omega)
    refine .inr ⟨⟨xs, ys, _, _, q1, q2, e1, e2⟩, Pv (i + 1), fun H' p' => ⟨min xs.length ys.length - (i + 1), by omega, rfl, hlt, p'⟩, fun x H' y => ?_⟩
    obtain ⟨T, x, y, rfl, hT, rfl, f1, f2⟩ := y
    exact hs i x y T _ (f1 xs q1) (f2 ys q2) p hT
  · have e : i = min xs.length ys.length := by omega
    subst e
    exact .inl ⟨⟨xs, ys, q1, q2, by omega⟩, hd H p⟩
end L2
end

section
set_option Elab.async false
set_option linter.all false
set_option maxRecDepth 100000
set_option maxHeartbeats 1000000
namespace L2
open PySem PySem.Spec PyProof.Rows Zp

/-! ### a zip has no attribute 'keys' -/
theorem zip_keys_none : typeLookup (.type "zip") "keys" = pure none := am_miss_of_fast (by first | decide +kernel | rfl)
theorem zip_getattr_none : typeLookup (.type "zip") "__getattr__" = pure none := am_miss_of_fast (by first | decide +kernel | rfl)
theorem zip_getattribute : entryFor table "zip.__getattribute__" = some Builtin.«object.__getattribute__» := entryFor_alias (id' := "object.__getattribute__") (by kernel_rfl) (by decide +kernel) (by decide +kernel) (by kernel_rfl)
theorem meets_no_keys (z TI TO : Addr) (f0 : Value) (b : Bool) (u : Tok) :
    Meets (Builtin.«object.__getattribute__» ⟨[.ref z, .str "keys" u], []⟩) (fun A R s => ZipAt s.heap z TI TO f0 b ∧ raisesAttr (.ref z) "keys" A R s) :=
  Meets.of_wp fun prog w A R s hq => by
    obtain ⟨hp, g, d, tk, os⟩ := s
    obtain ⟨hx, hs⟩ := hq
    have hx : hp.get? z = some { cls := .type "zip", dict := none, data := .fields #[f0, .bool b, .bool false, .ref TI, .ref TO], slots := #[] } := hx
    have hT : (⟨hp, g, d, tk, os⟩ : Shared).TypeIs (.ref z) "zip" := ⟨_, hx, rfl⟩
    have none1 := zip_keys_none
    have plain : (["__module__", "__name__", "__qualname__", "__doc__", "__annotations__"] : List Str).contains "keys" = false := by decide +kernel
    have fits : ("keys" : Str).length + 100 ≤ sizeLine := by first | size_fits | decide +kernel
    (unfold Builtin.«object.__getattribute__»)
    repeat (any_goals (first | assumption | wp_step))
    try simp only [plain, Bool.false_eq_true, if_false]
    try (repeat (any_goals (first | assumption | wp_step)))
    exact wpAny_raiseAttrError hs.1 hs.2 (attrMsg_fits (by decide +kernel) fits)
section
variable {prog : Program} {w : World} {A : Around} {E : Value → Shared → Prop}
theorem miss_zip {s : Shared} {z TI TO : Addr} {f0 : Value} {b : Bool} {Q : Option Value → Shared → Prop} (hx : ZipAt s.heap z TI TO f0 b) (hA : A.handled = none)
    (h : ∀ g tk, Kept [] s.heap g → Q none { s with heap := g, toks := tk }) : wpAny (model prog w) A (getAttr? (.ref z) "keys") Q E s := by
  obtain ⟨hp, g, d, tk, os⟩ := s
  have hT : ∀ tk', (⟨hp, g, d, tk', os⟩ : Shared).TypeIs (.ref z) "zip" := fun _ => ⟨_, hx, rfl⟩
  have none1 := zip_keys_none
  have fits : ("keys" : Str).length + 100 ≤ sizeLine := by first | size_fits | decide +kernel
  have g1 := sub_AttributeError
  have g2 := PySem.F.slot_zip_getattribute.lookup
  have g3 := PySem.F.slot_zip_getattribute.bind (.ref z)
  have g4 := zip_getattr_none
  unfold getAttr? getAttrBy? getAttrBy
  repeat (any_goals (first | assumption | exact hT _ | ((with_reducible show wpAny _ _ (call (Value.builtin "zip.__getattribute__") _ _) _ _ _); refine call_meets PySem.F.slot_zip_getattribute (hT _) zip_getattribute (PySem.F.args_zip_getattribute_2 _ _) (meets_no_keys z TI TO f0 b _) ⟨hx, hA, fun h' tk' e hx' => ?_⟩) | wp_step))
  obtain ⟨t', u', he⟩ := hx'.there
  show wpAny _ _ (getattributeRaised _ _ _ _ _ _ _) _ _ _
  unfold getattributeRaised
  repeat (any_goals (first | assumption | wp_step))
  all_goals first | exact h _ _ (fun b o _ e => hx'.keeps b o e) | (dsimp only; repeat (any_goals (first | assumption | exact h _ _ (fun b o _ e => hx'.keeps b o e) | wp_step)))
end
end L2
end

section
set_option Elab.async false
set_option linter.all false
set_option maxRecDepth 100000
set_option maxHeartbeats 1000000
namespace L2
open PySem PySem.Spec PyProof.Rows Zp

section
variable {prog : Program} {w : World} {A : Around} {E : Value → Shared → Prop}
/-- the pairs of a zip are put into the dict at S, one after another -/
theorem zip_loop {R : Result → Shared → Prop} {S z TI TO i1 i2 l1 l2 : Addr} {n1 n2 : Nat} {val1 val2 : Nat → Value → Prop} {st1 st2 : Nat → Heap → Prop} {res : Value} (hh : A.handled = none) (D : ZipApart z TI TO i1 i2 l1 l2)
    (S1 : SubIt prog w i1 l1 n1 val1 st1) (S2 : SubIt prog w i2 l2 n2 val2 st2) (nS : S ∉ [z, TO, i1, i2]) (nT : TI ≠ S) (nl : l1 ≠ S ∧ l2 ≠ S) :
    ∀ (rest : List (Key × Value)) (i : Nat) (acc : List (Key × Value)) (ix : Int) (t : Tok) (s : Shared), i + rest.length = min n1 n2 → acc.length + rest.length ≤ sizeLine →
      (∀ (j : Nat) (q : Key × Value), rest[j]? = some q → (∀ x, val1 (i + j) x → keyIs q.1 x = true) ∧ ∀ y, val2 (i + j) y → y = q.2) →
      (∀ c ∈ [z, i1, i2, S], c < s.heap.objs.size) → ZSt [z, i1, i2, S] z TI TO s.heap → IsPair s.heap TI (.ref i1) (.ref i2) → st1 i s.heap → st2 i s.heap → s.heap.DictOf (mixKind prog w) S acc →
      (∀ g tk, g.DictOf (mixKind prog w) S (merged acc rest) → Kept [S, z, TO, i1, i2] s.heap g → R (.ok (.ret res)) { s with heap := g, toks := tk }) →
      codeAny (model prog w) A (.builtin "dict.update.loop" ⟨[.ref S, .ref z, .int ix t, res], []⟩) R s := by
  have nz : S ≠ z ∧ S ≠ TO ∧ S ≠ i1 ∧ S ≠ i2 := by simpa using nS
  intro rest
  induction rest with
  | nil =>
    intro i acc ix t s hn hl ht hb hz hTI q1 q2 hm hR
    refine codeAny_builtin ud_entry ?_
    rw [Around.under_plainId ud_plain _]
    refine wpAny_bind (m := pyNext (.ref z)) (zst_next S1 S2 (A := A.in1) hh D (by simp) (by simp) (by simp) hb hz hTI q1 q2 (fun x y g c1 c2 _ _ _ _ _ _ _ => ?_) fun g _ kg => ?_)
    · simp only [List.length_nil] at hn
      omega
    · exact wpAny_bind (m := Builtin.Dict.addKeywords S []) (wpAny_pure (wpAny_pure (hR g s.toks (hm.at fun o e => kg _ _ nS e) (kg.weak (by simp)))))
  | cons q rest ih =>
    intro i acc ix t s hn hl ht hb hz hTI q1 q2 hm hR
    rw [List.length_cons] at hn hl
    obtain ⟨hk, hv⟩ := ht 0 q rfl
    refine codeAny_builtin ud_entry ?_
    rw [Around.under_plainId ud_plain _]
    refine wpAny_bind (m := pyNext (.ref z)) (zst_next S1 S2 (A := A.in1) hh D (by simp) (by simp) (by simp) hb hz hTI q1 q2 (fun x y g c1 c2 vx vy zg r1 r2 ng kg => ?_) fun g c _ => ?_)
    case refine_2 => omega
    have hk := hk x vx
    have hv := hv y vy
    subst hv
    have hm1 : g.DictOf (mixKind prog w) S acc := hm.at fun o e => kg _ _ nS e
    have sz : s.heap.objs.size < g.objs.size := Heap.lt_size ng
    refine wpAny_bind (m := holding [Value.ref s.heap.objs.size] _) (wpAny_holding (wpAny_bind (wpAny_tryCatch ?_)))
    unfold Builtin.Dict.pairItems
    refine wpAny_bind (wpAny_typeOf (T := "tuple") ⟨_, ng, rfl⟩ ?_)
    rw [if_pos (by first | decide | rfl | simp)]
    refine wpAny_bind (wpAny_seqItems ng rfl (wpAny_pure ?_))
    refine wpAny_holding (wpAny_dictSet_pairs (knd := mixKind prog w) (k := q.1) hk hm1 (fun g2 hm2 sb => ?_) (by omega))
    have k2 : Kept [S] g g2 := Kept.of sb
    refine wpAny_pure ⟨plainId_quiet ud_plain _, ih (i + 1) (stored acc q.1 q.2) (ix + 1) 0 _ (by omega) ?_ (fun j q' e => ?_) (fun c hc => ?_) (zg.but (by simp) nz.1.symm nz.2.1.symm k2) ?_ ?_ ?_ hm2 fun g' tk hd' kg' => ?_⟩
    · have := stored_length_le acc q.1 q.2
      omega
    · have := ht (j + 1) q' (by simpa using e)
      rw [show i + 1 + j = i + (j + 1) by omega]
      exact this
    · show c < g2.objs.size
      rw [sb.1]
      exact Nat.lt_trans (hb c hc) sz
    · exact k2 _ _ (by simp [nT]) (kg _ _ (by simp [D.TIz, D.TITO, D.TIi1, D.TIi2]) hTI)
    · exact S1.keep r1 k2 (by simp [nz.2.2.1.symm]) (by simp [nl.1])
    · exact S2.keep r2 k2 (by simp [nz.2.2.2.symm]) (by simp [nl.2])
    · exact hR g' tk hd' ((kg.andThen (k2.andThen kg')).weak (by simp))

/-- dict(z) of a new zip -/
theorem call_dict_zip {s : Shared} {z TI TO i1 i2 l1 l2 : Addr} {n1 n2 : Nat} {val1 val2 : Nat → Value → Prop} {st1 st2 : Nat → Heap → Prop} {prs : List (Key × Value)} {Q : Value → Shared → Prop} (hh : A.handled = none) (D : ZipApart z TI TO i1 i2 l1 l2)
    (S1 : SubIt prog w i1 l1 n1 val1 st1) (S2 : SubIt prog w i2 l2 n2 val2 st2) (hn : prs.length = min n1 n2) (hl : prs.length ≤ sizeLine)
    (ht : ∀ (j : Nat) (q : Key × Value), prs[j]? = some q → (∀ x, val1 j x → keyIs q.1 x = true) ∧ ∀ y, val2 j y → y = q.2)
    (hz : ZipAt s.heap z TI TO .none false) (hTI : IsPair s.heap TI (.ref i1) (.ref i2)) (hTO : ∃ a b, IsPair s.heap TO a b) (q1 : st1 0 s.heap) (q2 : st2 0 s.heap) (b1 : l1 < s.heap.objs.size) (b2 : l2 < s.heap.objs.size)
    (h : ∀ g tk, g.DictOf (mixKind prog w) s.heap.objs.size (merged [] prs) → Kept [z, TO, i1, i2] s.heap g → Q (.ref s.heap.objs.size) { s with heap := g, toks := tk }) :
    wpAny (model prog w) A (call (.type "dict") [.ref z]) Q E s := by
  refine callType_codes (Q₁ := fun obj s₁ => obj = .ref s.heap.objs.size ∧ s₁ = { s with heap := s.heap.push { cls := .type "dict", data := .dict #[] } }) PySem.F.kt_called_dict (PySem.F.kt_typeCall_dict_1 _) PySem.F.entry_dict_init (kt_code_dict_new _ ⟨rfl, rfl⟩) ?_
  rintro obj s₁ ⟨rfl, rfl⟩
  have new : (s.heap.push { cls := .type "dict", data := .dict #[] }).DictOf (mixKind prog w) s.heap.objs.size [] := Heap.DictOf.new s.heap
  have k0 := Kept.push s.heap { cls := .type "dict", data := .dict #[] }
  have z0 : ZipAt (s.heap.push { cls := .type "dict", data := .dict #[] }) z TI TO .none false := k0 _ _ (by simp) hz
  refine ⟨new.typeIs, PySem.F.args_dict_init_2 _ _, ?_⟩
  unfold Builtin.«dict.__init__»
  refine wpAny_bind ?_
  unfold Builtin.Dict.selfAndRest
  refine wpAny_bind (wpAny_notOrdered_dict new.typeIs (wpAny_pure (a := (s.heap.objs.size, [Value.ref z])) ?_))
  show wpAny _ _ (Builtin.Dict.updateFrom "dict.__init__" s.heap.objs.size (.ref z) [] .none) _ _ _
  unfold Builtin.Dict.updateFrom
  refine wpAny_bind (wpAny_typeOf (T := "zip") ⟨_, z0, rfl⟩ ?_)
  rw [if_pos (by first | decide | rfl | simp)]
  refine wpAny_bind (miss_zip z0 hh fun g1 tk1 kg1 => ?_)
  rw [if_pos (show (none : Option Value).isNone = true from rfl)]
  have k1 : Kept [] s.heap g1 := k0.andThen kg1
  have z1 : ZipAt g1 z TI TO .none false := k1 _ _ (by simp) hz
  refine wpAny_bind (wpAny_rule (wpAny_bind (wpAny_pyIter_zip z1 ?_)))
  have top : s.heap.objs.size < g1.objs.size := by
    have e : (s.heap.push { cls := .type "dict", data := .dict #[] }).get? s.heap.objs.size = some { cls := .type "dict", data := .dict #[] } := Heap.get?_push_size _ rfl
    exact Heap.lt_size (kg1 _ _ (by simp) e)
  have lz : z < s.heap.objs.size := Heap.lt_size hz
  obtain ⟨a0, c0, eTO⟩ := hTO
  have lTO : TO < s.heap.objs.size := Heap.lt_size eTO
  have lTI : TI < s.heap.objs.size := Heap.lt_size hTI
  have lI1 : i1 < s.heap.objs.size := by obtain ⟨_, e, _⟩ := S1.obj q1; exact Heap.lt_size e
  have lI2 : i2 < s.heap.objs.size := by obtain ⟨_, e, _⟩ := S2.obj q2; exact Heap.lt_size e
  have key := zip_loop (prog := prog) (w := w) (A := A.in1) (R := wants (fun r s₂ => r = .none ∧ Q (.ref s.heap.objs.size) s₂) E) (S := s.heap.objs.size) (res := Value.none) hh D S1 S2
    (by simp [Nat.ne_of_gt lz, Nat.ne_of_gt lTO, Nat.ne_of_gt lI1, Nat.ne_of_gt lI2]) (Nat.ne_of_lt lTI) ⟨Nat.ne_of_lt b1, Nat.ne_of_lt b2⟩ prs 0 [] 0 0 { s with heap := g1, toks := tk1 } (by rw [Nat.zero_add]; exact hn) (by rw [List.length_nil, Nat.zero_add]; exact hl)
    (fun j q e => by rw [Nat.zero_add]; exact ht j q e)
    (fun c hc => by
      simp only [List.mem_cons, List.not_mem_nil, or_false] at hc
      rcases hc with rfl | rfl | rfl | rfl
      · exact Nat.lt_trans lz top
      · exact Nat.lt_trans lI1 top
      · exact Nat.lt_trans lI2 top
      · exact top)
    (.inl ⟨z1, a0, c0, k1 _ _ (by simp) eTO⟩) (k1 _ _ (by simp) hTI) (S1.keep q1 k1 (by simp) (by simp)) (S2.keep q2 k1 (by simp) (by simp)) (new.at fun o e => kg1 _ _ (by simp) e)
    (fun g tk hd' kg => ⟨rfl, h g tk hd' fun c o n e => kg c o (by
      have : c ≠ s.heap.objs.size := Nat.ne_of_lt (Heap.lt_size e)
      simp at n ⊢
      exact ⟨this, n⟩) (k1 _ _ (by simp) e)⟩)
  first
    | exact wpAny_pure ⟨plainId_quiet ud_plain _, key⟩
    | exact wpAny_bind (wpAny_pure (wpAny_pure ⟨plainId_quiet ud_plain _, key⟩))
end

/-! ### dict(zip(d, xs)), d locked -/
def tDictZip (K : PySem.W.Frag) (ta : TA) : TE := fun σ H Q => ta σ H fun vs H1 => ∃ (d b : Addr) (od : Obj) (kvs : List (Key × V)) (ys : List V), vs = [.ref d, .ref b] ∧ H1 d = some (.frz od (.dK kvs)) ∧ SqL K H1 b ys ∧
  ∀ p, H1 p = none → Q (.ref p) (upd H1 p (.dK (mergeK [] ((kvs.map (·.1)).zip ys))))
theorem kv_zip : ∀ {ks : List Key} {ys : List V} {us : List Value}, Vals ys us → KV (ks.zip ys) (ks.zip us)
  | [], _, _, _ => .nil
  | k :: ks, _, _, .nil => .nil
  | k :: ks, _, _, .cons r t => .cons ⟨rfl, r⟩ (kv_zip t)
theorem kv_keys {kvs : List (Key × V)} {vs : List (Key × Value)} (kv : KV kvs vs) : kvs.map (·.1) = vs.map (·.1) := by
  unfold KV at kv
  induction kv with
  | nil => rfl
  | cons r t ih => rw [List.map_cons, List.map_cons, ih, r.1]
theorem pe_dictzip {X : Cx} {e e2 : Expr} {ta : TA} {p p2 pos pos2 : Pos} (hc : X.calm = true) (hg : Gl X "dict") (hm : X.mg "dict" = none) (hg2 : Gl X "zip") (hm2 : X.mg "zip" = none) (ha : PA X [e, e2] ta)
    (hs1 : starEach [.Call (.Name "zip" p2) [e, e2] [] pos2] X.env = (false, eval (.Call (.Name "zip" p2) [e, e2] [] pos2) X.env) :: starEach [] X.env := by rfl)
    (hs : starEach [e, e2] X.env = (false, eval e X.env) :: starEach [e2] X.env := by rfl) (hpl : (backTo pos2 (starEach [e2] X.env)).any (·.1) = false := by rfl) :
    PE X (.Call (.Name "dict" p) [.Call (.Name "zip" p2) [e, e2] [] pos2] [] pos) (tDictZip X.K ta) := by
  intro pins s σ H Q I h
  refine Call_ (ld_blt I hg hm PyProof.Rows.boot_dict (PyProof.Rows.callWith_type1 (args_cons ?_ hs1) hs1 rfl))
  refine Call_ (ld_blt I hg2 hm2 boot_zip5 (PyProof.Rows.callWith_type1 (thn (ha pos2 pins s σ H _ I h) fun us s1 ⟨vs, H1, I1, r1, q1⟩ => ?_) hs hpl))
  obtain ⟨d, b, od, kvs, ys, rfl, hd, hqy, q⟩ := q1
  obtain ⟨u, u2, rfl, ru, ru2⟩ := vals2 r1
  cases ru
  cases ru2
  obtain ⟨hsys, hgd, hx, es, ep, vs, hdt, hsz, kv, hdm⟩ := I1.frzK hd
  obtain ⟨its, rv, p2', hzl⟩ := I1.list hqy
  have ld : d < s1.heap.objs.size := Heap.lt_size hgd
  have lb : b < s1.heap.objs.size := p2'.lt
  refine call_zip (iter_dict hsys hgd hx hdt) (iter_list (Heap.IsList.push p2'.isList _)) rfl rfl fun g hz hTI hTO h1 h2 hsz2 hk => args_nil ?_
  have D := PySem.W.ktu_apart s1.heap.objs.size d b ld lb
  have S1 : SubIt X.prog X.w s1.heap.objs.size d es.size _ _ := key_sub (od := od) (ep := ep) (Nat.ne_of_lt ld) hdt
  have S2 : SubIt X.prog X.w (s1.heap.objs.size + 1) b its.toArray.size _ _ := list_sub (Nat.ne_of_lt (Nat.lt_succ_of_lt lb))
  obtain ⟨od', es', ho', _, hdt', _, hpairs, _⟩ := hdm
  have eo : od' = od := Option.some.inj (ho'.symm.trans hgd)
  subst eo
  have ees : es' = es := (dict_ep hdt hdt').1
  subst ees
  have hlen := rv.length
  have lk : kvs.length = vs.length := Paired.length kv
  have ek : kvs.map (·.1) = vs.map (·.1) := kv_keys kv
  have lp : es'.size = vs.length := by rw [hsz, lk]
  refine call_dict_zip (prs := (vs.map (·.1)).zip its) (I1.ok.hd hc) D S1 S2 (by rw [List.length_zip, List.length_map]; simp [lp]) (by rw [List.length_zip, List.length_map]; omega) (fun j q' e => ?_) hz hTI ⟨_, _, hTO⟩ ⟨⟨_, h1, rfl, rfl⟩, hk _ _ (by simp) hgd⟩
    ⟨⟨_, h2, rfl, rfl⟩, p2'.isList.at fun o e => hk _ _ (by simp) e⟩ (by rw [hsz2]; exact Nat.lt_trans ld (Nat.lt_add_of_pos_right (by decide))) (by rw [hsz2]; exact Nat.lt_trans lb (Nat.lt_add_of_pos_right (by decide))) fun g2 tk hd' kg => ?_
  · rw [List.getElem?_zip_eq_some] at e
    obtain ⟨e1, e2⟩ := e
    rw [List.getElem?_map] at e1
    cases z : vs[j]? with
    | none => rw [z] at e1; cases e1
    | some kv' =>
      rw [z] at e1
      have e1 : kv'.1 = q'.1 := Option.some.inj e1
      refine ⟨fun x ⟨en, hen, ex⟩ => ?_, fun y hy => ?_⟩
      · have := hpairs.get? (i := j) (e := en) (k := kv'.1) (v := kv'.2) (by simpa using hen) z
        rw [ex, ← e1]
        exact this.1
      · have : its[j]? = some y := by simpa using hy
        rw [this] at e2
        exact Option.some.inj e2
  · have kk : ∀ b u, s1.heap.get? b = some u → g2.get? b = some u := fun b u e => kg b u (by
      have := Heap.lt_size e
      have n0 : b ≠ s1.heap.objs.size := Nat.ne_of_lt this
      have n1 : b ≠ s1.heap.objs.size + 1 := Nat.ne_of_lt (Nat.lt_trans this (Nat.lt_add_of_pos_right (by decide)))
      have n3 : b ≠ s1.heap.objs.size + 3 := Nat.ne_of_lt (Nat.lt_trans this (Nat.lt_add_of_pos_right (by decide)))
      have n4 : b ≠ s1.heap.objs.size + 4 := Nat.ne_of_lt (Nat.lt_trans this (Nat.lt_add_of_pos_right (by decide)))
      simp [n0, n1, n3, n4]) (hk _ _ (by simp) e)
    have hle : s1.heap.objs.size ≤ g.objs.size := by rw [hsz2]; exact Nat.le_add_right _ _
    have hm' : (g.objs.size == sysModules) = false := beq_eq_false_iff_ne.mpr (Nat.ne_of_gt (Nat.lt_of_lt_of_le I1.big hle))
    have rel : KV ((kvs.map (·.1)).zip ys) ((vs.map (·.1)).zip its) := by rw [ek]; exact kv_zip rv
    have hl2 : (mergeK [] ((kvs.map (·.1)).zip ys)).length ≤ sizeLine := by
      refine Nat.le_trans (length_mergeK _ []) ?_
      rw [List.length_nil, Nat.zero_add, List.length_zip]
      omega
    exact ⟨.ref g.objs.size, upd H1 g.objs.size (.dK (mergeK [] ((kvs.map (·.1)).zip ys))), I1.laid (t' := tk) kk hle (show ObjOk X.prog X.w _ _ _ (.dK (mergeK [] ((kvs.map (·.1)).zip ys))) from ⟨hl2, hm', merged [] ((vs.map (·.1)).zip its), KV.merge rel .nil, hd'⟩), rfl, q _ (I1.hok.fresh hle)⟩
end L2
end

section
set_option Elab.async false
set_option linter.all false
set_option maxRecDepth 100000
set_option maxHeartbeats 1000000
namespace L2
open PySem PySem.Spec PyProof.Rows

/-! ### a dict of the module, its keys ints -/
inductive Ents : List DictEntry → List (Int × V) → Prop
  | nil : Ents [] []
  | cons {e : DictEntry} {k : Int} {v : V} {r : List DictEntry} {q : List (Int × V)} : (∃ t, e.key = .int k t) → e.hash = hashInt k → RelV v e.val → Ents r q → Ents (e :: r) ((k, v) :: q)
structure KDict (K : PySem.W.Frag) (a : Addr) (kvs : List (Int × V)) : Prop where
  ex : ∃ es n, K.lookup a = some ⟨.type "dict", none, .dict es n, #[]⟩ ∧ Ents es.toList kvs
  lo : (a == sysModules) = false
theorem Ents.keys {P : Program} {w : World} {l : List DictEntry} {kvs : List (Int × V)} (h : Ents l kvs) : ∀ e ∈ l, ∃ k, (mixKind P w).is k e.key = true ∧ e.hash = (mixKind P w).hash k := by
  induction h with
  | nil => intro e he; cases he
  | @cons e k v r q h1 h2 h3 t ih =>
    intro e' he'
    rcases (List.mem_cons.mp he') with rfl | he'
    · obtain ⟨t', ht⟩ := h1
      exact ⟨Sum.inl k, by rw [ht]; exact keyIs_int k t', h2⟩
    · exact ih e' he'
theorem isInt_key {z k : Int} {t : Tok} : keyIs (Sum.inl z) (.int k t) = decide (z = k) := by
  by_cases h : z = k
  · subst h
    rw [keyIs_int, decide_eq_true rfl]
  · rw [decide_eq_false h]
    cases e : keyIs (Sum.inl z) (.int k t) with
    | false => rfl
    | true =>
      rcases keyIs_shape e with ⟨i, u, e1, e2⟩ | ⟨x, u, e1, e2⟩
      · cases e1
        cases e2
        exact absurd rfl h
      · cases e1
theorem Ents.find {l : List DictEntry} {kvs : List (Int × V)} (h : Ents l kvs) (z : Int) : RelO (kvs.lookup z) ((l.find? fun e => keyIs (Sum.inl z) e.key).map (·.val)) := by
  induction h with
  | nil => exact trivial
  | @cons e k v r q h1 h2 h3 t ih =>
    obtain ⟨t', ht⟩ := h1
    rw [List.find?_cons, ht, isInt_key, List.lookup_cons]
    by_cases c : z = k
    · subst c
      simp only [decide_true, beq_self_eq_true]
      exact h3
    · have : (z == k) = false := beq_eq_false_iff_ne.mpr c
      simp only [decide_eq_false c, this]
      exact ih
theorem KDict.map {P : Program} {w : World} {K : PySem.W.Frag} {h : Heap} {a : Addr} {kvs : List (Int × V)} (d : KDict K a kvs) (X : K.In h) : ∃ f : Key → Option Value, h.MapOf (mixKind P w) a f ∧ ∀ z, RelO (kvs.lookup z) (f (Sum.inl z)) := by
  obtain ⟨es, n, hl, he⟩ := d.ex
  refine ⟨fun k => findBy keyIs es k, ⟨_, es, n, X _ _ hl, ⟨rfl, rfl, rfl⟩, rfl, fun e m => he.keys e (Array.mem_toList_iff.mpr m), fun _ => rfl⟩, fun z => ?_⟩
  have := he.find z
  show RelO _ (findBy keyIs es (Sum.inl z))
  unfold findBy
  rw [← Array.find?_toList]
  exact this
def rKD (K : PySem.W.Frag) : R2 := fun x y H Q => ∃ a kvs z v, x = .ref a ∧ y = .int z ∧ KDict K a kvs ∧ kvs.lookup z = some v ∧ Q v H
def rInKD (K : PySem.W.Frag) : R2 := fun x y H Q => ∃ a kvs z, x = .int z ∧ y = .ref a ∧ KDict K a kvs ∧ Q (.bl (kvs.lookup z).isSome) H
section
variable {X : Cx}
theorem ix_kd : IxR X (rKD X.K) := by
  intro value slice pins s σ H x y v u Q I rx ry h hs
  obtain ⟨a, kvs, z, r, rfl, rfl, hd, hv, q⟩ := h
  cases rx
  obtain ⟨t, rfl⟩ := ry
  obtain ⟨f, hm, hf⟩ := hd.map (P := X.prog) (w := X.w) I.kIn
  obtain ⟨w', hw, rw'⟩ := RelO.some_of (v := r) (o := f (Sum.inl z)) (by rw [← hv]; exact hf z)
  exact tail_any hm.typeIs slot_dict_getitem.lookup (wpAny_getItem_of (k := Sum.inl z) (keyIs_int z t) hm hw ⟨r, H, I.tok _, rw', q⟩) hs
theorem op_in_kd : OpR X (compareOp .In) (rInKD X.K) := by
  intro pins s σ H x y v u Q I rx ry h
  obtain ⟨a, kvs, z, rfl, rfl, hd, q⟩ := h
  cases ry
  obtain ⟨t, rfl⟩ := rx
  obtain ⟨f, hm, hf⟩ := hd.map (P := X.prog) (w := X.w) I.kIn
  refine wpAny_in_of (k := Sum.inl z) (keyIs_int z t) hd.lo hm ⟨.bl (kvs.lookup z).isSome, H, I.tok _, ?_, q⟩
  show Value.bool (f (Sum.inl z)).isSome = Value.bool (kvs.lookup z).isSome
  have e := hf z
  cases c : kvs.lookup z with
  | none =>
    rw [c] at e
    rw [RelO.none_of e]
    rfl
  | some r =>
    rw [c] at e
    obtain ⟨w', hw, _⟩ := RelO.some_of e
    rw [hw]
    rfl
/-! ### the call of a function that an expression gives -/
/-- f is a def that keeps the promise sp, and may be called with k levels of room -/
def Callable (X : Cx) (k : Nat) (f : Addr) (sp : Sp) : Prop := ∃ fd ps, FnOk X.prog X.w X.K X.mg X.base CX0 k f fd ps sp ∧ Binds X.K fd ps [] ∧ PySem.W.keepIn X.K (.ref f) = true
def tCallV (X : Cx) (k : Nat) (tf : TE) (t : TA) : TE := fun σ H Q => tf σ H fun x H1 => ∃ f sp, x = .ref f ∧ Callable X k f sp ∧ t σ H1 fun vs H2 => sp vs H2 Q E0
theorem pe_callV {k : Nat} {fe e : Expr} {es : List Expr} {tf : TE} {t : TA} {pos : Pos} (hr : Room k X.A) (hf : PE X fe tf) (ha : PA X (e :: es) t)
    (he : starEach (e :: es) X.env = (false, eval e X.env) :: starEach es X.env := by rfl) (hpl : (backTo pos (starEach es X.env)).any (·.1) = false := by rfl)
    (hc : eval (.Call fe (e :: es) [] pos) X.env = (do callWith pos (← eval fe X.env) [] (backTo pos (starEach (e :: es) X.env)) (backToKw pos (keywordEach [] X.env))) := by rfl) :
    PE X (.Call fe (e :: es) [] pos) (tCallV X k tf t) := by
  intro pins s σ H Q I h
  refine Call_ (thn (hf pins s σ H _ I h) fun v s1 ⟨x, H1, I1, r1, q1⟩ => ?_) hc
  obtain ⟨f, sp, rfl, ⟨fd, ps, F, hb, hk⟩, q1⟩ := q1
  cases r1
  refine PySem.W.callWith_K (h₀ := X.base) I1.ok.mod.kin hk (thn (ha pos pins s1 σ H1 _ I1 q1) fun us s2 ⟨vs, H2, I2, r, q⟩ => ⟨I2.kIn, ?_⟩) he hpl
  exact run_fn F hr hb .nil pass0 I2 r (by rw [List.append_nil]; exact q)
end
/-- a tuple of the module -/
theorem SqT.k {K : PySem.W.Frag} {H : Hp} {a : Addr} {oc : Value} {od : Option Addr} {its : Array Value} {n : Nat} {sl : Array (Option Value)} {xs : List V} (h : K.lookup a = some ⟨oc, od, .seq its n, sl⟩) (hc : oc = .type "tuple") (hs : its.size ≤ sizeLine) (hv : Vals xs its.toList) : SqT K H a xs :=
  .inr ⟨_, its, n, h, hc, rfl, hs, hv⟩
end L2
end

section
set_option linter.all false
/-! What a call does to a state that may be. -/
namespace My
open Vbrgac (Actor Effect speed ready passed leastOf until_ run rounds runs earlier put queue first change acted State Call)

theorem WfA.mono {B B' : Int} {a : Actor} (w : WfA B a) (h : B ≤ B') : WfA B' a := ⟨w.b1, w.b2, w.few, w.eff, by have := w.en; omega⟩
theorem Wf.mono {B B' : Int} {st : State} (w : Wf B st) (h : B ≤ B') : Wf B' st := ⟨w.few, fun a ha => (w.act a ha).mono h, w.inc, w.num⟩
theorem run_wf {B : Int} : ∀ (k most : Nat) (l : List Actor), (∀ a ∈ l, WfA B a) → ∀ a ∈ (Vbrgac.run k most l).1, WfA B a
  | 0, _, _, h => h
  | k + 1, most, l, h => by
    unfold Vbrgac.run
    split
    · exact h
    · split
      · exact h
      · rename_i n _
        refine run_wf k (most - min n most) (l.map (passed (min n most))) fun a ha => ?_
        obtain ⟨b, hb, rfl⟩ := List.mem_map.mp ha
        exact (h b hb).passed _
theorem runs_wf {B : Int} {most : Nat} {st : State} (w : Wf B st) (t : Nat) : Wf B { st with actors := (runs most st.actors).1, now := st.now + t } := by
  have hn := runs_nums most st.actors
  refine ⟨?_, run_wf _ _ _ w.act, ?_, fun a ha => ?_⟩
  · have := congrArg List.length hn
    rw [List.length_map, List.length_map] at this
    show (runs most st.actors).1.length ≤ 16
    rw [this]
    exact w.few
  · show ((runs most st.actors).1.map fun a => a.num).Pairwise (· < ·)
    rw [hn]
    exact w.inc
  · have : a.num ∈ (runs most st.actors).1.map fun a => a.num := List.mem_map.mpr ⟨a, ha, rfl⟩
    rw [hn] at this
    obtain ⟨b, hb, e⟩ := List.mem_map.mp this
    rw [← e]
    exact w.num b hb
theorem change_wf {B B' : Int} {st : State} (w : Wf B st) (n : Nat) (g : Actor → Actor) (hn : ∀ a, (g a).num = a.num) (hB : B ≤ B') (hg : ∀ a ∈ st.actors, a.num = n → WfA B' (g a)) : Wf B' { st with actors := change n g st.actors } := by
  have nums : ((change n g st.actors).map fun a => a.num) = st.actors.map fun a => a.num := by
    unfold change
    rw [List.map_map]
    refine List.map_congr_left fun a _ => ?_
    show (if a.num = n then g a else a).num = a.num
    split
    · exact hn a
    · rfl
  refine ⟨by show (change n g st.actors).length ≤ 16; unfold change; rw [List.length_map]; exact w.few, fun a ha => ?_, by show ((change n g st.actors).map fun a => a.num).Pairwise (· < ·); rw [nums]; exact w.inc, fun a ha => ?_⟩
  · obtain ⟨b, hb, rfl⟩ := List.mem_map.mp ha
    by_cases c : b.num = n
    · simp only [c, if_true]
      exact hg b hb c
    · simp only [c, if_false]
      exact (w.act b hb).mono hB
  · have : a.num ∈ (change n g st.actors).map fun a => a.num := List.mem_map.mpr ⟨a, ha, rfl⟩
    rw [nums] at this
    obtain ⟨b, hb, e⟩ := List.mem_map.mp this
    rw [← e]
    exact w.num b hb
/-- a call whose arguments are within their ranges -/
def Okc : Call → Prop
  | .come v e => 1 ≤ v ∧ v ≤ 1000 ∧ -1000000 ≤ e ∧ e ≤ -1
  | .act _ c => c ≤ 1000000
  | .effect _ _ t => 1 ≤ t ∧ t ≤ 1000000
  | .speed _ v => 1 ≤ v ∧ v ≤ 1000
  | .push _ x => x ≤ 1000000
  | _ => True
theorem step_ok {s t : State} {c : Call} {l : List Int} (h : Vbrgac.does s c = .ok (t, l)) : Vbrgac.step s c = (t, 0 :: l) := by
  unfold Vbrgac.step
  rw [h]
theorem step_err {s : State} {c : Call} {e : Int} (h : Vbrgac.does s c = .error e) : Vbrgac.step s c = (s, [e]) := by
  unfold Vbrgac.step
  rw [h]
theorem wf_step {B : Int} {st : State} (w : Wf B st) (hB : 1000000 ≤ B) {c : Call} (hc : Okc c) : Wf (B + 1000000) (Vbrgac.step st c).1 := by
  have w0 : Wf (B + 1000000) st := w.mono (by omega)
  have key : ∀ t l, Vbrgac.does st c = .ok (t, l) → Wf (B + 1000000) t := by
    intro t l h
    cases c with
    | come v e =>
      obtain ⟨h1, h2, h3, h4⟩ := hc
      simp only [Vbrgac.does] at h
      split at h
      · cases h
      · rename_i hl
        cases h
        have hl : st.actors.length < 16 := by simpa [Vbrgac.ACTORS] using hl
        refine ⟨by show (st.actors ++ [_]).length ≤ 16; rw [List.length_append]; exact hl, fun a ha => ?_, ?_, fun a ha => ?_⟩
        · rcases List.mem_append.mp ha with z | z
          · exact w0.act a z
          · rw [List.mem_singleton.mp z]
            exact ⟨h1, h2, Nat.zero_le _, (fun x hx => by cases hx), by show -(B + 1000000) ≤ e; omega⟩
        · show ((st.actors ++ [({ num := st.given + 1, base := v, energy := e } : Actor)]).map fun a : Actor => a.num).Pairwise (· < ·)
          rw [List.map_append, List.pairwise_append]
          refine ⟨w.inc, List.pairwise_singleton _ _, fun x hx y hy => ?_⟩
          obtain ⟨a, ha, rfl⟩ := List.mem_map.mp hx
          have : y = st.given + 1 := by simpa using hy
          have := (w.num a ha).2
          omega
        · rcases List.mem_append.mp ha with z | z
          · have := w.num a z
            exact ⟨this.1, by show a.num ≤ st.given + 1; omega⟩
          · rw [List.mem_singleton.mp z]
            exact ⟨by show 1 ≤ st.given + 1; omega, Nat.le_refl _⟩
    | leave n =>
      simp only [Vbrgac.does] at h
      split at h
      · cases h
      · cases h
        refine ⟨Nat.le_trans (List.length_filter_le _ _) w.few, fun a ha => w0.act a (List.mem_filter.mp ha).1, ?_, fun a ha => w.num a (List.mem_filter.mp ha).1⟩
        exact w.inc.sublist ((List.filter_sublist (l := st.actors)).map _)
    | tick n =>
      simp only [Vbrgac.does] at h
      split at h
      · cases h
      · cases h
        exact (runs_wf w _).mono (by omega)
    | next =>
      simp only [Vbrgac.does] at h
      split at h
      · cases h
      · cases h
        exact (runs_wf w _).mono (by omega)
    | act n c =>
      have hc : c ≤ 1000000 := hc
      simp only [Vbrgac.does] at h
      split at h
      · cases h
      · split at h
        · cases h
          refine change_wf w n (acted c) (fun _ => rfl) (by omega) fun a ha _ => ?_
          have wa := w.act a ha
          exact ⟨wa.b1, wa.b2, wa.few, wa.eff, by have := wa.en; show -(B + 1000000) ≤ a.energy - c; omega⟩
        · cases h
    | effect n m t' =>
      obtain ⟨t1, t2⟩ := hc
      simp only [Vbrgac.does] at h
      split at h
      · cases h
      · rename_i a0 ha0
        split at h
        · cases h
        · rename_i hl
          simp only [Vbrgac.withActor, ha0] at h
          cases h
          refine change_wf w n (fun a => { a with effects := a.effects ++ [⟨m, t'⟩] }) (fun _ => rfl) (by omega) fun a ha hn => ?_
          have wa := w0.act a ha
          have e0 : a = a0 := by
            have h1 := List.find?_some ha0
            have h2 := List.mem_of_find?_eq_some ha0
            have h1 : a0.num = n := by simpa using h1
            exact num_inj w.nd a ha a0 h2 (by rw [hn, h1])
          subst e0
          refine ⟨wa.b1, wa.b2, ?_, fun e he => ?_, wa.en⟩
          · show (a.effects ++ [_]).length ≤ 8
            rw [List.length_append]
            have hl : ¬ 8 ≤ a.effects.length := hl
            show a.effects.length + 1 ≤ 8
            omega
          · rcases List.mem_append.mp he with z | z
            · exact wa.eff e z
            · rw [List.mem_singleton.mp z]
              exact ⟨t1, t2⟩
    | dispel n =>
      simp only [Vbrgac.does, Vbrgac.withActor] at h
      split at h
      · cases h
      · cases h
        refine change_wf w n (fun a => { a with effects := [] }) (fun _ => rfl) (by omega) fun a ha _ => ?_
        have wa := w0.act a ha
        exact ⟨wa.b1, wa.b2, Nat.zero_le _, fun e he => (by cases he), wa.en⟩
    | speed n v =>
      obtain ⟨t1, t2⟩ := hc
      simp only [Vbrgac.does, Vbrgac.withActor] at h
      split at h
      · cases h
      · cases h
        refine change_wf w n (fun a => { a with base := v }) (fun _ => rfl) (by omega) fun a ha _ => ?_
        have wa := w0.act a ha
        exact ⟨t1, t2, wa.few, wa.eff, wa.en⟩
    | push n x =>
      have hc : x ≤ 1000000 := hc
      simp only [Vbrgac.does, Vbrgac.withActor] at h
      split at h
      · cases h
      · cases h
        refine change_wf w n (fun a => { a with energy := a.energy - x, spent := a.spent + x }) (fun _ => rfl) (by omega) fun a ha _ => ?_
        have wa := w.act a ha
        exact ⟨wa.b1, wa.b2, wa.few, wa.eff, by have := wa.en; show -(B + 1000000) ≤ a.energy - x; omega⟩
    | queue => simp only [Vbrgac.does] at h; cases h; exact w0
    | actor n =>
      simp only [Vbrgac.does] at h
      split at h
      · cases h
      · cases h; exact w0
    | when_ n =>
      simp only [Vbrgac.does] at h
      split at h
      · cases h
      · cases h; exact w0
    | turns k l =>
      simp only [Vbrgac.does] at h
      split at h
      · cases h
      · cases h; exact w0
    | book n =>
      simp only [Vbrgac.does] at h
      split at h
      · cases h
      · cases h; exact w0
    | time => simp only [Vbrgac.does] at h; cases h; exact w0
  cases e : Vbrgac.does st c with
  | error x => rw [step_err e]; exact w0
  | ok x =>
    obtain ⟨t, l⟩ := x
    rw [step_ok e]
    exact key t l e
end My
end

section
set_option linter.all false
/-! The calls as numbers. -/
namespace My
open Vbrgac (Actor Effect speed ready passed leastOf until_ run rounds runs earlier put queue first change acted State Call inside isCost)

/-- for each call the least and the greatest number of each of its arguments -/
def tableL : List (Int × List (Int × Int)) :=
  [(0, [(1, 1000), (-1000000, -1)]), (1, [(1, 400)]), (2, [(1, 1000000)]), (3, []), (4, [(1, 400), (1, 1000000)]), (5, [(1, 400), (-5000, 5000), (1, 1000000)]), (6, [(1, 400)]), (7, [(1, 400), (1, 1000)]),
    (8, [(1, 400), (1, 1000000)]), (9, []), (10, [(1, 400)]), (11, [(1, 400)]), (12, [(1, 100)]), (13, [(1, 400)]), (14, [])]
def table (p : Int) : Option (List (Int × Int)) := tableL.lookup p
def within (ns : List Int) (bs : List (Int × Int)) : Bool := (ns.zip bs).all fun x => inside x.1 x.2.1 x.2.2
def callOf (p : Int) (ns cs : List Int) : List (List Int) := if p = 12 then [p :: ns, cs] else [p :: ns]

theorem table_cases {p : Int} {bs : List (Int × Int)} (h : table p = some bs) : (p, bs) ∈ tableL := by
  unfold table at h
  generalize tableL = l at h ⊢
  induction l with
  | nil => cases h
  | cons x r ih =>
    obtain ⟨q, b⟩ := x
    rw [List.lookup_cons] at h
    by_cases c : p = q
    · subst c
      simp only [beq_self_eq_true] at h
      rw [Option.some.inj h]
      exact List.mem_cons_self
    · have : (p == q) = false := beq_eq_false_iff_ne.mpr c
      simp only [this] at h
      exact List.mem_cons_of_mem _ (ih h)
theorem inside_iff {n lo hi : Int} : inside n lo hi = true ↔ lo ≤ n ∧ n ≤ hi := by simp [inside]
theorem len1 {α : Type} {l : List α} (h : l.length = 1) : ∃ a, l = [a] := by
  match l, h with
  | [a], _ => exact ⟨a, rfl⟩
theorem len2 {α : Type} {l : List α} (h : l.length = 2) : ∃ a b, l = [a, b] := by
  match l, h with
  | [a, b], _ => exact ⟨a, b, rfl⟩
theorem len3 {α : Type} {l : List α} (h : l.length = 3) : ∃ a b c, l = [a, b, c] := by
  match l, h with
  | [a, b, c], _ => exact ⟨a, b, c, rfl⟩
theorem len0 {α : Type} {l : List α} (h : l.length = 0) : l = [] := List.length_eq_zero_iff.mp h
theorem guard_none {b : Bool} {c : Call} (h : b = false) : Vbrgac.guard b c = none := by rw [h]; rfl
theorem guard_some {b : Bool} {c : Call} (h : b = true) : Vbrgac.guard b c = some c := by rw [h]; rfl

/-- the ways that a call can be written -/
theorem call_ways {Q : List Int → List (Int × Int) → List Int → List (List Int) → Prop} {p : Int} {ns cs : List Int} {bs : List (Int × Int)} (ht : table p = some bs) (hl : ns.length = bs.length) (hcs : p ≠ 12 → cs = [])
    (h0 : ∀ a b, Q [a, b] [(1, 1000), (-1000000, -1)] [] [[0, a, b]])
    (h1 : ∀ a, Q [a] [(1, 400)] [] [[1, a]])
    (h2 : ∀ a, Q [a] [(1, 1000000)] [] [[2, a]])
    (h3 : Q [] [] [] [[3]])
    (h4 : ∀ a b, Q [a, b] [(1, 400), (1, 1000000)] [] [[4, a, b]])
    (h5 : ∀ a b c, Q [a, b, c] [(1, 400), (-5000, 5000), (1, 1000000)] [] [[5, a, b, c]])
    (h6 : ∀ a, Q [a] [(1, 400)] [] [[6, a]])
    (h7 : ∀ a b, Q [a, b] [(1, 400), (1, 1000)] [] [[7, a, b]])
    (h8 : ∀ a b, Q [a, b] [(1, 400), (1, 1000000)] [] [[8, a, b]])
    (h9 : Q [] [] [] [[9]])
    (h10 : ∀ a, Q [a] [(1, 400)] [] [[10, a]])
    (h11 : ∀ a, Q [a] [(1, 400)] [] [[11, a]])
    (h12 : ∀ a, Q [a] [(1, 100)] cs [[12, a], cs])
    (h13 : ∀ a, Q [a] [(1, 400)] [] [[13, a]])
    (h14 : Q [] [] [] [[14]]) : Q ns bs cs (callOf p ns cs) := by
  have m := table_cases ht
  unfold tableL at m
  rcases List.mem_cons.mp m with e | m
  · cases e; obtain ⟨a, b, rfl⟩ := len2 hl; cases hcs (by decide); exact h0 a b
  rcases List.mem_cons.mp m with e | m
  · cases e; obtain ⟨a, rfl⟩ := len1 hl; cases hcs (by decide); exact h1 a
  rcases List.mem_cons.mp m with e | m
  · cases e; obtain ⟨a, rfl⟩ := len1 hl; cases hcs (by decide); exact h2 a
  rcases List.mem_cons.mp m with e | m
  · cases e; obtain rfl := len0 hl; cases hcs (by decide); exact h3
  rcases List.mem_cons.mp m with e | m
  · cases e; obtain ⟨a, b, rfl⟩ := len2 hl; cases hcs (by decide); exact h4 a b
  rcases List.mem_cons.mp m with e | m
  · cases e; obtain ⟨a, b, c, rfl⟩ := len3 hl; cases hcs (by decide); exact h5 a b c
  rcases List.mem_cons.mp m with e | m
  · cases e; obtain ⟨a, rfl⟩ := len1 hl; cases hcs (by decide); exact h6 a
  rcases List.mem_cons.mp m with e | m
  · cases e; obtain ⟨a, b, rfl⟩ := len2 hl; cases hcs (by decide); exact h7 a b
  rcases List.mem_cons.mp m with e | m
  · cases e; obtain ⟨a, b, rfl⟩ := len2 hl; cases hcs (by decide); exact h8 a b
  rcases List.mem_cons.mp m with e | m
  · cases e; obtain rfl := len0 hl; cases hcs (by decide); exact h9
  rcases List.mem_cons.mp m with e | m
  · cases e; obtain ⟨a, rfl⟩ := len1 hl; cases hcs (by decide); exact h10 a
  rcases List.mem_cons.mp m with e | m
  · cases e; obtain ⟨a, rfl⟩ := len1 hl; cases hcs (by decide); exact h11 a
  rcases List.mem_cons.mp m with e | m
  · cases e; obtain ⟨a, rfl⟩ := len1 hl; exact h12 a
  rcases List.mem_cons.mp m with e | m
  · cases e; obtain ⟨a, rfl⟩ := len1 hl; cases hcs (by decide); exact h13 a
  rcases List.mem_cons.mp m with e | m
  · cases e; obtain rfl := len0 hl; cases hcs (by decide); exact h14
  cases m
/-- a number out of its range: no call -/
theorem dec_out {p : Int} {ns cs : List Int} {bs : List (Int × Int)} (ht : table p = some bs) (hl : ns.length = bs.length) (hcs : p ≠ 12 → cs = []) (hw : (within ns bs && cs.all isCost) = false) : Vbrgac.decode (callOf p ns cs) = none := by
  revert hw
  refine call_ways (Q := fun ns bs cs c => (within ns bs && cs.all isCost) = false → Vbrgac.decode c = none) ht hl hcs ?_ ?_ ?_ ?_ ?_ ?_ ?_ ?_ ?_ ?_ ?_ ?_ ?_ ?_ ?_
  · intro a b hw; exact guard_none (by simpa [within, Vbrgac.SPEED, Vbrgac.COST] using hw)
  · intro a hw; exact guard_none (by simpa [within, Vbrgac.isNum] using hw)
  · intro a hw; exact guard_none (by simpa [within, Vbrgac.TICKS] using hw)
  · intro hw; cases hw
  · intro a b hw; exact guard_none (by simpa [within, Vbrgac.isNum, Vbrgac.isCost, Vbrgac.COST] using hw)
  · intro a b c hw; exact guard_none (by simpa [within, Vbrgac.isNum, Vbrgac.FAST, Vbrgac.TICKS] using hw)
  · intro a hw; exact guard_none (by simpa [within, Vbrgac.isNum] using hw)
  · intro a b hw; exact guard_none (by simpa [within, Vbrgac.isNum, Vbrgac.SPEED] using hw)
  · intro a b hw; exact guard_none (by simpa [within, Vbrgac.isNum, Vbrgac.isCost, Vbrgac.COST] using hw)
  · intro hw; cases hw
  · intro a hw; exact guard_none (by simpa [within, Vbrgac.isNum] using hw)
  · intro a hw; exact guard_none (by simpa [within, Vbrgac.isNum] using hw)
  · intro a hw; refine guard_none (c := .turns a.toNat cs) ?_; rw [← hw]; simp [within]
  · intro a hw; exact guard_none (by simpa [within, Vbrgac.isNum] using hw)
  · intro hw; cases hw
theorem guard_is {b : Bool} {x y : Call} (q : Vbrgac.guard b y = some x) : b = true ∧ y = x := by
  cases b with
  | true => exact ⟨rfl, Option.some.inj q⟩
  | false => cases q
/-- how many turns a call asks for -/
def Few : Call → Prop
  | .turns k _ => k ≤ 100
  | _ => True
/-- a call that can be told: its arguments are within their ranges -/
theorem dec_okc {p : Int} {ns cs : List Int} {bs : List (Int × Int)} (ht : table p = some bs) (hl : ns.length = bs.length) (hcs : p ≠ 12 → cs = []) {x : Call} (h : Vbrgac.decode (callOf p ns cs) = some x) : Okc x ∧ Few x := by
  revert h
  refine call_ways (Q := fun _ _ _ c => Vbrgac.decode c = some x → Okc x ∧ Few x) ht hl hcs ?_ ?_ ?_ ?_ ?_ ?_ ?_ ?_ ?_ ?_ ?_ ?_ ?_ ?_ ?_
  · intro a b h; obtain ⟨hb, rfl⟩ := guard_is h; simp only [Bool.and_eq_true, inside_iff, Vbrgac.SPEED, Vbrgac.COST] at hb; exact ⟨⟨hb.1.1, hb.1.2, hb.2.1, hb.2.2⟩, trivial⟩
  · intro a h; obtain ⟨_, rfl⟩ := guard_is h; exact ⟨trivial, trivial⟩
  · intro a h; obtain ⟨_, rfl⟩ := guard_is h; exact ⟨trivial, trivial⟩
  · intro h; cases h; exact ⟨trivial, trivial⟩
  · intro a b h; obtain ⟨hb, rfl⟩ := guard_is h; simp only [Bool.and_eq_true, Vbrgac.isCost, inside_iff, Vbrgac.COST] at hb; exact ⟨hb.2.2, trivial⟩
  · intro a b c h; obtain ⟨hb, rfl⟩ := guard_is h; simp only [Bool.and_eq_true, inside_iff, Vbrgac.TICKS] at hb; refine ⟨?_, trivial⟩; show 1 ≤ _ ∧ _ ≤ 1000000; omega
  · intro a h; obtain ⟨_, rfl⟩ := guard_is h; exact ⟨trivial, trivial⟩
  · intro a b h; obtain ⟨hb, rfl⟩ := guard_is h; simp only [Bool.and_eq_true, inside_iff, Vbrgac.SPEED] at hb; exact ⟨hb.2, trivial⟩
  · intro a b h; obtain ⟨hb, rfl⟩ := guard_is h; simp only [Bool.and_eq_true, Vbrgac.isCost, inside_iff, Vbrgac.COST] at hb; exact ⟨hb.2.2, trivial⟩
  · intro h; cases h; exact ⟨trivial, trivial⟩
  · intro a h; obtain ⟨_, rfl⟩ := guard_is h; exact ⟨trivial, trivial⟩
  · intro a h; obtain ⟨_, rfl⟩ := guard_is h; exact ⟨trivial, trivial⟩
  · intro a h; obtain ⟨hb, rfl⟩ := guard_is h; simp only [Bool.and_eq_true, inside_iff] at hb; refine ⟨trivial, ?_⟩; show _ ≤ 100; omega
  · intro a h; obtain ⟨_, rfl⟩ := guard_is h; exact ⟨trivial, trivial⟩
  · intro h; cases h; exact ⟨trivial, trivial⟩
end My
end

section
set_option linter.all false
/-! The line, call by call. -/
namespace My
open Vbrgac (Actor Effect speed ready passed leastOf until_ run rounds runs earlier put queue first change acted State Call inside isCost)

theorem shape_is {p : Int} {n k : Nat} (h : PyVbrgac.shape p = some (n, k)) : ∃ bs, table p = some bs ∧ bs.length = n ∧ (p ≠ 12 → k = 0) ∧ (p = 12 → k = 1) := by
  unfold PyVbrgac.shape at h
  by_cases c0 : p = 0
  · subst c0; cases h; exact ⟨_, rfl, rfl, fun _ => rfl, fun z => by cases z⟩
  rw [if_neg c0] at h
  by_cases c1 : p = 1
  · subst c1; cases h; exact ⟨_, rfl, rfl, fun _ => rfl, fun z => by cases z⟩
  rw [if_neg c1] at h
  by_cases c2 : p = 2
  · subst c2; cases h; exact ⟨_, rfl, rfl, fun _ => rfl, fun z => by cases z⟩
  rw [if_neg c2] at h
  by_cases c3 : p = 3
  · subst c3; cases h; exact ⟨_, rfl, rfl, fun _ => rfl, fun z => by cases z⟩
  rw [if_neg c3] at h
  by_cases c4 : p = 4
  · subst c4; cases h; exact ⟨_, rfl, rfl, fun _ => rfl, fun z => by cases z⟩
  rw [if_neg c4] at h
  by_cases c5 : p = 5
  · subst c5; cases h; exact ⟨_, rfl, rfl, fun _ => rfl, fun z => by cases z⟩
  rw [if_neg c5] at h
  by_cases c6 : p = 6
  · subst c6; cases h; exact ⟨_, rfl, rfl, fun _ => rfl, fun z => by cases z⟩
  rw [if_neg c6] at h
  by_cases c7 : p = 7
  · subst c7; cases h; exact ⟨_, rfl, rfl, fun _ => rfl, fun z => by cases z⟩
  rw [if_neg c7] at h
  by_cases c8 : p = 8
  · subst c8; cases h; exact ⟨_, rfl, rfl, fun _ => rfl, fun z => by cases z⟩
  rw [if_neg c8] at h
  by_cases c9 : p = 9
  · subst c9; cases h; exact ⟨_, rfl, rfl, fun _ => rfl, fun z => by cases z⟩
  rw [if_neg c9] at h
  by_cases c10 : p = 10
  · subst c10; cases h; exact ⟨_, rfl, rfl, fun _ => rfl, fun z => by cases z⟩
  rw [if_neg c10] at h
  by_cases c11 : p = 11
  · subst c11; cases h; exact ⟨_, rfl, rfl, fun _ => rfl, fun z => by cases z⟩
  rw [if_neg c11] at h
  by_cases c12 : p = 12
  · subst c12; cases h; exact ⟨_, rfl, rfl, fun z => absurd rfl z, fun _ => rfl⟩
  rw [if_neg c12] at h
  by_cases c13 : p = 13
  · subst c13; cases h; exact ⟨_, rfl, rfl, fun _ => rfl, fun z => by cases z⟩
  rw [if_neg c13] at h
  by_cases c14 : p = 14
  · subst c14; cases h; exact ⟨_, rfl, rfl, fun _ => rfl, fun z => by cases z⟩
  rw [if_neg c14] at h
  cases h
/-- the next call of a line -/
structure NextCall (p : Int) (r : List Int) (cs : List (List (List Int))) (bs : List (Int × Int)) (row t : List Int) (cs' : List (List (List Int))) (f' : Nat) : Prop where
  tab : table p = some bs
  fits : bs.length ≤ r.length
  eq : cs = callOf p (r.take bs.length) row :: cs'
  rest : PyFlat.calls PyVbrgac.shape f' t = some cs'
  plain : p ≠ 12 → row = [] ∧ t = r.drop bs.length
  rowed : p = 12 → ∃ (m : Nat) (r' : List Int), r.drop bs.length = (m : Int) :: r' ∧ m ≤ r'.length ∧ row = r'.take m ∧ t = r'.drop m
theorem next_call {p : Int} {r : List Int} {f : Nat} {cs : List (List (List Int))} (h : PyFlat.calls PyVbrgac.shape f (p :: r) = some cs) : ∃ bs row t cs' f', NextCall p r cs bs row t cs' f' := by
  cases f with
  | zero => cases h
  | succ f =>
    simp only [PyFlat.calls] at h
    cases e1 : PyFlat.call PyVbrgac.shape (p :: r) with
    | none => rw [e1] at h; cases h
    | some x =>
      obtain ⟨c, t⟩ := x
      rw [e1] at h
      simp only at h
      cases e2 : PyFlat.calls PyVbrgac.shape f t with
      | none => rw [e2] at h; cases h
      | some cs' =>
        rw [e2] at h
        have h : c :: cs' = cs := Option.some.inj h
        simp only [PyFlat.call] at e1
        cases e3 : PyVbrgac.shape p with
        | none => rw [e3] at e1; cases e1
        | some nk =>
          obtain ⟨n, k⟩ := nk
          rw [e3] at e1
          simp only at e1
          obtain ⟨bs, ht, rfl, hk0, hk1⟩ := shape_is e3
          by_cases hl : r.length < bs.length
          · rw [if_pos hl] at e1; cases e1
          rw [if_neg hl] at e1
          by_cases hp : p = 12
          · have hk := hk1 hp
            subst hk
            simp only [PyFlat.rows] at e1
            cases e4 : r.drop bs.length with
            | nil => rw [e4] at e1; cases e1
            | cons m r' =>
              rw [e4] at e1
              simp only [PyFlat.row] at e1
              by_cases hm : 0 ≤ m ∧ m.toNat ≤ r'.length
              · rw [if_pos hm] at e1
                have e1 := Option.some.inj e1
                injection e1 with e5 e6
                refine ⟨bs, r'.take m.toNat, t, cs', f, ht, by omega, ?_, e2, fun z => absurd hp z, fun _ => ⟨m.toNat, r', by rw [Int.toNat_of_nonneg hm.1, e4], hm.2, rfl, e6.symm⟩⟩
                rw [← h, ← e5]
                unfold callOf
                rw [if_pos hp]
              · rw [if_neg hm] at e1; cases e1
          · have hk := hk0 hp
            subst hk
            simp only [PyFlat.rows] at e1
            have e1 := Option.some.inj e1
            injection e1 with e5 e6
            refine ⟨bs, [], t, cs', f, ht, by omega, ?_, e2, fun _ => ⟨rfl, e6.symm⟩, fun z => absurd z hp⟩
            rw [← h, ← e5]
            unfold callOf
            rw [if_neg hp]
theorem NextCall.nums {p : Int} {r : List Int} {cs : List (List (List Int))} {bs : List (Int × Int)} {row t : List Int} {cs' : List (List (List Int))} {f' : Nat} (nc : NextCall p r cs bs row t cs' f') : (r.take bs.length).length = bs.length := List.length_take_of_le nc.fits
theorem NextCall.bare {p : Int} {r : List Int} {cs : List (List (List Int))} {bs : List (Int × Int)} {row t : List Int} {cs' : List (List (List Int))} {f' : Nat} (nc : NextCall p r cs bs row t cs' f') (h : p ≠ 12) : row = [] := (nc.plain h).1
theorem whole_is {p : Int} {ns cs : List Int} {bs : List (Int × Int)} (ht : table p = some bs) (hl : ns.length = bs.length) (hcs : p ≠ 12 → cs = []) : PyVbrgac.whole (callOf p ns cs) = callOf p ns cs :=
  call_ways (Q := fun _ _ _ c => PyVbrgac.whole c = c) ht hl hcs (fun _ _ => rfl) (fun _ => rfl) (fun _ => rfl) rfl (fun _ _ => rfl) (fun _ _ _ => rfl) (fun _ => rfl) (fun _ _ => rfl) (fun _ _ => rfl) rfl (fun _ => rfl) (fun _ => rfl) (fun _ => rfl) (fun _ => rfl) rfl
theorem wholes_are {cs : List (List (List Int))} : ∀ {f : Nat} {l : List Int}, PyFlat.calls PyVbrgac.shape f l = some cs → cs.map PyVbrgac.whole = cs := by
  induction cs with
  | nil => exact fun _ => rfl
  | cons c r ih =>
    intro f l h
    cases l with
    | nil => cases f <;> cases h
    | cons p t =>
      obtain ⟨bs, row, t', cs', f', nc⟩ := next_call h
      have e := nc.eq
      injection e with e1 e2
      rw [List.map_cons, ih (e2 ▸ nc.rest), e1, whole_is nc.tab nc.nums nc.bare]
theorem calls_are {l : List Int} {cs : List (List (List Int))} (h : PyVbrgac.calls l = some cs) : PyFlat.calls PyVbrgac.shape l.length l = some cs := by
  unfold PyVbrgac.calls at h
  cases e : PyFlat.calls PyVbrgac.shape l.length l with
  | none => rw [e] at h; cases h
  | some cs' =>
    rw [e] at h
    have h : some (cs'.map PyVbrgac.whole) = some cs := h
    rw [wholes_are e] at h
    rw [Option.some.inj h]
theorem played_cons (st : State) (c : List (List Int)) (cs : List (List (List Int))) :
    PyFlat.told (PyFlat.played VbrgacNeutral.step st (c :: cs)) = (((Vbrgac.stepNumbers st c).2.length : Int) :: (Vbrgac.stepNumbers st c).2) ++ PyFlat.told (PyFlat.played VbrgacNeutral.step (Vbrgac.stepNumbers st c).1 cs) := rfl
/-! ### no answer is long -/
theorem flat2 {α : Type} (g : α → List Int) (h : ∀ a, (g a).length = 2) : ∀ l : List α, (l.flatMap g).length = 2 * l.length
  | [] => rfl
  | a :: r => by
    rw [List.flatMap_cons, List.length_append, h a, flat2 g h r, List.length_cons]
    omega
theorem turns_few {cost : Nat → Int} : ∀ (k t : Nat) (l : List Actor), (Vbrgac.turns cost k t l).length ≤ k
  | 0, _, _ => Nat.le_refl _
  | k + 1, t, l => by
    show (match first (runs Vbrgac.LONG l).1 with
      | none => []
      | some n => (n, t + (runs Vbrgac.LONG l).2) :: Vbrgac.turns cost k (t + (runs Vbrgac.LONG l).2) (change n (acted (cost n)) (runs Vbrgac.LONG l).1)).length ≤ k + 1
    split
    · exact Nat.zero_le _
    · exact Nat.succ_le_succ (turns_few k _ _)
theorem ans_few {B : Int} {st : State} (w : Wf B st) {c : Call} (hc : Few c) : (Vbrgac.step st c).2.length ≤ 300 := by
  have key : ∀ t l, Vbrgac.does st c = .ok (t, l) → l.length ≤ 299 := by
    intro t l h
    cases c with
    | come v e => simp only [Vbrgac.does] at h; split at h <;> cases h; simp
    | leave n => simp only [Vbrgac.does] at h; split at h <;> cases h; simp
    | tick n => simp only [Vbrgac.does] at h; split at h <;> cases h; simp
    | next => simp only [Vbrgac.does] at h; split at h <;> cases h; simp
    | act n c =>
      simp only [Vbrgac.does] at h
      split at h
      · cases h
      · split at h <;> cases h
        simp
    | effect n m t' =>
      simp only [Vbrgac.does, Vbrgac.withActor] at h
      split at h
      · cases h
      · split at h
        · cases h
        · rename_i a0 ha0 _
          simp only [ha0] at h
          cases h
          simp
    | dispel n => simp only [Vbrgac.does, Vbrgac.withActor] at h; split at h <;> cases h; simp
    | speed n v => simp only [Vbrgac.does, Vbrgac.withActor] at h; split at h <;> cases h; simp
    | push n x => simp only [Vbrgac.does, Vbrgac.withActor] at h; split at h <;> cases h; simp
    | queue =>
      simp only [Vbrgac.does] at h
      cases h
      rw [List.length_map, (queue_perm st.actors).length_eq]
      have h1 := List.length_filter_le ready st.actors
      have := w.few
      omega
    | actor n =>
      simp only [Vbrgac.does] at h
      split at h
      · cases h
      · rename_i a ha
        cases h
        have wa := (w.act a (List.mem_of_find?_eq_some ha)).few
        rw [List.length_append, flat2 _ (fun _ => rfl)]
        show 3 + _ ≤ 299
        omega
    | when_ n => simp only [Vbrgac.does] at h; split at h <;> cases h; simp
    | turns k l' =>
      have hc : k ≤ 100 := hc
      simp only [Vbrgac.does] at h
      split at h
      · cases h
      · cases h
        rw [flat2 _ (fun _ => rfl)]
        have := turns_few (cost := fun n => (((st.actors.map fun a => a.num).zip l').find? fun x => x.1 == n).elim 1 fun x => x.2) k 0 st.actors
        omega
    | book n => simp only [Vbrgac.does] at h; split at h <;> cases h; simp
    | time => simp only [Vbrgac.does] at h; cases h; simp
  cases e : Vbrgac.does st c with
  | error x => rw [step_err e]; simp
  | ok x =>
    obtain ⟨t, l⟩ := x
    rw [step_ok e, List.length_cons]
    have := key t l e
    omega
theorem NextCall.few {B : Int} {st : State} (w : Wf B st) {p : Int} {r : List Int} {cs : List (List (List Int))} {bs : List (Int × Int)} {row t : List Int} {cs' : List (List (List Int))} {f' : Nat} (nc : NextCall p r cs bs row t cs' f') : (Vbrgac.stepNumbers st (callOf p (r.take bs.length) row)).2.length ≤ 300 := by
  unfold Vbrgac.stepNumbers
  cases e : Vbrgac.decode (callOf p (r.take bs.length) row) with
  | none => exact (by decide : 1 ≤ 300)
  | some x => exact ans_few w (dec_okc nc.tab nc.nums nc.bare e).2
theorem NextCall.wf {B : Int} {st : State} (w : Wf B st) (hB : 1000000 ≤ B) {p : Int} {r : List Int} {cs : List (List (List Int))} {bs : List (Int × Int)} {row t : List Int} {cs' : List (List (List Int))} {f' : Nat} (nc : NextCall p r cs bs row t cs' f') : Wf (B + 1000000) (Vbrgac.stepNumbers st (callOf p (r.take bs.length) row)).1 := by
  unfold Vbrgac.stepNumbers
  cases e : Vbrgac.decode (callOf p (r.take bs.length) row) with
  | none => exact w.mono (by omega)
  | some x => exact wf_step w hB (dec_okc nc.tab nc.nums nc.bare e).1
end My
end

section
set_option Elab.async false
set_option linter.all false
set_option maxRecDepth 100000
set_option maxHeartbeats 2000000
namespace My
open PySem PySem.Spec PyProof.Rows L2
open Vbrgac (Actor Effect speed ready passed leastOf until_ run rounds runs earlier put queue first change acted State Call)

structure TxtR (K : PySem.W.Frag) (mg : Str → Option Value) (CA CC : Addr) : Prop extends TxtD K mg CA CC where
  range : ∃ t, mg "OUT_OF_RANGE" = some (.int (-1) t)
  nobody : ∃ t, mg "NOBODY" = some (.int (-3) t)
  full : ∃ t, mg "FULL" = some (.int (-4) t)
  someR : ∃ t, mg "SOMEBODY_READY" = some (.int (-5) t)
  notT : ∃ t, mg "NOT_ITS_TURN" = some (.int (-6) t)
  count : ∃ t, mg "WRONG_COUNT" = some (.int (-7) t)
  mostA : ∃ t, mg "MOST_ACTORS" = some (.int 16 t)
  mostE : ∃ t, mg "MOST_EFFECTS" = some (.int 8 t)
  turns : ∃ t, mg "TURNS" = some (.int 12 t)

/-- what a call hands back: the crowd is at st', the list holds ans -/
def Ret (CA CC Pt : Addr) (H : Hp) (L : Lay) (Q : VK) (x : State × List Int) : Prop :=
  ∀ (H' : Hp) (L' : Lay) (D : Addr), CrowdAt CA CC H' L' x.1 → Mv Pt H L H' L' → H D = none → H' D = some (.lst (x.2.map V.int)) → Q (.ref D) H'
theorem Ret.go {CA CC Pt : Addr} {H H' : Hp} {L L' : Lay} {Q : VK} {x : State × List Int} (k : Ret CA CC Pt H L Q x) {st : State} {ans : List Int} (e : x = (st, ans)) (hC : CrowdAt CA CC H' L' st) (mv : Mv Pt H L H' L') {D : Addr} (hD : H' D = none) : Q (.ref D) (upd H' D (.lst (ans.map V.int))) := by
  subst e
  exact k _ L' D (hC.same (Same.upd hD)) (mv.trans (Mv.same mv.tab (Same.upd hD))) (mv.old _ hD) upd_same
/-- a call to all, c the call that its numbers tell -/
inductive PAll (CA CC Pt : Addr) (cl : List Int → Call → Prop) (vs : List V) (H : Hp) (Q : VK) : Prop
  | mk (L : Lay) (st : State) (B : Int) (nl : Addr) (ns : List Int) (c : Call) (h0 : vs = [.ref L.c, .ref nl]) (h1 : CrowdAt CA CC H L st) (h2 : TabIn Pt H) (h3 : Wf B st) (h4 : B ≤ 1000000000000) (h5 : H nl = some (.lst (ns.map V.int))) (h6 : cl ns c) (h7 : Ret CA CC Pt H L Q (Vbrgac.step st c)) : PAll CA CC Pt cl vs H Q
def spAll (CA CC Pt : Addr) (cl : List Int → Call → Prop) : Sp := fun vs H Q _ => PAll CA CC Pt cl vs H Q
/-- a call to one -/
inductive POne (CA CC Pt : Addr) (cl : Nat → List Int → Call → Prop) (vs : List V) (H : Hp) (Q : VK) : Prop
  | mk (L : Lay) (st : State) (B : Int) (nl : Addr) (ns : List Int) (c : Call) (i : Nat) (p le : Addr) (a : Actor) (h0 : vs = [.ref L.c, .ref p, .ref nl]) (h1 : CrowdAt CA CC H L st) (h2 : TabIn Pt H) (h3 : Wf B st) (h4 : B ≤ 1000000000000) (h5 : L.ps[i]? = some (p, le)) (h6 : st.actors[i]? = some a) (h7 : H nl = some (.lst (ns.map V.int))) (h8 : nl ∉ foot L) (h9 : cl a.num ns c) (h10 : Ret CA CC Pt H L Q (Vbrgac.step st c)) : POne CA CC Pt cl vs H Q
def spOne (CA CC Pt : Addr) (cl : Nat → List Int → Call → Prop) : Sp := fun vs H Q _ => POne CA CC Pt cl vs H Q

section
variable {P : Program} {w : World} {K : PySem.W.Frag} {mg : Str → Option Value} {base : Heap} {CA CC Pt : Addr}
/-! ### come -/
def clCome (ns : List Int) (c : Call) : Prop := ∃ v e, ns = [v, e] ∧ c = .come v e
theorem scCome : FnScope ["crowd", "numbers"] ["crowd", "numbers"] (defScope d_come) := ⟨rfl, rfl, rfl, by decide +kernel, rfl, by decide +kernel, by decide +kernel⟩
theorem ok_come {f fW : Addr} {fd fdW : FuncData} (F : Fun K "come" "come" d_come f fd) (T : TxtR K mg CA CC) (GW : FnOk P w K mg base CX0 3 fW fdW ["self", "speed", "energy"] (spWelcome CA CC Pt)) (mW : Meth K CC "welcome" fW) (bW : Binds K fdW ["self", "speed", "energy"] []) :
    FnOk P w K mg base CX0 4 f fd ["crowd", "numbers"] (spAll CA CC Pt clCome) := by
  refine F.ok scCome (fun vs H Q E h => ?_) (fun cdv A outer s H vs Q E hr h => ?_)
  · obtain ⟨L, st, B, nl, ns, c, rfl, _⟩ := h
    rfl
  · obtain ⟨L, st, B, nl, ns, c, rfl, hC, hT, hW, hB, hnl, ⟨v, e, rfl, rfl⟩, k⟩ := h
    obtain ⟨t1, g1⟩ := T.mostA
    obtain ⟨t2, g2⟩ := T.full
    refine ⟨_, pss_cons (ps_if (pt_cmpR op_ge (pe_callB call_lenD (by rfl) T.len PySem.boot_len (pa_cons (pe_fld (pv 0) rfl) pa_nil)) (pe_glob (v := .int 16) rfl g1 ⟨_, rfl⟩) (nomark _))
        (pss_one (ps_ret (pe_lst (pa_cons (pe_glob (v := .int (-4)) rfl g2 ⟨_, rfl⟩) pa_nil)))) pss_nil)
      (pss_one (ps_ret (pe_lst (pa_cons pe_int (pa_cons (pe_meth (pv 0) T.clC mW GW hr bW .nil pass0 (pa_cons (pe_ix ix_list (pv 1) pe_int (fun _ _ => rfl)) (pa_cons (pe_ix ix_list (pv 1) pe_int (fun _ _ => rfl)) pa_nil))) pa_nil))))), ?_⟩
    have hlen := kvs_len hC.acts
    refine ⟨_, rfl, L.c, CC, L.dc, _, _, rfl, hC.ins, T.clC, T.nc "actors", rfl, L.d, _, rfl, hC.dic, _, _, rfl, rfl, _, rfl, ite2 (fun hc => ?_) (fun hc => ?_)⟩
    · have hc : (16 : Int) ≤ ((kvsOf L.ps st.actors).length : Nat) := of_decide_eq_true hc
      rw [hlen] at hc
      have e : Vbrgac.does st (.come v e) = .error (-4) := by
        simp only [Vbrgac.does]
        rw [if_pos (show Vbrgac.ACTORS ≤ st.actors.length by show 16 ≤ _; omega)]
      exact ⟨by show 1 ≤ sizeLine; decide, fun D hD => k.go (step_err e) hC (Mv.same hT fun _ _ e => e) hD⟩
    · have hc : ¬ (16 : Int) ≤ ((kvsOf L.ps st.actors).length : Nat) := fun z => hc (decide_eq_true z)
      rw [hlen] at hc
      have e : Vbrgac.does st (.come v e) = .ok ({ st with given := st.given + 1, actors := st.actors ++ [{ num := st.given + 1, base := v, energy := e }] }, [Vbrgac.nat (st.given + 1)]) := by
        simp only [Vbrgac.does]
        rw [if_neg (show ¬ Vbrgac.ACTORS ≤ st.actors.length by show ¬ 16 ≤ _; omega)]
      refine ⟨_, rfl, L.c, L.dc, _, rfl, hC.ins, rfl, _, rfl, nl, _, _, _, rfl, rfl, SqL.of hnl, atI_nat (j := 0) rfl, _, rfl, nl, _, _, _, rfl, rfl, SqL.of hnl, atI_nat (j := 1) rfl, L, st, _, _, rfl, hC, hT, by omega, fun a ha => (hW.num a ha).2, fun H1 L1 hC1 mv1 => ?_⟩
      exact ⟨by show 2 ≤ sizeLine; decide, fun D hD => k.go (step_ok e) hC1 mv1 hD⟩
/-! ### tick -/
def clTick (ns : List Int) (c : Call) : Prop := ∃ t : Nat, ns = [(t : Int)] ∧ c = .tick t
theorem scTick : FnScope ["crowd", "numbers", "went"] ["crowd", "numbers"] (defScope d_tick) := ⟨rfl, rfl, rfl, by decide +kernel, rfl, by decide +kernel, by decide +kernel⟩
theorem ok_tick {f fT fP : Addr} {fd fdT fdP : FuncData} (F : Fun K "tick" "tick" d_tick f fd) (T : TxtR K mg CA CC)
    (GT : FnOk P w K mg base CX0 6 fT fdT ["self"] (spTurn CA CC Pt)) (mT : Meth K CC "turn" fT) (bT : Binds K fdT ["self"] [])
    (GP : FnOk P w K mg base CX0 7 fP fdP ["self", "most"] (spPass CA CC Pt)) (mP : Meth K CC "pass_ticks" fP) (bP : Binds K fdP ["self", "most"] []) :
    FnOk P w K mg base CX0 8 f fd ["crowd", "numbers"] (spAll CA CC Pt clTick) := by
  refine F.ok scTick (fun vs H Q E h => ?_) (fun cdv A outer s H vs Q E hr h => ?_)
  · obtain ⟨L, st, B, nl, ns, c, rfl, _⟩ := h
    rfl
  · obtain ⟨L, st, B, nl, ns, c, rfl, hC, hT, hW, hB, hnl, ⟨t, rfl, rfl⟩, k⟩ := h
    obtain ⟨t2, g2⟩ := T.someR
    have hr6 : Room 6 _ := hr.mono (show 6 ≤ 7 by decide)
    refine ⟨_, pss_cons (ps_if (pt_cmpR op_ne (pe_meth0 (pv 0) T.clC mT GT hr6 bT .nil pass0) pe_int (nomark _)) (pss_one (ps_ret (pe_lst (pa_cons (pe_glob (v := .int (-5)) rfl g2 ⟨_, rfl⟩) pa_nil)))) pss_nil)
      (pss_cons (ps_set (i := 2) scTick.nd rfl (Or.inl rfl) (pe_meth (pv 0) T.clC mP GP hr bP .nil pass0 (pa_cons (pe_ix ix_list (pv 1) pe_int (fun _ _ => rfl)) pa_nil)))
      (pss_one (ps_ret (pe_lst (pa_cons pe_int (pa_cons (pv 2) (pa_cons (pe_meth0 (pv 0) T.clC mT GT hr6 bT .nil pass0) pa_nil))))))), ?_⟩
    refine ⟨_, rfl, L.c, L.dc, _, rfl, hC.ins, rfl, L, st, rfl, hC, hT, hW.few, hW.nd, fun H1 sT => ?_⟩
    have hC1 := hC.smT hT sT
    have mv1 : Mv Pt H L H1 L := Mv.smT sT
    have hnl1 : H1 nl = some (.lst ([(t : Int)].map V.int)) := by
      obtain ⟨qs, h1, _⟩ := hT
      exact sT.kp _ _ hnl (ne_of hnl h1 (by intro z; cases z))
    refine ⟨rfl, _, rfl, ite2 (fun hc => ?_) (fun hc => ?_)⟩
    · have hz : ¬ turnOf st.actors = 0 := fun z => by
        rw [z] at hc
        simp at hc
      have hnr : st.actors.any ready = true := by
        cases q : st.actors.any ready with
        | true => rfl
        | false => exact absurd ((turn_zero hW.pos).mpr q) hz
      have e : Vbrgac.does st (.tick t) = .error (-5) := by
        simp only [Vbrgac.does]
        rw [if_pos (show Vbrgac.isReady st = true from hnr)]
      exact ⟨by show 1 ≤ sizeLine; decide, fun D hD => k.go (step_err e) hC1 mv1 hD⟩
    · have hz : turnOf st.actors = 0 := by
        by_cases z : turnOf st.actors = 0
        · exact z
        · exact absurd (by
            have : ¬ V.int (turnOf st.actors) = V.int 0 := fun q => z (by injection q)
            rw [decide_eq_false this]
            rfl) hc
      have hnr : st.actors.any ready = false := (turn_zero hW.pos).mp hz
      have e : Vbrgac.does st (.tick t) = .ok (later st (runs t st.actors).1 (runs t st.actors).2, [Vbrgac.nat (runs t st.actors).2, turnOf (runs t st.actors).1]) := by
        simp only [Vbrgac.does]
        rw [if_neg (show ¬ Vbrgac.isReady st = true by show ¬ st.actors.any ready = true; rw [hnr]; exact Bool.false_ne_true)]
        rfl
      refine ⟨_, rfl, L.c, L.dc, _, rfl, hC1.ins, rfl, _, rfl, nl, _, _, _, rfl, rfl, SqL.of hnl1, atI_nat (j := 0) rfl, L, st, B, t, rfl, hC1, mv1.tab, hW, fun H2 L2 hC2 hW2 mv2 => ?_⟩
      refine ⟨_, rfl, _, rfl, L2.c, L2.dc, _, by rw [mv2.c], hC2.ins, rfl, L2, _, by rw [mv2.c]; rfl, hC2, mv2.tab, hW2.few, hW2.nd, fun H3 sT3 => ?_⟩
      exact ⟨by show 3 ≤ sizeLine; decide, fun D hD => k.go (step_ok e) (hC2.smT mv2.tab sT3) ((mv1.trans mv2).thenT sT3) hD⟩
/-! ### next -/
def clNext (ns : List Int) (c : Call) : Prop := c = .next
theorem scNext : FnScope ["crowd", "numbers", "went"] ["crowd", "numbers"] (defScope d_next_turn) := ⟨rfl, rfl, rfl, by decide +kernel, rfl, by decide +kernel, by decide +kernel⟩
theorem ok_next {f fT fP : Addr} {fd fdT fdP : FuncData} (F : Fun K "next_turn" "next_turn" d_next_turn f fd) (T : TxtR K mg CA CC)
    (GT : FnOk P w K mg base CX0 6 fT fdT ["self"] (spTurn CA CC Pt)) (mT : Meth K CC "turn" fT) (bT : Binds K fdT ["self"] [])
    (GP : FnOk P w K mg base CX0 7 fP fdP ["self"] (spPassU CA CC Pt)) (mP : Meth K CC "pass_until_ready" fP) (bP : Binds K fdP ["self"] []) :
    FnOk P w K mg base CX0 8 f fd ["crowd", "numbers"] (spAll CA CC Pt clNext) := by
  refine F.ok scNext (fun vs H Q E h => ?_) (fun cdv A outer s H vs Q E hr h => ?_)
  · obtain ⟨L, st, B, nl, ns, c, rfl, _⟩ := h
    rfl
  · obtain ⟨L, st, B, nl, ns, c, rfl, hC, hT, hW, hB, hnl, rfl, k⟩ := h
    obtain ⟨t2, g2⟩ := T.nobody
    have hr6 : Room 6 _ := hr.mono (show 6 ≤ 7 by decide)
    refine ⟨_, pss_cons (ps_if (pt_cmpR op_eq (pe_callB call_lenD (by rfl) T.len PySem.boot_len (pa_cons (pe_fld (pv 0) rfl) pa_nil)) pe_int (nomark _)) (pss_one (ps_ret (pe_lst (pa_cons (pe_glob (v := .int (-3)) rfl g2 ⟨_, rfl⟩) pa_nil)))) pss_nil)
      (pss_cons (ps_set (i := 2) scNext.nd rfl (Or.inl rfl) (pe_meth0 (pv 0) T.clC mP GP hr bP .nil pass0))
      (pss_one (ps_ret (pe_lst (pa_cons pe_int (pa_cons (pv 2) (pa_cons (pe_meth0 (pv 0) T.clC mT GT hr6 bT .nil pass0) pa_nil))))))), ?_⟩
    have hlen := kvs_len hC.acts
    refine ⟨_, rfl, L.c, CC, L.dc, _, _, rfl, hC.ins, T.clC, T.nc "actors", rfl, L.d, _, rfl, hC.dic, rfl, _, rfl, ite2 (fun hc => ?_) (fun hc => ?_)⟩
    · have hz : st.actors.length = 0 := by
        have := of_decide_eq_true hc
        injection this with this
        rw [hlen] at this
        exact Int.ofNat.inj this
      have e : Vbrgac.does st .next = .error (-3) := by
        simp only [Vbrgac.does]
        rw [if_pos (by rw [List.length_eq_zero_iff.mp hz]; rfl)]
      exact ⟨by show 1 ≤ sizeLine; decide, fun D hD => k.go (step_err e) hC (Mv.same hT fun _ _ e => e) hD⟩
    · have hz : st.actors ≠ [] := fun z => hc (by
        refine decide_eq_true ?_
        rw [hlen, z]
        rfl)
      have e : Vbrgac.does st .next = .ok (later st (runs Vbrgac.LONG st.actors).1 (runs Vbrgac.LONG st.actors).2, [Vbrgac.nat (runs Vbrgac.LONG st.actors).2, turnOf (runs Vbrgac.LONG st.actors).1]) := by
        simp only [Vbrgac.does]
        rw [if_neg (show ¬ st.actors.isEmpty = true by rw [List.isEmpty_iff]; exact hz)]
        rfl
      refine ⟨_, rfl, L.c, L.dc, _, rfl, hC.ins, rfl, L, st, B, rfl, hC, hT, hW, hB, hz, fun H2 L2 hC2 hW2 _ mv2 => ?_⟩
      refine ⟨_, rfl, _, rfl, L2.c, L2.dc, _, by rw [mv2.c], hC2.ins, rfl, L2, _, by rw [mv2.c]; rfl, hC2, mv2.tab, hW2.few, hW2.nd, fun H3 sT3 => ?_⟩
      exact ⟨by show 3 ≤ sizeLine; decide, fun D hD => k.go (step_ok e) (hC2.smT mv2.tab sT3) (mv2.thenT sT3) hD⟩
end
end My
end

section
set_option Elab.async false
set_option linter.all false
set_option maxRecDepth 100000
set_option maxHeartbeats 2000000
namespace My
open PySem PySem.Spec PyProof.Rows L2
open Vbrgac (Actor Effect speed ready passed leastOf until_ run rounds runs earlier put queue first change acted State Call)

theorem actor_at {st : State} (hn : (st.actors.map fun a => a.num).Nodup) {i : Nat} {a : Actor} (h : st.actors[i]? = some a) : Vbrgac.actor? st a.num = some a := by
  have m := List.mem_of_getElem? h
  unfold Vbrgac.actor?
  cases e : st.actors.find? fun b => b.num == a.num with
  | none => exact absurd (by simp) (List.find?_eq_none.mp e a m)
  | some b =>
    have h1 : b.num = a.num := by simpa using List.find?_some e
    rw [num_inj hn b (List.mem_of_find?_eq_some e) a m h1]
theorem turn_is {l : List Actor} {n : Nat} (h0 : 0 < n) : turnOf l = (n : Int) ↔ first l = some n := by
  unfold turnOf
  cases first l with
  | none =>
    constructor
    · intro z
      have z : (0 : Int) = (n : Int) := z
      omega
    · intro z; cases z
  | some m =>
    constructor
    · intro z
      have z : (m : Int) = (n : Int) := z
      rw [Int.ofNat.inj z]
    · intro z
      rw [Option.some.inj z]
      rfl
theorem Ret.one {CA CC Pt : Addr} {H H' H2 : Hp} {L : Lay} {Q : VK} {st : State} {c : Call} (k : Ret CA CC Pt H L Q (Vbrgac.step st c)) (hC : CrowdAt CA CC H L st) (hT : TabIn Pt H) {i : Nat} {p le le' : Addr} {a a' : Actor} {ans : List Int} (hi : L.ps[i]? = some (p, le)) (ha : st.actors[i]? = some a)
    (hA : ActorAt CA H' p a' le') (hn : a'.num = a.num) (hle : le' = le ∨ H le' = none) (hl' : ∃ o, H' le = some o) (kp : ∀ b o, H b = some o → b ≠ p → b ≠ le → H' b = some o) (e : Vbrgac.does st c = .ok ({ st with actors := st.actors.set i a' }, ans))
    (s : Same H' H2) {D : Addr} (hD : H2 D = none) : Q (.ref D) (upd H2 D (.lst ((0 :: ans).map V.int))) := by
  have mv := Mv.set hC hT hi hA hle hl' kp
  exact k.go (step_ok e) ((hC.set hi ha hA hn hle kp).same s) (mv.trans (Mv.same mv.tab s)) hD

section
variable {P : Program} {w : World} {K : PySem.W.Frag} {mg : Str → Option Value} {base : Heap} {CA CC Pt : Addr}
/-! ### leave -/
def clLeave (n : Nat) (ns : List Int) (c : Call) : Prop := c = .leave n
theorem scLeave : FnScope ["crowd", "actor", "numbers"] ["crowd", "actor", "numbers"] (defScope d_leave) := ⟨rfl, rfl, rfl, by decide +kernel, rfl, by decide +kernel, by decide +kernel⟩
theorem ok_leave {f fD : Addr} {fd fdD : FuncData} (F : Fun K "leave" "leave" d_leave f fd) (T : TxtR K mg CA CC) (GD : FnOk P w K mg base CX0 1 fD fdD ["self", "number"] (spDismiss CA CC Pt)) (mD : Meth K CC "dismiss" fD) (bD : Binds K fdD ["self", "number"] []) :
    FnOk P w K mg base CX0 2 f fd ["crowd", "actor", "numbers"] (spOne CA CC Pt clLeave) := by
  refine F.ok scLeave (fun vs H Q E h => ?_) (fun cdv A outer s H vs Q E hr h => ?_)
  · obtain ⟨L, st, B, nl, ns, c, i, p, le, a, rfl, _⟩ := h
    rfl
  · obtain ⟨L, st, B, nl, ns, c, i, p, le, a, rfl, hC, hT, hW, hB, hi, ha, hnl, nnl, rfl, k⟩ := h
    obtain ⟨b, hb, ⟨dx, hp⟩, _⟩ := paired_ix hC.acts.act hi
    have : b = a := Option.some.inj (hb.symm.trans ha)
    subst this
    refine ⟨_, pss_cons (ps_expr (pe_meth (pv 0) T.clC mD GD hr bD .nil pass0 (pa_cons (pe_fld (pv 1) rfl) pa_nil))) (pss_one (ps_ret (pe_lst (pa_cons pe_int pa_nil)))), ?_⟩
    refine ⟨_, rfl, L.c, L.dc, _, rfl, hC.ins, rfl, _, rfl, p, CA, dx, _, _, rfl, hp, T.clA, T.na "number", rfl, L, st, b.num, i, p, le, b, rfl, hC, hT, hW.nd, hi, ha, rfl, fun H1 L1 hC1 mv1 => ?_⟩
    have e : Vbrgac.does st (.leave b.num) = .ok ({ st with actors := st.actors.filter fun a => a.num != b.num }, []) := by
      simp only [Vbrgac.does, actor_at hW.nd ha]
    exact ⟨by show 1 ≤ sizeLine; decide, fun D hD => k.go (step_ok e) hC1 mv1 hD⟩
/-! ### act -/
def clAct (n : Nat) (ns : List Int) (c : Call) : Prop := ∃ x, ns = [(n : Int), x] ∧ c = .act n x
theorem scActR : FnScope ["crowd", "actor", "numbers"] ["crowd", "actor", "numbers"] (defScope d_act) := ⟨rfl, rfl, rfl, by decide +kernel, rfl, by decide +kernel, by decide +kernel⟩
theorem ok_actR {f fT fA : Addr} {fd fdT fdA : FuncData} (F : Fun K "act" "act" d_act f fd) (T : TxtR K mg CA CC)
    (GT : FnOk P w K mg base CX0 6 fT fdT ["self"] (spTurn CA CC Pt)) (mT : Meth K CC "turn" fT) (bT : Binds K fdT ["self"] [])
    (GA : FnOk P w K mg base CX0 2 fA fdA ["self", "cost"] (spAct CA)) (mA : Meth K CA "act" fA) (bA : Binds K fdA ["self", "cost"] []) :
    FnOk P w K mg base CX0 7 f fd ["crowd", "actor", "numbers"] (spOne CA CC Pt clAct) := by
  refine F.ok scActR (fun vs H Q E h => ?_) (fun cdv A outer s H vs Q E hr h => ?_)
  · obtain ⟨L, st, B, nl, ns, c, i, p, le, a, rfl, _⟩ := h
    rfl
  · obtain ⟨L, st, B, nl, ns, c, i, p, le, a, rfl, hC, hT, hW, hB, hi, ha, hnl, nnl, ⟨x, rfl, rfl⟩, k⟩ := h
    obtain ⟨t2, g2⟩ := T.notT
    have hr2 : Room 2 _ := hr.mono (show 2 ≤ 6 by decide)
    refine ⟨_, pss_cons (ps_if (pt_cmpR op_ne (pe_meth0 (pv 0) T.clC mT GT hr bT .nil pass0) (pe_fld (pv 1) rfl) (nomark _)) (pss_one (ps_ret (pe_lst (pa_cons (pe_glob (v := .int (-6)) rfl g2 ⟨_, rfl⟩) pa_nil)))) pss_nil)
      (pss_cons (ps_expr (pe_meth (pv 1) T.clA mA GA hr2 bA .nil pass0 (pa_cons (pe_ix ix_list (pv 2) pe_int (fun _ _ => rfl)) pa_nil)))
      (pss_one (ps_ret (pe_lst (pa_cons pe_int (pa_cons (pe_fld (pv 1) rfl) pa_nil)))))), ?_⟩
    refine ⟨_, rfl, L.c, L.dc, _, rfl, hC.ins, rfl, L, st, rfl, hC, hT, hW.few, hW.nd, fun H1 sT => ?_⟩
    have hC1 := hC.smT hT sT
    have mv1 : Mv Pt H L H1 L := Mv.smT sT
    have hnl1 : H1 nl = some (.lst ([(a.num : Int), x].map V.int)) := by
      obtain ⟨qs, h1, _⟩ := hT
      exact sT.kp _ _ hnl (ne_of hnl h1 (by intro z; cases z))
    obtain ⟨b, hb, hA1⟩ := paired_ix hC1.acts.act hi
    have : b = a := Option.some.inj (hb.symm.trans ha)
    subst this
    obtain ⟨⟨dx, hp⟩, ts, hle, hts⟩ := id hA1
    have hpos := hW.pos b (List.mem_of_getElem? ha)
    refine ⟨_, rfl, p, CA, dx, _, _, rfl, hp, T.clA, T.na "number", rfl, rfl, _, rfl, ite2 (fun hc => ?_) (fun hc => ?_)⟩
    · have hz : ¬ turnOf st.actors = (b.num : Int) := fun z => by
        rw [z] at hc
        simp at hc
      have e : Vbrgac.does st (.act b.num x) = .error (-6) := by
        simp only [Vbrgac.does, actor_at hW.nd ha]
        rw [if_neg fun z => hz ((turn_is hpos).mpr z)]
      exact ⟨by show 1 ≤ sizeLine; decide, fun D hD => k.go (step_err e) hC1 mv1 hD⟩
    · have hz : turnOf st.actors = (b.num : Int) := by
        by_cases z : turnOf st.actors = (b.num : Int)
        · exact z
        · exact absurd (by
            have : ¬ V.int (turnOf st.actors) = V.int (b.num : Int) := fun q => z (by injection q)
            rw [decide_eq_false this]
            rfl) hc
      have e : Vbrgac.does st (.act b.num x) = .ok ({ st with actors := st.actors.set i (acted x b) }, [b.energy - x]) := by
        simp only [Vbrgac.does, actor_at hW.nd ha]
        rw [if_pos ((turn_is hpos).mp hz), change_set hW.nd ha]
      refine ⟨_, rfl, p, dx, _, rfl, hp, rfl, _, rfl, nl, _, _, _, rfl, rfl, SqL.of hnl1, atI_nat (j := 1) rfl, p, b, le, x, rfl, hA1, fun H2 hA2 k2 => ?_⟩
      obtain ⟨⟨dx2, hp2⟩, _⟩ := id hA2
      refine ⟨_, rfl, p, CA, dx2, _, _, rfl, hp2, T.clA, T.na "energy", rfl, by show 2 ≤ sizeLine; decide, fun D hD => ?_⟩
      have kk : Ret CA CC Pt H1 L Q (Vbrgac.step st (.act b.num x)) := fun H' L' D' c1 c2 c3 c4 => k H' L' D' c1 (mv1.trans c2) (mv1.old _ c3) c4
      exact kk.one hC1 mv1.tab hi ha hA2 rfl (.inl rfl) ⟨_, k2 _ _ hle (ne_of hle hp (by intro z; cases z))⟩ (fun b o e n1 _ => k2 b o e n1) e (fun _ _ e => e) hD
/-! ### effect -/
def clEffect (n : Nat) (ns : List Int) (c : Call) : Prop := ∃ (m : Int) (t : Nat), ns = [(n : Int), m, (t : Int)] ∧ c = .effect n m t
theorem scEffect : FnScope ["crowd", "actor", "numbers"] ["crowd", "actor", "numbers"] (defScope d_effect) := ⟨rfl, rfl, rfl, by decide +kernel, rfl, by decide +kernel, by decide +kernel⟩
theorem ok_effect {f fS : Addr} {fd fdS : FuncData} (F : Fun K "effect" "effect" d_effect f fd) (T : TxtR K mg CA CC)
    (GS : FnOk P w K mg base CX0 1 fS fdS ["self"] (spSpeed CA)) (mS : Meth K CA "speed" fS) (bS : Binds K fdS ["self"] []) :
    FnOk P w K mg base CX0 2 f fd ["crowd", "actor", "numbers"] (spOne CA CC Pt clEffect) := by
  refine F.ok scEffect (fun vs H Q E h => ?_) (fun cdv A outer s H vs Q E hr h => ?_)
  · obtain ⟨L, st, B, nl, ns, c, i, p, le, a, rfl, _⟩ := h
    rfl
  · obtain ⟨L, st, B, nl, ns, c, i, p, le, a, rfl, hC, hT, hW, hB, hi, ha, hnl, nnl, ⟨m, t, rfl, rfl⟩, k⟩ := h
    obtain ⟨t2, g2⟩ := T.full
    obtain ⟨t3, g3⟩ := T.mostE
    obtain ⟨b, hb, hA⟩ := paired_ix hC.acts.act hi
    have : b = a := Option.some.inj (hb.symm.trans ha)
    subst this
    obtain ⟨⟨dx, hp⟩, ts, hle, hts⟩ := id hA
    have tlen : ts.length = b.effects.length := Paired.length hts
    have npl : p ≠ le := ne_of hp hle (by intro z; cases z)
    have nln : nl ≠ le := fun z => nnl (z ▸ mem_foot.mpr (.inr (.inr (.inr (List.mem_map.mpr ⟨_, List.mem_of_getElem? hi, rfl⟩)))))
    refine ⟨_, pss_cons (ps_if (pt_cmpR op_ge (pe_callB call_len_seq (by rfl) T.len PySem.boot_len (pa_cons (pe_fld (pv 1) rfl) pa_nil)) (pe_glob (v := .int 8) rfl g3 ⟨_, rfl⟩) (nomark _)) (pss_one (ps_ret (pe_lst (pa_cons (pe_glob (v := .int (-4)) rfl g2 ⟨_, rfl⟩) pa_nil)))) pss_nil)
      (pss_cons (ps_expr (pe_bm PySem.F.plainAttrs_list PySem.F.slot_list_append PySem.F.type_list_append mt_append (pe_fld (pv 1) rfl) (pa_cons (pe_tup (pa_cons (pe_ix ix_list (pv 2) pe_int (fun _ _ => rfl)) (pa_cons (pe_ix ix_list (pv 2) pe_int (fun _ _ => rfl)) pa_nil))) pa_nil)))
      (pss_one (ps_ret (pe_lst (pa_cons pe_int (pa_cons (pe_meth0 (pv 1) T.clA mS GS hr bS .nil pass0) pa_nil)))))), ?_⟩
    refine ⟨_, rfl, p, CA, dx, _, _, rfl, hp, T.clA, T.na "effects", rfl, le, _, rfl, .inl (SqL.of hle), _, _, rfl, rfl, _, rfl, ite2 (fun hc => ?_) (fun hc => ?_)⟩
    · have hc : (8 : Int) ≤ ((ts.map V.ref).length : Nat) := of_decide_eq_true hc
      rw [List.length_map, tlen] at hc
      have e : Vbrgac.does st (.effect b.num m t) = .error (-4) := by
        simp only [Vbrgac.does, actor_at hW.nd ha]
        rw [if_pos (show Vbrgac.EFFECTS ≤ b.effects.length by show 8 ≤ _; omega)]
      exact ⟨by show 1 ≤ sizeLine; decide, fun D hD => k.go (step_err e) hC (Mv.same hT fun _ _ e => e) hD⟩
    · have hc : ¬ (8 : Int) ≤ ((ts.map V.ref).length : Nat) := fun z => hc (decide_eq_true z)
      rw [List.length_map, tlen] at hc
      have e : Vbrgac.does st (.effect b.num m t) = .ok ({ st with actors := st.actors.set i { b with effects := b.effects ++ [⟨m, t⟩] } }, [speed { b with effects := b.effects ++ [⟨m, t⟩] }]) := by
        simp only [Vbrgac.does, Vbrgac.withActor, actor_at hW.nd ha]
        rw [if_neg (show ¬ Vbrgac.EFFECTS ≤ b.effects.length by show ¬ 8 ≤ _; omega), change_set hW.nd ha]
      refine ⟨_, rfl, p, CA, dx, _, _, rfl, hp, T.clA, T.na "effects", rfl, .inl ⟨rfl, _, SqL.of hle⟩, _, rfl, nl, _, _, _, rfl, rfl, SqL.of hnl, atI_nat (j := 1) rfl, _, rfl, nl, _, _, _, rfl, rfl, SqL.of hnl, atI_nat (j := 2) rfl, by show 2 ≤ sizeLine; decide, fun u hu => ?_⟩
      have nlu : le ≠ u := ne_of_none hle hu
      have npu : p ≠ u := ne_of_none hp hu
      refine ⟨le, _, _, rfl, rfl, by rw [upd_ne nlu]; exact hle, by rw [List.length_map, tlen]; exact small1000 (by omega), ?_⟩
      generalize hH1 : upd (upd H u (.tup [V.int m, V.int (t : Int)])) le (.lst (ts.map V.ref ++ [V.ref u])) = H1
      have k1 : ∀ c o, H c = some o → c ≠ le → H1 c = some o := fun c o e n => by rw [← hH1, upd_ne n, upd_ne (ne_of_none e hu)]; exact e
      have hl1 : H1 le = some (.lst ((ts ++ [u]).map V.ref)) := by rw [← hH1, upd_same, List.map_append]; rfl
      have hu1 : H1 u = some (.tup [V.int m, V.int (t : Int)]) := by rw [← hH1, upd_ne nlu.symm, upd_same]
      have hA1 : ActorAt CA H1 p { b with effects := b.effects ++ [⟨m, t⟩] } le := ⟨⟨dx, k1 _ _ hp npl⟩, ts ++ [u], hl1, Paired.snoc (Paired.mapP hts fun t' e' q => k1 _ _ q (ne_of q hle (by intro z; cases z))) hu1⟩
      have h8 : (b.effects ++ [(⟨m, t⟩ : Effect)]).length ≤ 8 := by rw [List.length_append]; show b.effects.length + 1 ≤ 8; omega
      show _
      refine ⟨_, rfl, p, dx, _, rfl, k1 _ _ hp npl, rfl, p, _, le, rfl, hA1, h8, fun H2 s2 => ?_⟩
      exact ⟨by show 2 ≤ sizeLine; decide, fun D hD => k.one hC hT hi ha hA1 rfl (.inl rfl) ⟨_, hl1⟩ (fun c o e n1 n2 => k1 c o e n2) e s2 hD⟩
/-! ### dispel -/
def clDispel (n : Nat) (ns : List Int) (c : Call) : Prop := c = .dispel n
theorem scDispel : FnScope ["crowd", "actor", "numbers"] ["crowd", "actor", "numbers"] (defScope d_dispel) := ⟨rfl, rfl, rfl, by decide +kernel, rfl, by decide +kernel, by decide +kernel⟩
theorem ok_dispel {f fS : Addr} {fd fdS : FuncData} (F : Fun K "dispel" "dispel" d_dispel f fd) (T : TxtR K mg CA CC)
    (GS : FnOk P w K mg base CX0 1 fS fdS ["self"] (spSpeed CA)) (mS : Meth K CA "speed" fS) (bS : Binds K fdS ["self"] []) :
    FnOk P w K mg base CX0 2 f fd ["crowd", "actor", "numbers"] (spOne CA CC Pt clDispel) := by
  refine F.ok scDispel (fun vs H Q E h => ?_) (fun cdv A outer s H vs Q E hr h => ?_)
  · obtain ⟨L, st, B, nl, ns, c, i, p, le, a, rfl, _⟩ := h
    rfl
  · obtain ⟨L, st, B, nl, ns, c, i, p, le, a, rfl, hC, hT, hW, hB, hi, ha, hnl, nnl, rfl, k⟩ := h
    obtain ⟨b, hb, hA⟩ := paired_ix hC.acts.act hi
    have : b = a := Option.some.inj (hb.symm.trans ha)
    subst this
    obtain ⟨⟨dx, hp⟩, ts, hle, hts⟩ := id hA
    have npl : p ≠ le := ne_of hp hle (by intro z; cases z)
    refine ⟨_, pss_cons (ps_fld (pv 1) (pe_lst pa_nil) rfl) (pss_one (ps_ret (pe_lst (pa_cons pe_int (pa_cons (pe_meth0 (pv 1) T.clA mS GS hr bS .nil pass0) pa_nil))))), ?_⟩
    refine ⟨Nat.zero_le _, fun l hl => ?_⟩
    have nplx : p ≠ l := ne_of_none hp hl
    refine ⟨_, rfl, p, CA, dx, _, rfl, by rw [upd_ne nplx]; exact hp, T.clA, T.na "effects", by show 7 < 1000; decide, ?_⟩
    generalize hH1 : upd (upd H l (.lst [])) p _ = H1
    have hp1 : H1 p = some (.ins CA dx (af { b with effects := [] } l)) := by rw [← hH1, upd_same]; rfl
    have k1 : ∀ c o, H c = some o → c ≠ p → H1 c = some o := fun c o e n => by rw [← hH1, upd_ne n, upd_ne (ne_of_none e hl)]; exact e
    have hl1 : H1 l = some (.lst (([] : List Addr).map V.ref)) := by rw [← hH1, upd_ne nplx.symm, upd_same]; rfl
    have hA1 : ActorAt CA H1 p { b with effects := [] } l := ⟨⟨dx, hp1⟩, [], hl1, .nil⟩
    have e : Vbrgac.does st (.dispel b.num) = .ok ({ st with actors := st.actors.set i { b with effects := [] } }, [speed { b with effects := [] }]) := by
      simp only [Vbrgac.does, Vbrgac.withActor, actor_at hW.nd ha]
      rw [change_set hW.nd ha]
    refine ⟨_, rfl, p, dx, _, rfl, hp1, rfl, p, _, l, rfl, hA1, Nat.zero_le _, fun H2 s2 => ?_⟩
    exact ⟨by show 2 ≤ sizeLine; decide, fun D hD => k.one hC hT hi ha hA1 rfl (.inr hl) ⟨_, k1 _ _ hle npl.symm⟩ (fun c o e n1 n2 => k1 c o e n1) e s2 hD⟩
/-! ### speed -/
def clSpeed (n : Nat) (ns : List Int) (c : Call) : Prop := ∃ x, ns = [(n : Int), x] ∧ c = .speed n x
theorem scSpeedR : FnScope ["crowd", "actor", "numbers"] ["crowd", "actor", "numbers"] (defScope d_change_speed) := ⟨rfl, rfl, rfl, by decide +kernel, rfl, by decide +kernel, by decide +kernel⟩
theorem ok_speedR {f fS : Addr} {fd fdS : FuncData} (F : Fun K "change_speed" "change_speed" d_change_speed f fd) (T : TxtR K mg CA CC)
    (GS : FnOk P w K mg base CX0 1 fS fdS ["self"] (spSpeed CA)) (mS : Meth K CA "speed" fS) (bS : Binds K fdS ["self"] []) :
    FnOk P w K mg base CX0 2 f fd ["crowd", "actor", "numbers"] (spOne CA CC Pt clSpeed) := by
  refine F.ok scSpeedR (fun vs H Q E h => ?_) (fun cdv A outer s H vs Q E hr h => ?_)
  · obtain ⟨L, st, B, nl, ns, c, i, p, le, a, rfl, _⟩ := h
    rfl
  · obtain ⟨L, st, B, nl, ns, c, i, p, le, a, rfl, hC, hT, hW, hB, hi, ha, hnl, nnl, ⟨x, rfl, rfl⟩, k⟩ := h
    obtain ⟨b, hb, hA⟩ := paired_ix hC.acts.act hi
    have : b = a := Option.some.inj (hb.symm.trans ha)
    subst this
    obtain ⟨⟨dx, hp⟩, he⟩ := id hA
    obtain ⟨ts, hle, hts⟩ := id he
    have npl : p ≠ le := ne_of hp hle (by intro z; cases z)
    refine ⟨_, pss_cons (ps_fld (pv 1) (pe_ix ix_list (pv 2) pe_int (fun _ _ => rfl)) rfl) (pss_one (ps_ret (pe_lst (pa_cons pe_int (pa_cons (pe_meth0 (pv 1) T.clA mS GS hr bS .nil pass0) pa_nil))))), ?_⟩
    refine ⟨_, rfl, nl, _, _, _, rfl, rfl, SqL.of hnl, atI_nat (j := 1) rfl, _, rfl, p, CA, dx, _, rfl, hp, T.clA, T.na "base", by show 7 < 1000; decide, ?_⟩
    generalize hH1 : upd H p _ = H1
    have hp1 : H1 p = some (.ins CA dx (af { b with base := x } le)) := by rw [← hH1, upd_same]; rfl
    have k1 : ∀ c o, H c = some o → c ≠ p → H1 c = some o := fun c o e n => by rw [← hH1, upd_ne n]; exact e
    have hA1 : ActorAt CA H1 p { b with base := x } le := ⟨⟨dx, hp1⟩, he.but k1 hp⟩
    have e : Vbrgac.does st (.speed b.num x) = .ok ({ st with actors := st.actors.set i { b with base := x } }, [speed { b with base := x }]) := by
      simp only [Vbrgac.does, Vbrgac.withActor, actor_at hW.nd ha]
      rw [change_set hW.nd ha]
    refine ⟨_, rfl, p, dx, _, rfl, hp1, rfl, p, _, le, rfl, hA1, (hW.act b (List.mem_of_getElem? ha)).few, fun H2 s2 => ?_⟩
    exact ⟨by show 2 ≤ sizeLine; decide, fun D hD => k.one hC hT hi ha hA1 rfl (.inl rfl) ⟨_, k1 _ _ hle npl.symm⟩ (fun c o e n1 n2 => k1 c o e n1) e s2 hD⟩
/-! ### push -/
def clPush (n : Nat) (ns : List Int) (c : Call) : Prop := ∃ x, ns = [(n : Int), x] ∧ c = .push n x
theorem scPush : FnScope ["crowd", "actor", "numbers"] ["crowd", "actor", "numbers"] (defScope d_push) := ⟨rfl, rfl, rfl, by decide +kernel, rfl, by decide +kernel, by decide +kernel⟩
theorem ok_push {f fS : Addr} {fd fdS : FuncData} (F : Fun K "push" "push" d_push f fd) (T : TxtR K mg CA CC)
    (GS : FnOk P w K mg base CX0 1 fS fdS ["self", "energy"] (spSpend CA)) (mS : Meth K CA "spend" fS) (bS : Binds K fdS ["self", "energy"] []) :
    FnOk P w K mg base CX0 2 f fd ["crowd", "actor", "numbers"] (spOne CA CC Pt clPush) := by
  refine F.ok scPush (fun vs H Q E h => ?_) (fun cdv A outer s H vs Q E hr h => ?_)
  · obtain ⟨L, st, B, nl, ns, c, i, p, le, a, rfl, _⟩ := h
    rfl
  · obtain ⟨L, st, B, nl, ns, c, i, p, le, a, rfl, hC, hT, hW, hB, hi, ha, hnl, nnl, ⟨x, rfl, rfl⟩, k⟩ := h
    obtain ⟨b, hb, hA⟩ := paired_ix hC.acts.act hi
    have : b = a := Option.some.inj (hb.symm.trans ha)
    subst this
    obtain ⟨⟨dx, hp⟩, ts, hle, hts⟩ := id hA
    refine ⟨_, pss_cons (ps_expr (pe_meth (pv 1) T.clA mS GS hr bS .nil pass0 (pa_cons (pe_ix ix_list (pv 2) pe_int (fun _ _ => rfl)) pa_nil))) (pss_one (ps_ret (pe_lst (pa_cons pe_int (pa_cons (pe_fld (pv 1) rfl) pa_nil))))), ?_⟩
    have e : Vbrgac.does st (.push b.num x) = .ok ({ st with actors := st.actors.set i (paid x b) }, [b.energy - x]) := by
      simp only [Vbrgac.does, Vbrgac.withActor, actor_at hW.nd ha]
      rw [change_set hW.nd ha]
    refine ⟨_, rfl, p, dx, _, rfl, hp, rfl, _, rfl, nl, _, _, _, rfl, rfl, SqL.of hnl, atI_nat (j := 1) rfl, p, b, le, x, rfl, hA, fun H2 hA2 k2 => ?_⟩
    obtain ⟨⟨dx2, hp2⟩, _⟩ := id hA2
    refine ⟨_, rfl, p, CA, dx2, _, _, rfl, hp2, T.clA, T.na "energy", rfl, by show 2 ≤ sizeLine; decide, fun D hD => ?_⟩
    exact k.one hC hT hi ha hA2 rfl (.inl rfl) ⟨_, k2 _ _ hle (ne_of hle hp (by intro z; cases z))⟩ (fun b o e n1 _ => k2 b o e n1) e (fun _ _ e => e) hD
end
end My
end

section
set_option Elab.async false
set_option linter.all false
set_option maxRecDepth 100000
set_option maxHeartbeats 2000000
namespace My
open PySem PySem.Spec PyProof.Rows L2
open Vbrgac (Actor Effect speed ready passed leastOf until_ run rounds runs earlier put queue first change acted State Call)

section
variable {P : Program} {w : World} {K : PySem.W.Frag} {mg : Str → Option Value} {base : Heap} {CA CC Pt : Addr}
/-! ### when -/
def clWhen (n : Nat) (ns : List Int) (c : Call) : Prop := c = .when_ n
theorem scWhen : FnScope ["crowd", "actor", "numbers"] ["crowd", "actor", "numbers"] (defScope d_when_ready) := ⟨rfl, rfl, rfl, by decide +kernel, rfl, by decide +kernel, by decide +kernel⟩
theorem ok_when {f fS : Addr} {fd fdS : FuncData} (F : Fun K "when_ready" "when_ready" d_when_ready f fd) (T : TxtR K mg CA CC)
    (GS : FnOk P w K mg base CX0 4 fS fdS ["self"] (spUntil CA)) (mS : Meth K CA "ticks_until_ready" fS) (bS : Binds K fdS ["self"] []) :
    FnOk P w K mg base CX0 5 f fd ["crowd", "actor", "numbers"] (spOne CA CC Pt clWhen) := by
  refine F.ok scWhen (fun vs H Q E h => ?_) (fun cdv A outer s H vs Q E hr h => ?_)
  · obtain ⟨L, st, B, nl, ns, c, i, p, le, a, rfl, _⟩ := h
    rfl
  · obtain ⟨L, st, B, nl, ns, c, i, p, le, a, rfl, hC, hT, hW, hB, hi, ha, hnl, nnl, rfl, k⟩ := h
    obtain ⟨b, hb, hA⟩ := paired_ix hC.acts.act hi
    have : b = a := Option.some.inj (hb.symm.trans ha)
    subst this
    obtain ⟨⟨dx, hp⟩, _⟩ := id hA
    refine ⟨_, pss_one (ps_ret (pe_lst (pa_cons pe_int (pa_cons (pe_meth0 (pv 1) T.clA mS GS hr bS .nil pass0) pa_nil)))), ?_⟩
    have e : Vbrgac.does st (.when_ b.num) = .ok (st, [Vbrgac.nat (Vbrgac.when_ b)]) := by simp only [Vbrgac.does, actor_at hW.nd ha]
    refine ⟨_, rfl, p, dx, _, rfl, hp, rfl, p, b, le, B, rfl, hA, hW.act b (List.mem_of_getElem? ha), hB, fun H1 s1 => ?_⟩
    exact ⟨by show 2 ≤ sizeLine; decide, fun D hD => k.go (step_ok e) (hC.same s1) (Mv.same hT s1) hD⟩
/-! ### book -/
def clBook (n : Nat) (ns : List Int) (c : Call) : Prop := c = .book n
theorem scBook : FnScope ["crowd", "actor", "numbers"] ["crowd", "actor", "numbers"] (defScope d_tell_book) := ⟨rfl, rfl, rfl, by decide +kernel, rfl, by decide +kernel, by decide +kernel⟩
theorem ok_book {f : Addr} {fd : FuncData} (F : Fun K "tell_book" "tell_book" d_tell_book f fd) (T : TxtR K mg CA CC) : FnOk P w K mg base CX0 1 f fd ["crowd", "actor", "numbers"] (spOne CA CC Pt clBook) := by
  refine F.ok scBook (fun vs H Q E h => ?_) (fun cdv A outer s H vs Q E hr h => ?_)
  · obtain ⟨L, st, B, nl, ns, c, i, p, le, a, rfl, _⟩ := h
    rfl
  · obtain ⟨L, st, B, nl, ns, c, i, p, le, a, rfl, hC, hT, hW, hB, hi, ha, hnl, nnl, rfl, k⟩ := h
    obtain ⟨b, hb, hA⟩ := paired_ix hC.acts.act hi
    have : b = a := Option.some.inj (hb.symm.trans ha)
    subst this
    obtain ⟨⟨dx, hp⟩, _⟩ := id hA
    refine ⟨_, pss_one (ps_ret (pe_lst (pa_cons pe_int (pa_cons (pe_fld (pv 1) rfl) (pa_cons (pe_fld (pv 1) rfl) (pa_cons (pe_fld (pv 1) rfl) pa_nil)))))), ?_⟩
    have e : Vbrgac.does st (.book b.num) = .ok (st, [Vbrgac.nat b.acts, b.gained, b.spent]) := by simp only [Vbrgac.does, actor_at hW.nd ha]
    refine ⟨_, rfl, p, CA, dx, _, _, rfl, hp, T.clA, T.na "acted", rfl, _, rfl, p, CA, dx, _, _, rfl, hp, T.clA, T.na "gained", rfl, _, rfl, p, CA, dx, _, _, rfl, hp, T.clA, T.na "spent", rfl, ?_⟩
    exact ⟨by show 4 ≤ sizeLine; decide, fun D hD => k.go (step_ok e) hC (Mv.same hT fun _ _ e => e) hD⟩
/-! ### actor -/
def clActor (n : Nat) (ns : List Int) (c : Call) : Prop := c = .actor n
abbrev effInts (es : List Effect) : List Int := es.flatMap fun e => [e.more, Vbrgac.nat e.left]
theorem scDesc : FnScope ["crowd", "actor", "numbers", "told", "more", "lasts"] ["crowd", "actor", "numbers"] (defScope d_describe) := ⟨rfl, rfl, rfl, by decide +kernel, rfl, by decide +kernel, by decide +kernel⟩
theorem eff_snoc {es : List Effect} {i : Nat} {e : Effect} (h : es[i]? = some e) : effInts (es.take (i + 1)) = effInts (es.take i) ++ [e.more, Vbrgac.nat e.left] := by
  unfold effInts
  rw [take_snoc h, List.flatMap_append]
  rfl
theorem eff_len : ∀ (es : List Effect), (effInts es).length = 2 * es.length
  | [] => rfl
  | e :: r => by
    have ih := eff_len r
    show (effInts r).length + 1 + 1 = 2 * (r.length + 1)
    omega
theorem ok_desc {f fS : Addr} {fd fdS : FuncData} (F : Fun K "describe" "describe" d_describe f fd) (T : TxtR K mg CA CC)
    (GS : FnOk P w K mg base CX0 1 fS fdS ["self"] (spSpeed CA)) (mS : Meth K CA "speed" fS) (bS : Binds K fdS ["self"] []) :
    FnOk P w K mg base CX0 2 f fd ["crowd", "actor", "numbers"] (spOne CA CC Pt clActor) := by
  refine F.ok scDesc (fun vs H Q E h => ?_) (fun cdv A outer s H vs Q E hr h => ?_)
  · obtain ⟨L, st, B, nl, ns, c, i, p, le, a, rfl, _⟩ := h
    rfl
  · obtain ⟨L, st, B, nl, ns, c, i, p, le, a, rfl, hC, hT, hW, hB, hi, ha, hnl, nnl, rfl, k⟩ := h
    obtain ⟨b, hb, hA⟩ := paired_ix hC.acts.act hi
    have : b = a := Option.some.inj (hb.symm.trans ha)
    subst this
    obtain ⟨⟨dx, hp⟩, ts, hle, hts⟩ := id hA
    have h8 := (hW.act b (List.mem_of_getElem? ha)).few
    refine ⟨_, pss_cons (ps_set (i := 3) scDesc.nd rfl (Or.inl rfl) (pe_lst (pa_cons pe_int (pa_cons (pe_fld (pv 1) rfl) (pa_cons (pe_fld (pv 1) rfl) (pa_cons (pe_meth0 (pv 1) T.clA mS GS hr bS .nil pass0) pa_nil))))))
      (pss_cons (ps_for PassesOwn.never rfl (pi_list (pe_fld (pv 1) rfl)) (pg_tup (n := 2) rfl (pgs_cons (pg_name (i := 4) scDesc.nd rfl (Or.inl rfl)) (pgs_cons (pg_name (i := 5) scDesc.nd rfl (Or.inl rfl)) pgs_nil)))
        (pss_one (ps_expr (pe_bm PySem.F.plainAttrs_list PySem.F.slot_list_extend PySem.F.type_list_extend mt_extend (pv 3) (pa_cons (pe_lst (pa_cons (pv 4) (pa_cons (pv 5) pa_nil))) pa_nil)))))
      (pss_one (ps_ret (pv 3)))), ?_⟩
    have e : Vbrgac.does st (.actor b.num) = .ok (st, [b.energy, b.base, speed b] ++ effInts b.effects) := by simp only [Vbrgac.does, actor_at hW.nd ha]
    refine ⟨_, rfl, p, CA, dx, _, _, rfl, hp, T.clA, T.na "energy", rfl, _, rfl, p, CA, dx, _, _, rfl, hp, T.clA, T.na "base", rfl, _, rfl, p, dx, _, rfl, hp, rfl, p, b, le, rfl, hA, h8, fun H1 s1 => ?_⟩
    refine ⟨by show 4 ≤ sizeLine; decide, fun D hD => ?_⟩
    have s2 : Same H1 (upd H1 D (.lst [V.int 0, V.int b.energy, V.int b.base, V.int (speed b)])) := Same.upd hD
    have nD : H D = none := s1.free hD
    refine ⟨_, rfl, p, CA, dx, _, _, rfl, s2 _ _ (s1 _ _ hp), T.clA, T.na "effects", rfl, le, rfl, ⟨_, SqL.of (s2 _ _ (s1 _ _ hle))⟩, ?_⟩
    refine for_list (K := K) (a := le) (xs := ts.map V.ref) (fun j σ H' => ∃ v4 v5, σ = [some (.ref L.c), some (.ref p), some (.ref nl), some (.ref D), v4, v5] ∧ Same H H' ∧ H' D = some (.lst (([0, b.energy, b.base, speed b] ++ effInts (b.effects.take j)).map V.int)))
      ⟨none, none, rfl, s1.trans s2, upd_same⟩ (fun j σ H' _ ⟨_, _, _, s3, _⟩ => SqL.of (s3 _ _ hle)) ?_ ?_
    · rintro j x σ H' hx ⟨v4, v5, rfl, s3, hD3⟩
      obtain ⟨t, ht, rfl⟩ := ref_ix hx
      obtain ⟨ef, he, het⟩ := paired_ix hts ht
      refine ⟨t, _, rfl, SqT.of (s3 _ _ het), rfl, _, _, rfl, _, _, rfl, rfl, ?_⟩
      refine ⟨_, rfl, .inl ⟨rfl, _, SqL.of hD3⟩, _, rfl, _, rfl, by show 2 ≤ sizeLine; decide, fun y hy => ?_⟩
      have nDy : D ≠ y := ne_of_none hD3 hy
      refine ⟨D, y, _, _, rfl, rfl, by rw [upd_ne nDy]; exact hD3, upd_same, ?_, ?_⟩
      · rw [List.length_map, List.length_append, eff_len, List.length_take]
        exact Nat.le_of_lt (small1000 (by show 4 + _ + 2 ≤ 1000; omega))
      · refine ⟨_, _, rfl, fun c o q => ?_, ?_⟩
        · rw [upd_ne (ne_of_none q nD), upd_ne (ne_of_none (s3 _ _ q) hy)]
          exact s3 _ _ q
        · rw [upd_same, eff_snoc he]
          simp only [List.map_append, List.append_assoc]
          rfl
    · rintro σ H' ⟨v4, v5, rfl, s3, hD3⟩
      have hl : b.effects.take (ts.map V.ref).length = b.effects := List.take_of_length_le (by rw [List.length_map, Paired.length hts]; exact Nat.le_refl _)
      rw [hl] at hD3
      refine ⟨_, rfl, ?_⟩
      have kk := k H' L D
      rw [step_ok e] at kk
      exact kk (hC.same s3) (Mv.same hT s3) nD hD3
/-! ### queue -/
def clQueue (ns : List Int) (c : Call) : Prop := c = .queue
theorem scQueue : FnScope ["crowd", "numbers", "actor"] ["crowd", "numbers"] (defScope d_queue) := ⟨rfl, rfl, rfl, by decide +kernel, rfl, by decide +kernel, by decide +kernel⟩
theorem ok_queue {f fO : Addr} {fd fdO : FuncData} (F : Fun K "queue" "queue" d_queue f fd) (T : TxtR K mg CA CC) (GO : FnOk P w K mg base CX0 5 fO fdO ["self"] (spOrder CA CC Pt)) (mO : Meth K CC "ready_in_order" fO) (bO : Binds K fdO ["self"] []) :
    FnOk P w K mg base CX0 6 f fd ["crowd", "numbers"] (spAll CA CC Pt clQueue) := by
  refine F.ok scQueue (fun vs H Q E h => ?_) (fun cdv A outer s H vs Q E hr h => ?_)
  · obtain ⟨L, st, B, nl, ns, c, rfl, _⟩ := h
    rfl
  · obtain ⟨L, st, B, nl, ns, c, rfl, hC, hT, hW, hB, hnl, rfl, k⟩ := h
    refine ⟨_, pss_one (ps_ret (pe_op op_cat (pe_lst (pa_cons pe_int pa_nil)) (pe_lc (own := [("actor", 2)]) (g := gName 2) rfl scQueue.nd (pi_list (pe_meth0 (pv 0) T.clC mO GO hr bO .nil pass0))
          (blkOk_by (show blkC ["crowd", "numbers", "actor"] (defScope d_queue) _ _ = true by decide +kernel))
          (fun s H C cl fp => pg_name (i := 2) scQueue.nd rfl (Or.inl rfl) (Or.inr rfl)) (fun s H C cl fp => pts_nil) (fun s H C cl fp => show PE _ _ (tFld K (tVar 2) "number") from pe_fld (pv 2) rfl)))), ?_⟩
    have e : Vbrgac.does st .queue = .ok (st, (queue st.actors).map fun a => Vbrgac.nat a.num) := by simp only [Vbrgac.does]
    refine ⟨by show 1 ≤ sizeLine; decide, fun l hl => ?_⟩
    have s0 : Same H (upd H l (.lst [V.int 0])) := Same.upd hl
    have hC0 := hC.same s0
    have mv0 : Mv Pt H L (upd H l (.lst [V.int 0])) L := Mv.same hT s0
    refine ⟨_, rfl, L.c, L.dc, _, rfl, hC0.ins, rfl, L, st, rfl, hC0, mv0.tab, hW.few, hW.nd, fun H1 D rs sT hD hq hA => ?_⟩
    have hC1 := hC0.smT mv0.tab sT
    have mv1 := mv0.thenT sT
    have hl1 : H1 l = some (.lst [V.int 0]) := by
      obtain ⟨qs, h1, _⟩ := mv0.tab
      exact sT.kp _ _ upd_same (ne_of upd_same h1 (by intro z; cases z))
    have rlen : rs.length ≤ 16 := by
      have h1 := congrArg List.length hq
      rw [List.length_map, (queue_perm st.actors).length_eq] at h1
      have h2 := List.length_filter_le ready st.actors
      have := hW.few
      omega
    refine ⟨D, rfl, ⟨_, SqL.of hD⟩, fun D2 hD2 => ?_⟩
    refine lc_list (K := K) (a := D) (xs := rs.map fun x => V.ref x.1) (fun i H' => Same H1 H' ∧ H' D2 = some (.lst (((rs.map fun x => Vbrgac.nat x.2.num).take i).map V.int))) ⟨Same.upd hD2, upd_same⟩ (fun i H' _ q => SqL.of (q.1 _ _ hD)) ?_ ?_
    · rintro i x H' hx ⟨sm, hD'⟩
      rw [List.getElem?_map] at hx
      cases z : rs[i]? with
      | none => rw [z] at hx; cases hx
      | some y =>
        rw [z] at hx
        have ex := Option.some.inj hx
        subst ex
        obtain ⟨le, ⟨dx, hp⟩, _⟩ := hA y (List.mem_of_getElem? z)
        refine ⟨rfl, ?_⟩
        refine ⟨_, rfl, y.1, CA, dx, _, _, rfl, sm _ _ hp, T.clA, T.na "number", rfl, _, hD', ?_, fun b o e' => ?_, ?_⟩
        · rw [List.length_map, List.length_take, List.length_map]
          exact small1000 (by omega)
        · rw [upd_ne (ne_of_none e' hD2)]
          exact sm _ _ e'
        · rw [upd_same, take_snoc (x := Vbrgac.nat y.2.num) (by rw [List.getElem?_map, z]; rfl), List.map_append]
          rfl
    · rintro H' ⟨sm, hD'⟩
      rw [List.length_map, List.take_of_length_le (by rw [List.length_map]; exact Nat.le_refl _)] at hD'
      have en : (rs.map fun x => Vbrgac.nat x.2.num) = (queue st.actors).map fun a => Vbrgac.nat a.num := by
        rw [← hq, List.map_map]
        rfl
      rw [en] at hD'
      refine ⟨l, D2, _, _, rfl, rfl, sm _ _ hl1, hD', ?_, fun q hq' => ?_⟩
      · rw [List.length_map, List.length_map, ← hq, List.length_map]
        exact Nat.le_of_lt (small1000 (by show 1 + rs.length ≤ 1000; omega))
      · exact k.go (step_ok e) (hC1.same sm) (mv1.trans (Mv.same mv1.tab sm)) hq'
/-! ### time -/
def clTime (ns : List Int) (c : Call) : Prop := c = .time
theorem scTime : FnScope ["crowd", "numbers"] ["crowd", "numbers"] (defScope d_tell_time) := ⟨rfl, rfl, rfl, by decide +kernel, rfl, by decide +kernel, by decide +kernel⟩
theorem ok_time {f fT : Addr} {fd fdT : FuncData} (F : Fun K "tell_time" "tell_time" d_tell_time f fd) (T : TxtR K mg CA CC) (GT : FnOk P w K mg base CX0 6 fT fdT ["self"] (spTurn CA CC Pt)) (mT : Meth K CC "turn" fT) (bT : Binds K fdT ["self"] []) :
    FnOk P w K mg base CX0 7 f fd ["crowd", "numbers"] (spAll CA CC Pt clTime) := by
  refine F.ok scTime (fun vs H Q E h => ?_) (fun cdv A outer s H vs Q E hr h => ?_)
  · obtain ⟨L, st, B, nl, ns, c, rfl, _⟩ := h
    rfl
  · obtain ⟨L, st, B, nl, ns, c, rfl, hC, hT, hW, hB, hnl, rfl, k⟩ := h
    refine ⟨_, pss_one (ps_ret (pe_lst (pa_cons pe_int (pa_cons (pe_fld (pv 0) rfl) (pa_cons (pe_fld (pv 0) rfl) (pa_cons (pe_callB call_lenD (by rfl) T.len PySem.boot_len (pa_cons (pe_fld (pv 0) rfl) pa_nil)) (pa_cons (pe_meth0 (pv 0) T.clC mT GT hr bT .nil pass0) pa_nil))))))), ?_⟩
    have e : Vbrgac.does st .time = .ok (st, [Vbrgac.nat st.now, Vbrgac.nat st.given, Vbrgac.nat st.actors.length, turnOf st.actors]) := rfl
    refine ⟨_, rfl, L.c, CC, L.dc, _, _, rfl, hC.ins, T.clC, T.nc "ticks", rfl, _, rfl, L.c, CC, L.dc, _, _, rfl, hC.ins, T.clC, T.nc "came", rfl, _, rfl, L.c, CC, L.dc, _, _, rfl, hC.ins, T.clC, T.nc "actors", rfl, L.d, _, rfl, hC.dic, ?_⟩
    rw [kvs_len hC.acts]
    refine ⟨_, rfl, L.c, L.dc, _, rfl, hC.ins, rfl, L, st, rfl, hC, hT, hW.few, hW.nd, fun H1 sT => ?_⟩
    exact ⟨by show 5 ≤ sizeLine; decide, fun D hD => k.go (step_ok e) (hC.smT hT sT) (Mv.smT sT) hD⟩
end
end My
end

section
set_option Elab.async false
set_option linter.all false
set_option maxRecDepth 100000
set_option maxHeartbeats 2000000
namespace My
open PySem PySem.Spec PyProof.Rows L2
open Vbrgac (Actor Effect speed ready passed leastOf until_ run rounds runs earlier put queue first change acted State Call)

/-! ### the costs go with the actors -/
abbrev costOf (l : List Actor) (cs : List Int) (n : Nat) : Int := (((l.map fun a => a.num).zip cs).find? fun x => x.1 == n).elim 1 fun x => x.2
theorem zip_val : ∀ (l : List Actor) (cs : List Int) (n : Nat), valV ((l.map fun a => (Sum.inl (a.num : Int) : Key)).zip (cs.map V.int)) (Sum.inl (n : Int)) = (((l.map fun a => a.num).zip cs).find? fun x => x.1 == n).map fun x => V.int x.2
  | [], cs, n => rfl
  | a :: l, [], n => rfl
  | a :: l, c :: cs, n => by
    have ih := zip_val l cs n
    show valV ((Sum.inl (a.num : Int), V.int c) :: ((l.map fun a => (Sum.inl (a.num : Int) : Key)).zip (cs.map V.int))) (Sum.inl (n : Int)) = (((a.num, c) :: (l.map fun a => a.num).zip cs).find? fun x => x.1 == n).map fun x => V.int x.2
    by_cases h : a.num = n
    · subst h
      rw [valV_pos rfl, List.find?_cons]
      simp
    · have h1 : ¬ (Sum.inl (a.num : Int) : Key) = Sum.inl (n : Int) := fun z => h (Int.ofNat.inj (Sum.inl.inj z))
      have h2 : (a.num == n) = false := beq_eq_false_iff_ne.mpr h
      rw [valV_neg (p := (Sum.inl (a.num : Int), V.int c)) h1, ih, List.find?_cons]
      simp only [h2]
theorem find_zip : ∀ {l : List Actor} {cs : List Int} {a : Actor}, cs.length = l.length → a ∈ l → ∃ x, (((l.map fun a => a.num).zip cs).find? fun x => x.1 == a.num) = some x ∧ x.2 ∈ cs
  | b :: l, [], a, h, _ => by simp at h
  | b :: l, c :: cs, a, h, ha => by
    show ∃ x, (((b.num, c) :: (l.map fun a => a.num).zip cs).find? fun x => x.1 == a.num) = some x ∧ x.2 ∈ c :: cs
    rw [List.find?_cons]
    by_cases e : b.num = a.num
    · simp only [e, beq_self_eq_true]
      exact ⟨_, rfl, List.mem_cons_self⟩
    · have h2 : (b.num == a.num) = false := beq_eq_false_iff_ne.mpr e
      simp only [h2]
      have ha : a ∈ l := by
        rcases List.mem_cons.mp ha with z | z
        · exact absurd (by rw [z]) e
        · exact z
      obtain ⟨x, h3, h4⟩ := find_zip (l := l) (cs := cs) (by simpa using h) ha
      exact ⟨x, h3, List.mem_cons_of_mem _ h4⟩
theorem zip_keys_nd {l : List Actor} {cs : List Int} (h : (l.map fun a => a.num).Nodup) : ((([] : List (Key × V)) ++ (l.map fun a => (Sum.inl (a.num : Int) : Key)).zip (cs.map V.int)).map (·.1)).Nodup := by
  rw [List.nil_append]
  refine (nums_keys h).sublist ?_
  generalize (l.map fun a => (Sum.inl (a.num : Int) : Key)) = ks
  generalize cs.map V.int = vs
  induction ks generalizing vs with
  | nil => simp
  | cons k ks ih =>
    cases vs with
    | nil => simp
    | cons v vs => exact (ih vs).cons₂ k
abbrev turnInts (l : List (Nat × Nat)) : List Int := l.flatMap fun x => [Vbrgac.nat x.1, Vbrgac.nat x.2]
theorem turn_snoc {es : List (Nat × Nat)} {i : Nat} {e : Nat × Nat} (h : es[i]? = some e) : turnInts (es.take (i + 1)) = turnInts (es.take i) ++ [Vbrgac.nat e.1, Vbrgac.nat e.2] := by
  unfold turnInts
  rw [take_snoc h, List.flatMap_append]
  rfl
theorem turn_len : ∀ (es : List (Nat × Nat)), (turnInts es).length = 2 * es.length
  | [] => rfl
  | e :: r => by
    have ih := turn_len r
    show (turnInts r).length + 1 + 1 = 2 * (r.length + 1)
    omega
theorem turns_len {cost : Nat → Int} : ∀ (k t : Nat) (l : List Actor), (Vbrgac.turns cost k t l).length ≤ k
  | 0, _, _ => Nat.le_refl _
  | k + 1, t, l => by
    show (match first (runs Vbrgac.LONG l).1 with
      | none => []
      | some n => (n, t + (runs Vbrgac.LONG l).2) :: Vbrgac.turns cost k (t + (runs Vbrgac.LONG l).2) (change n (acted (cost n)) (runs Vbrgac.LONG l).1)).length ≤ k + 1
    split
    · exact Nat.zero_le _
    · exact Nat.succ_le_succ (turns_len k _ _)
theorem turns_nobody {cost : Nat → Int} (k t : Nat) : Vbrgac.turns cost k t [] = [] := by
  cases k with
  | zero => rfl
  | succ k => rfl

section
variable {P : Program} {w : World} {K : PySem.W.Frag} {mg : Str → Option Value} {base : Heap} {CA CC Pt : Addr}
inductive PFore (CA CC Pt : Addr) (vs : List V) (H : Hp) (Q : VK) : Prop
  | mk (L : Lay) (st : State) (B : Int) (many : Nat) (cl : Addr) (cs : List Int) (h0 : vs = [.ref L.c, .int many, .ref cl]) (h1 : CrowdAt CA CC H L st) (h2 : TabIn Pt H) (h3 : Wf B st) (h4 : 1000000 ≤ B) (h5 : B ≤ 1000000000000) (h6 : many ≤ 100) (h7 : H cl = some (.lst (cs.map V.int))) (h8 : cs.length ≤ 100) (h9 : (∀ c ∈ cs, c ≤ 1000000)) (h10 : Ret CA CC Pt H L Q (Vbrgac.step st (.turns many cs))) : PFore CA CC Pt vs H Q
def spFore (CA CC Pt : Addr) : Sp := fun vs H Q _ => PFore CA CC Pt vs H Q
theorem scFore : FnScope ["crowd", "many", "costs", "told", "number", "ticks"] ["crowd", "many", "costs"] (defScope d_foretell) := ⟨rfl, rfl, rfl, by decide +kernel, rfl, by decide +kernel, by decide +kernel⟩
theorem ok_fore {f fT : Addr} {fd fdT : FuncData} (F : Fun K "foretell" "foretell" d_foretell f fd) (T : TxtR K mg CA CC)
    (GT : FnOk P w K mg base CX0 8 fT fdT ["self", "many", "costs"] (spTurns CA CC Pt)) (mT : Meth K CC "turns_to_come" fT) (bT : Binds K fdT ["self", "many", "costs"] []) :
    FnOk P w K mg base CX0 9 f fd ["crowd", "many", "costs"] (spFore CA CC Pt) := by
  refine F.ok scFore (fun vs H Q E h => ?_) (fun cdv A outer s H vs Q E hr h => ?_)
  · obtain ⟨L, st, B, many, cl, cs, rfl, _⟩ := h
    rfl
  · obtain ⟨L, st, B, many, cl, cs, rfl, hC, hT, hW, hB1, hB2, hmany, hcl, hcs, hcost, k⟩ := h
    obtain ⟨t2, g2⟩ := T.count
    refine ⟨_, pss_cons (ps_if (pt_cmpR op_ne (pe_callB call_len_seq (by rfl) T.len PySem.boot_len (pa_cons (pv 2) pa_nil)) (pe_callB call_lenD (by rfl) T.len PySem.boot_len (pa_cons (pe_fld (pv 0) rfl) pa_nil)) (nomark _))
        (pss_one (ps_ret (pe_lst (pa_cons (pe_glob (v := .int (-7)) rfl g2 ⟨_, rfl⟩) pa_nil)))) pss_nil)
      (pss_cons (ps_set (i := 3) scFore.nd rfl (Or.inl rfl) (pe_lst (pa_cons pe_int pa_nil)))
      (pss_cons (ps_if (pt_cmpR op_gt (pe_callB call_lenD (by rfl) T.len PySem.boot_len (pa_cons (pe_fld (pv 0) rfl) pa_nil)) pe_int (nomark _))
        (pss_one (ps_for PassesOwn.never rfl (pi_list (pe_meth (pv 0) T.clC mT GT hr bT .nil pass0 (pa_cons (pv 1) (pa_cons (pe_lock (pe_dictzip rfl rfl T.dict rfl T.zip (pa_cons (pe_fld (pv 0) rfl) (pa_cons (pv 2) pa_nil)))) pa_nil))))
          (pg_tup (n := 2) rfl (pgs_cons (pg_name (i := 4) scFore.nd rfl (Or.inl rfl)) (pgs_cons (pg_name (i := 5) scFore.nd rfl (Or.inl rfl)) pgs_nil)))
          (pss_one (ps_expr (pe_bm PySem.F.plainAttrs_list PySem.F.slot_list_extend PySem.F.type_list_extend mt_extend (pv 3) (pa_cons (pe_lst (pa_cons (pv 4) (pa_cons (pv 5) pa_nil))) pa_nil)))))) pss_nil)
      (pss_one (ps_ret (pv 3))))), ?_⟩
    have hlen := kvs_len hC.acts
    refine ⟨_, rfl, cl, _, rfl, .inl (SqL.of hcl), _, rfl, L.c, CC, L.dc, _, _, rfl, hC.ins, T.clC, T.nc "actors", rfl, L.d, _, rfl, hC.dic, rfl, _, rfl, ite2 (fun hc => ?_) (fun hc => ?_)⟩
    · have hz : cs.length ≠ st.actors.length := fun z => by
        rw [List.length_map, hlen, z] at hc
        simp at hc
      have e : Vbrgac.does st (.turns many cs) = .error (-7) := by
        simp only [Vbrgac.does]
        rw [if_pos hz]
      exact ⟨by show 1 ≤ sizeLine; decide, fun D hD => k.go (step_err e) hC (Mv.same hT fun _ _ e => e) hD⟩
    · have hz : cs.length = st.actors.length := by
        by_cases z : cs.length = st.actors.length
        · exact z
        · exact absurd (by
            rw [List.length_map, hlen]
            have : ¬ V.int (cs.length : Int) = V.int (st.actors.length : Int) := fun q => z (by injection q with q; exact Int.ofNat.inj q)
            rw [decide_eq_false this]
            rfl) hc
      have e : Vbrgac.does st (.turns many cs) = .ok (st, turnInts (Vbrgac.turns (costOf st.actors cs) many 0 st.actors)) := by
        simp only [Vbrgac.does]
        rw [if_neg (by simpa using hz)]
      refine ⟨by show 1 ≤ sizeLine; decide, fun D hD => ?_⟩
      have s1 : Same H (upd H D (.lst [V.int 0])) := Same.upd hD
      have hC1 := hC.same s1
      have mv1 : Mv Pt H L (upd H D (.lst [V.int 0])) L := Mv.same hT s1
      refine ⟨_, rfl, L.c, CC, L.dc, _, _, rfl, hC1.ins, T.clC, T.nc "actors", rfl, L.d, _, rfl, hC1.dic, _, _, rfl, rfl, _, rfl, ite2 (fun hp => ?_) (fun hp => ?_)⟩
      · have hne : st.actors ≠ [] := fun z => by
          have hp : (0 : Int) < ((kvsOf L.ps st.actors).length : Nat) := of_decide_eq_true hp
          rw [hlen, z] at hp
          simp at hp
        -- dict(zip(crowd.actors, costs))
        refine ⟨_, rfl, L.c, L.dc, _, rfl, hC1.ins, rfl, _, rfl, L.d, _, hC1.dic, trivial, fun od => ?_⟩
        have hcd : L.c ≠ L.d := ne_of hC.ins hC.dic (by intro z; cases z)
        generalize hH0 : upd (upd H D (.lst [V.int 0])) L.d (.frz od (.dK (kvsOf L.ps st.actors))) = H0
        have k0 : ∀ b o, (upd H D (.lst [V.int 0])) b = some o → b ≠ L.d → H0 b = some o := fun b o e nb => by rw [← hH0, upd_ne nb]; exact e
        have hd0 : H0 L.d = some (.frz od (.dK (kvsOf L.ps st.actors))) := by rw [← hH0, upd_same]
        have hcl0 : H0 cl = some (.lst (cs.map V.int)) := k0 _ _ (s1 _ _ hcl) (ne_of (s1 _ _ hcl) hC1.dic (by intro z; cases z))
        refine ⟨_, rfl, L.c, CC, L.dc, _, _, rfl, k0 _ _ hC1.ins hcd, T.clC, T.nc "actors", rfl, _, rfl, L.d, cl, od, _, _, rfl, hd0, SqL.of hcl0, fun q hq => ?_⟩
        have ndq : L.d ≠ q := ne_of_none hd0 hq
        refine ⟨by rw [upd_ne ndq]; exact hd0, ?_⟩
        rw [kvs_keys hC.acts, merge_new _ _ (zip_keys_nd hW.nd), List.nil_append]
        generalize hck : (st.actors.map fun a => (Sum.inl (a.num : Int) : Key)).zip (cs.map V.int) = ck
        generalize hH2 : upd (upd H0 q (.dK ck)) L.d (.dK (kvsOf L.ps st.actors)) = H2
        have s2 : Same (upd H D (.lst [V.int 0])) H2 := fun b o e => by
          rw [← hH2]
          by_cases z : b = L.d
          · subst z
            rw [upd_same]
            rw [hC1.dic] at e
            exact e
          · rw [upd_ne z, upd_ne (ne_of_none (k0 _ _ e z) hq)]
            exact k0 _ _ e z
        have hq2 : H2 q = some (.dK ck) := by rw [← hH2, upd_ne ndq.symm, upd_same]
        have hC2 := hC1.same s2
        have mv2 := mv1.trans (Mv.same mv1.tab s2)
        refine ⟨L, st, B, many, ck, q, costOf st.actors cs, rfl, hC2, mv2.tab, hW, hB1, hB2, hne, hmany, hq2, fun a ha => ?_, fun H3 D3 ts sT3 hD3 hts => ?_⟩
        · obtain ⟨x, h1, h2⟩ := find_zip hz ha
          rw [← hck, zip_val]
          unfold costOf
          rw [h1]
          exact ⟨rfl, hcost _ h2⟩
        · have hC3 := hC2.smT mv2.tab sT3
          have mv3 := mv2.thenT sT3
          have hDD : H3 D = some (.lst [V.int 0]) := by
            have h0 := s2 D _ upd_same
            obtain ⟨qs, h1, _⟩ := mv2.tab
            exact sT3.kp _ _ h0 (ne_of h0 h1 (by intro z; cases z))
          have nD : D ∉ foot L := fun z => by
            obtain ⟨o, e', _⟩ := foot_obj hC z
            rw [hD] at e'; cases e'
          refine ⟨D3, rfl, ⟨_, SqL.of hD3⟩, ?_⟩
          have tlen := Paired.length hts
          have tl := turns_len (cost := costOf st.actors cs) many 0 st.actors
          by_cases nDD : D3 = D
          · rw [nDD, hDD] at hD3
            have hD3 := Option.some.inj hD3
            injection hD3 with hD3
            cases ts with
            | nil => cases hD3
            | cons t r => rw [List.map_cons] at hD3; injection hD3 with z; cases z
          refine for_list (K := K) (a := D3) (xs := ts.map V.ref) (fun j σ H' => ∃ v4 v5, σ = [some (.ref L.c), some (.int many), some (.ref cl), some (.ref D), v4, v5] ∧ CrowdAt CA CC H' L st ∧ Mv Pt H L H' L ∧ (∀ b o, H3 b = some o → b ≠ D → H' b = some o) ∧
              H' D = some (.lst (([0] ++ turnInts ((Vbrgac.turns (costOf st.actors cs) many 0 st.actors).take j)).map V.int)))
            ⟨none, none, rfl, hC3, mv3, fun _ _ e _ => e, hDD⟩ (fun j σ H' _ ⟨_, _, _, _, _, kp, _⟩ => SqL.of (kp _ _ hD3 nDD)) ?_ ?_
          · rintro j x σ H' hx ⟨v4, v5, rfl, hC4, mv4, kp, hD4⟩
            obtain ⟨t, ht, rfl⟩ := ref_ix hx
            obtain ⟨tn, he, het⟩ := paired_ix hts ht
            have het : H3 t = some (.tup [.int tn.1, .int tn.2]) := het
            refine ⟨t, _, rfl, SqT.of (kp _ _ het (ne_of het hDD (by intro z; cases z))), rfl, _, _, rfl, _, _, rfl, rfl, ?_⟩
            refine ⟨_, rfl, .inl ⟨rfl, _, SqL.of hD4⟩, _, rfl, _, rfl, by show 2 ≤ sizeLine; decide, fun y hy => ?_⟩
            have nDy : D ≠ y := ne_of_none hD4 hy
            refine ⟨D, y, _, _, rfl, rfl, by rw [upd_ne nDy]; exact hD4, upd_same, ?_, ?_⟩
            · rw [List.length_map, List.length_append, turn_len, List.length_take]
              exact Nat.le_of_lt (small1000 (by show 1 + _ + 2 ≤ 1000; omega))
            · have s5 : Same H' (upd H' y (.lst [V.int (tn.1 : Int), V.int (tn.2 : Int)])) := Same.upd hy
              refine ⟨_, _, rfl, (hC4.same s5).beside (s5 _ _ hD4) nD, (mv4.trans (Mv.same mv4.tab s5)).beside hD (.inr ⟨_, s5 _ _ hD4⟩), fun b o e nb => ?_, ?_⟩
              · rw [upd_ne nb]
                exact s5 _ _ (kp _ _ e nb)
              · rw [upd_same, turn_snoc he]
                simp only [List.map_append, List.append_assoc]
                rfl
          · rintro σ H' ⟨v4, v5, rfl, hC4, mv4, kp, hD4⟩
            rw [List.take_of_length_le (by rw [List.length_map, tlen]; exact Nat.le_refl _)] at hD4
            refine ⟨_, rfl, ?_⟩
            have kk := k H' L D
            rw [step_ok e] at kk
            exact kk hC4 mv4 hD hD4
      · have hne : st.actors = [] := by
          have hp : ¬ (0 : Int) < ((kvsOf L.ps st.actors).length : Nat) := fun z => hp (decide_eq_true z)
          rw [hlen] at hp
          exact List.length_eq_zero_iff.mp (by omega)
        refine ⟨_, rfl, ?_⟩
        have kk := k (upd H D (.lst [V.int 0])) L D
        have et : turnInts (Vbrgac.turns (costOf st.actors cs) many 0 st.actors) = [] := by
          rw [hne, turns_nobody]
          rfl
        rw [step_ok e, et] at kk
        exact kk hC1 mv1 hD upd_same
end
end My
end

section
set_option Elab.async false
set_option linter.all false
set_option maxRecDepth 100000
set_option maxHeartbeats 2000000
namespace My
open PySem PySem.Spec PyProof.Rows L2
open Vbrgac (Actor Effect speed ready passed leastOf until_ run rounds runs earlier put queue first change acted State Call inside isCost)

theorem within_cons {n : Int} {ns : List Int} {b : Int × Int} {bs : List (Int × Int)} : within (n :: ns) (b :: bs) = (inside n b.1 b.2 && within ns bs) := rfl
theorem toNat_of {n : Int} (h : 1 ≤ n) : n = ((n.toNat : Nat) : Int) := by omega
/-- the calls to all -/
def allL : List (Int × (List Int → Call → Prop)) := [(0, clCome), (2, clTick), (3, clNext), (9, clQueue), (14, clTime)]
def oneL : List (Int × (Nat → List Int → Call → Prop)) := [(1, clLeave), (4, clAct), (5, clEffect), (6, clDispel), (7, clSpeed), (8, clPush), (10, clActor), (11, clWhen), (13, clBook)]
theorem dec_all {p : Int} {cl : List Int → Call → Prop} (h : (p, cl) ∈ allL) {ns : List Int} {bs : List (Int × Int)} (ht : table p = some bs) (hl : ns.length = bs.length) (hw : within ns bs = true) : ∃ c, Vbrgac.decode (callOf p ns []) = some c ∧ cl ns c := by
  simp only [allL, List.mem_cons, List.not_mem_nil, or_false, Prod.mk.injEq] at h
  rcases h with ⟨rfl, rfl⟩ | ⟨rfl, rfl⟩ | ⟨rfl, rfl⟩ | ⟨rfl, rfl⟩ | ⟨rfl, rfl⟩
  · cases ht
    obtain ⟨a, b, rfl⟩ := len2 hl
    exact ⟨.come a b, guard_some (by simpa [within, Vbrgac.SPEED, Vbrgac.COST] using hw), a, b, rfl, rfl⟩
  · cases ht
    obtain ⟨a, rfl⟩ := len1 hl
    have hb : 1 ≤ a ∧ a ≤ 1000000 := by simpa [within, inside_iff] using hw
    refine ⟨.tick a.toNat, guard_some (by simpa [within, Vbrgac.TICKS] using hw), a.toNat, ?_, rfl⟩
    rw [← toNat_of hb.1]
  · cases ht
    obtain rfl := len0 hl
    exact ⟨.next, rfl, rfl⟩
  · cases ht
    obtain rfl := len0 hl
    exact ⟨.queue, rfl, rfl⟩
  · cases ht
    obtain rfl := len0 hl
    exact ⟨.time, rfl, rfl⟩
theorem dec_one {p : Int} {cl : Nat → List Int → Call → Prop} (h : (p, cl) ∈ oneL) {ns : List Int} {bs : List (Int × Int)} (ht : table p = some bs) (hl : ns.length = bs.length) (hw : within ns bs = true) :
    ∃ (n : Nat) (c : Call), ns[0]? = some (n : Int) ∧ Vbrgac.decode (callOf p ns []) = some c ∧ cl n ns c ∧ ∀ st, Vbrgac.actor? st n = none → Vbrgac.does st c = .error (-3) := by
  simp only [oneL, List.mem_cons, List.not_mem_nil, or_false, Prod.mk.injEq] at h
  rcases h with ⟨rfl, rfl⟩ | ⟨rfl, rfl⟩ | ⟨rfl, rfl⟩ | ⟨rfl, rfl⟩ | ⟨rfl, rfl⟩ | ⟨rfl, rfl⟩ | ⟨rfl, rfl⟩ | ⟨rfl, rfl⟩ | ⟨rfl, rfl⟩
  · cases ht
    obtain ⟨a, rfl⟩ := len1 hl
    have hb : 1 ≤ a ∧ a ≤ 400 := by simpa [within, inside_iff] using hw
    refine ⟨a.toNat, .leave a.toNat, by rw [← toNat_of hb.1]; rfl, guard_some (by simpa [within, Vbrgac.isNum] using hw), rfl, fun st e => by simp only [Vbrgac.does, e]⟩
  · cases ht
    obtain ⟨a, b, rfl⟩ := len2 hl
    have hb : (1 ≤ a ∧ a ≤ 400) ∧ 1 ≤ b ∧ b ≤ 1000000 := by simpa [within, inside_iff] using hw
    exact ⟨a.toNat, .act a.toNat b, by rw [← toNat_of hb.1.1]; rfl, guard_some (by simpa [within, Vbrgac.isNum, Vbrgac.isCost, Vbrgac.COST] using hw), ⟨b, by rw [← toNat_of hb.1.1], rfl⟩, fun st e => by simp only [Vbrgac.does, e]⟩
  · cases ht
    obtain ⟨a, b, c, rfl⟩ := len3 hl
    have hb : (1 ≤ a ∧ a ≤ 400) ∧ (-5000 ≤ b ∧ b ≤ 5000) ∧ 1 ≤ c ∧ c ≤ 1000000 := by simpa [within, inside_iff] using hw
    exact ⟨a.toNat, .effect a.toNat b c.toNat, by rw [← toNat_of hb.1.1]; rfl, guard_some (by simpa [within, Vbrgac.isNum, Vbrgac.FAST, Vbrgac.TICKS] using hw), ⟨b, c.toNat, by rw [← toNat_of hb.1.1, ← toNat_of hb.2.2.1], rfl⟩, fun st e => by simp only [Vbrgac.does, e]⟩
  · cases ht
    obtain ⟨a, rfl⟩ := len1 hl
    have hb : 1 ≤ a ∧ a ≤ 400 := by simpa [within, inside_iff] using hw
    exact ⟨a.toNat, .dispel a.toNat, by rw [← toNat_of hb.1]; rfl, guard_some (by simpa [within, Vbrgac.isNum] using hw), rfl, fun st e => by simp only [Vbrgac.does, Vbrgac.withActor, e]⟩
  · cases ht
    obtain ⟨a, b, rfl⟩ := len2 hl
    have hb : (1 ≤ a ∧ a ≤ 400) ∧ 1 ≤ b ∧ b ≤ 1000 := by simpa [within, inside_iff] using hw
    exact ⟨a.toNat, .speed a.toNat b, by rw [← toNat_of hb.1.1]; rfl, guard_some (by simpa [within, Vbrgac.isNum, Vbrgac.SPEED] using hw), ⟨b, by rw [← toNat_of hb.1.1], rfl⟩, fun st e => by simp only [Vbrgac.does, Vbrgac.withActor, e]⟩
  · cases ht
    obtain ⟨a, b, rfl⟩ := len2 hl
    have hb : (1 ≤ a ∧ a ≤ 400) ∧ 1 ≤ b ∧ b ≤ 1000000 := by simpa [within, inside_iff] using hw
    exact ⟨a.toNat, .push a.toNat b, by rw [← toNat_of hb.1.1]; rfl, guard_some (by simpa [within, Vbrgac.isNum, Vbrgac.isCost, Vbrgac.COST] using hw), ⟨b, by rw [← toNat_of hb.1.1], rfl⟩, fun st e => by simp only [Vbrgac.does, Vbrgac.withActor, e]⟩
  · cases ht
    obtain ⟨a, rfl⟩ := len1 hl
    have hb : 1 ≤ a ∧ a ≤ 400 := by simpa [within, inside_iff] using hw
    exact ⟨a.toNat, .actor a.toNat, by rw [← toNat_of hb.1]; rfl, guard_some (by simpa [within, Vbrgac.isNum] using hw), rfl, fun st e => by simp only [Vbrgac.does, e]⟩
  · cases ht
    obtain ⟨a, rfl⟩ := len1 hl
    have hb : 1 ≤ a ∧ a ≤ 400 := by simpa [within, inside_iff] using hw
    exact ⟨a.toNat, .when_ a.toNat, by rw [← toNat_of hb.1]; rfl, guard_some (by simpa [within, Vbrgac.isNum] using hw), rfl, fun st e => by simp only [Vbrgac.does, e]⟩
  · cases ht
    obtain ⟨a, rfl⟩ := len1 hl
    have hb : 1 ≤ a ∧ a ≤ 400 := by simpa [within, inside_iff] using hw
    exact ⟨a.toNat, .book a.toNat, by rw [← toNat_of hb.1]; rfl, guard_some (by simpa [within, Vbrgac.isNum] using hw), rfl, fun st e => by simp only [Vbrgac.does, e]⟩
theorem dec_turns {ns cs : List Int} (hl : ns.length = 1) (hw : within ns [(1, 100)] = true) (hc : cs.all isCost = true) : ∃ k : Nat, ns = [(k : Int)] ∧ k ≤ 100 ∧ Vbrgac.decode (callOf 12 ns cs) = some (.turns k cs) ∧ ∀ c ∈ cs, c ≤ 1000000 := by
  obtain ⟨a, rfl⟩ := len1 hl
  have hb : 1 ≤ a ∧ a ≤ 100 := by simpa [within, inside_iff] using hw
  refine ⟨a.toNat, by rw [← toNat_of hb.1], by omega, ?_, fun c hc' => ?_⟩
  · have e : callOf 12 [a] cs = [[12, a], cs] := by unfold callOf; rw [if_pos rfl]
    rw [e]
    exact guard_some (by
      rw [hc, Bool.and_true]
      simpa [within] using hw)
  · have := List.all_eq_true.mp hc c hc'
    have := inside_iff.mp this
    exact this.2
/-- which way a place goes -/
theorem place_ways {p : Int} {bs : List (Int × Int)} (ht : table p = some bs) : p = 12 ∨ (p ≠ 12 ∧ ∃ cl, (p, cl) ∈ allL) ∨ (p ≠ 12 ∧ (∀ cl, (p, cl) ∉ allL) ∧ ∃ cl, (p, cl) ∈ oneL) := by
  have m := table_cases ht
  simp only [tableL, List.mem_cons, List.not_mem_nil, or_false, Prod.mk.injEq] at m
  rcases m with ⟨rfl, rfl⟩ | ⟨rfl, rfl⟩ | ⟨rfl, rfl⟩ | ⟨rfl, rfl⟩ | ⟨rfl, rfl⟩ | ⟨rfl, rfl⟩ | ⟨rfl, rfl⟩ | ⟨rfl, rfl⟩ | ⟨rfl, rfl⟩ | ⟨rfl, rfl⟩ | ⟨rfl, rfl⟩ | ⟨rfl, rfl⟩ | ⟨rfl, rfl⟩ | ⟨rfl, rfl⟩ | ⟨rfl, rfl⟩
  · exact .inr (.inl ⟨by decide, clCome, by simp [allL]⟩)
  · exact .inr (.inr ⟨by decide, by simp [allL], clLeave, by simp [oneL]⟩)
  · exact .inr (.inl ⟨by decide, clTick, by simp [allL]⟩)
  · exact .inr (.inl ⟨by decide, clNext, by simp [allL]⟩)
  · exact .inr (.inr ⟨by decide, by simp [allL], clAct, by simp [oneL]⟩)
  · exact .inr (.inr ⟨by decide, by simp [allL], clEffect, by simp [oneL]⟩)
  · exact .inr (.inr ⟨by decide, by simp [allL], clDispel, by simp [oneL]⟩)
  · exact .inr (.inr ⟨by decide, by simp [allL], clSpeed, by simp [oneL]⟩)
  · exact .inr (.inr ⟨by decide, by simp [allL], clPush, by simp [oneL]⟩)
  · exact .inr (.inl ⟨by decide, clQueue, by simp [allL]⟩)
  · exact .inr (.inr ⟨by decide, by simp [allL], clActor, by simp [oneL]⟩)
  · exact .inr (.inr ⟨by decide, by simp [allL], clWhen, by simp [oneL]⟩)
  · exact .inl rfl
  · exact .inr (.inr ⟨by decide, by simp [allL], clBook, by simp [oneL]⟩)
  · exact .inr (.inl ⟨by decide, clTime, by simp [allL]⟩)

/-! ### what of the text the dispatch reads -/
def Cal (P : Program) (w : World) (K : PySem.W.Frag) (mg : Str → Option Value) (base : Heap) (k : Nat) (f : Addr) (sp : Sp) : Prop := ∃ fd ps, FnOk P w K mg base CX0 k f fd ps sp ∧ Binds K fd ps [] ∧ PySem.W.keepIn K (.ref f) = true
/-- a tuple of pairs of the module -/
def KT2 (K : PySem.W.Frag) (r : Addr) (bs : List (Int × Int)) : Prop := ∃ as : List Addr, (∀ H, SqT K H r (as.map V.ref)) ∧ Paired (fun a b => ∀ H, SqT K H a [.int b.1, .int b.2]) as bs
structure TxtA (P : Program) (w : World) (K : PySem.W.Frag) (mg : Str → Option Value) (base : Heap) (CA CC Pt dR cR dA dO : Addr) (kvR kvA kvO : List (Int × V)) : Prop extends TxtR K mg CA CC where
  mgR : mg "RANGES" = some (.ref dR)
  kdR : KDict K dR kvR
  rng : ∀ p bs, table p = some bs → ∃ r, kvR.lookup p = some (.ref r) ∧ KT2 K r bs
  mgK : mg "COST_RANGE" = some (.ref cR)
  cost : ∀ H, SqT K H cR [.int 1, .int 1000000]
  mgL : mg "CALLS_TO_ALL" = some (.ref dA)
  kdA : KDict K dA kvA
  mgO : mg "CALLS_TO_ONE" = some (.ref dO)
  kdO : KDict K dO kvO
  callA : ∀ p cl, (p, cl) ∈ allL → ∃ f, kvA.lookup p = some (.ref f) ∧ Cal P w K mg base 8 f (spAll CA CC Pt cl)
  notA : ∀ p, (∀ cl, (p, cl) ∉ allL) → kvA.lookup p = none
  callO : ∀ p cl, (p, cl) ∈ oneL → ∃ f, kvO.lookup p = some (.ref f) ∧ Cal P w K mg base 8 f (spOne CA CC Pt cl)
section
variable {P : Program} {w : World} {K : PySem.W.Frag} {mg : Str → Option Value} {base : Heap} {CA CC Pt dR cR dA dO : Addr} {kvR kvA kvO : List (Int × V)}
/-! ### is_within -/
inductive PIn (K : PySem.W.Frag) (vs : List V) (H : Hp) (Q : VK) : Prop
  | mk (n lo hi : Int) (b : Addr) (h0 : vs = [.int n, .ref b]) (h1 : SqT K H b [.int lo, .int hi]) (h2 : Q (.bl (inside n lo hi)) H) : PIn K vs H Q
def spIn (K : PySem.W.Frag) : Sp := fun vs H Q _ => PIn K vs H Q
theorem scIn : FnScope ["number", "bounds"] ["number", "bounds"] (defScope d_is_within) := ⟨rfl, rfl, rfl, by decide +kernel, rfl, by decide +kernel, by decide +kernel⟩
theorem ok_in {f : Addr} {fd : FuncData} (F : Fun K "is_within" "is_within" d_is_within f fd) : FnOk P w K mg base CX0 1 f fd ["number", "bounds"] (spIn K) := by
  refine F.ok scIn (fun vs H Q E h => ?_) (fun cdv A outer s H vs Q E hr h => ?_)
  · obtain ⟨n, lo, hi, b, rfl, _⟩ := h
    rfl
  · obtain ⟨n, lo, hi, b, rfl, hb, k⟩ := h
    refine ⟨_, pss_one (ps_ret (pe_and (pe_cmpR op_le (pe_ix ix_tup (pv 1) pe_int (fun _ _ => rfl)) (pv 0) (nomark _)) (pe_one (pe_cmpR op_le (pv 0) (pe_ix ix_tup (pv 1) pe_int (fun _ _ => rfl)) (nomark _))))), ?_⟩
    refine ⟨_, rfl, b, _, _, _, rfl, rfl, hb, atI_nat (j := 0) rfl, _, rfl, _, _, rfl, rfl, _, rfl, ite2 (fun hc => ?_) (fun hc => ?_)⟩
    · have e : inside n lo hi = decide (n ≤ hi) := by
        show (decide (lo ≤ n) && decide (n ≤ hi)) = _
        rw [hc, Bool.true_and]
      rw [e] at k
      exact ⟨_, rfl, _, rfl, b, _, _, _, rfl, rfl, hb, atI_nat (j := 1) rfl, _, _, rfl, rfl, k⟩
    · have e : inside n lo hi = false := by
        show (decide (lo ≤ n) && decide (n ≤ hi)) = _
        have : decide (lo ≤ n) = false := by
          cases z : decide (lo ≤ n) with
          | false => rfl
          | true => exact absurd z hc
        rw [this, Bool.false_and]
      rw [e] at k
      exact k
/-! ### are_within -/
inductive PWithin (K : PySem.W.Frag) (vs : List V) (H : Hp) (Q : VK) : Prop
  | mk (nl r : Addr) (ns : List Int) (bs : List (Int × Int)) (h0 : vs = [.ref nl, .ref r]) (h1 : H nl = some (.lst (ns.map V.int))) (h2 : KT2 K r bs) (h3 : ns.length = bs.length) (h4 : bs.length ≤ 3) (h5 : ∀ H' : Hp, Same H H' → Q (.bl (within ns bs)) H') : PWithin K vs H Q
def spWithin (K : PySem.W.Frag) : Sp := fun vs H Q _ => PWithin K vs H Q
theorem scWithin : FnScope ["numbers", "ranges", "number", "bounds"] ["numbers", "ranges"] (defScope d_are_within) := ⟨rfl, rfl, rfl, by decide +kernel, rfl, by decide +kernel, by decide +kernel⟩
theorem all_map {α : Type} (g : α → Bool) (l : List α) : (l.map g).all id = l.all g := by
  induction l with
  | nil => rfl
  | cons a r ih => rw [List.map_cons, List.all_cons, List.all_cons, ih]; rfl
theorem ok_within {f fI : Addr} {fd fdI : FuncData} (F : Fun K "are_within" "are_within" d_are_within f fd) (T : TxtR K mg CA CC) (mgI : mg "is_within" = some (.ref fI)) (kI : PySem.W.keepIn K (.ref fI) = true)
    (GI : FnOk P w K mg base CX0 1 fI fdI ["number", "bounds"] (spIn K)) (bI : Binds K fdI ["number", "bounds"] []) : FnOk P w K mg base CX0 2 f fd ["numbers", "ranges"] (spWithin K) := by
  refine F.ok scWithin (fun vs H Q E h => ?_) (fun cdv A outer s H vs Q E hr h => ?_)
  · obtain ⟨nl, r, ns, bs, rfl, _⟩ := h
    rfl
  · obtain ⟨nl, r, ns, bs, rfl, hnl, ⟨as, hr0, has⟩, hlen, h3, k⟩ := h
    refine ⟨_, pss_one (ps_ret (pe_callB (cr_all rfl) rfl T.all boot_all (pa_cons (pe_lc (own := [("number", 2), ("bounds", 3)]) (g := gTup K 2 (gCons (gName 2) (gCons (gName 3) gNil))) rfl scWithin.nd (pi_zipt rfl T.zip (pa_cons (pv 0) (pa_cons (pv 1) pa_nil)))
          (blkOk_by (show blkC ["numbers", "ranges", "number", "bounds"] (defScope d_are_within) _ _ = true by decide +kernel))
          (fun s H C cl fp => pg_tup (n := 2) rfl (pgs_cons (pg_name (i := 2) scWithin.nd rfl (Or.inl rfl) (Or.inr rfl)) (pgs_cons (pg_name (i := 3) scWithin.nd rfl (Or.inl rfl) (Or.inr rfl)) pgs_nil)))
          (fun s H C cl fp => pts_nil) (fun s H C cl fp => pe_call GI hr rfl mgI kI bI .nil pass0 (pa_cons (pv 2) (pa_cons (pv 3) pa_nil)))) pa_nil))), ?_⟩
    have alen : as.length = bs.length := Paired.length has
    refine ⟨_, rfl, _, rfl, nl, r, ns.map V.int, as.map V.ref, rfl, SqL.of hnl, hr0 _, fun D hD => ?_⟩
    refine lc_zipt (K := K) (a := nl) (b := r) (xs := ns.map V.int) (ys := as.map V.ref) (fun i H' => Same H H' ∧ H' D = some (.lst ((((ns.zip bs).map fun x => inside x.1 x.2.1 x.2.2).take i).map V.bl))) ⟨Same.upd hD, upd_same⟩
      (fun i H' _ q => ⟨SqL.of (q.1 _ _ hnl), hr0 _⟩) ?_ ?_
    · rintro i x y t H' hx hy ⟨sm, hD'⟩ ht
      rw [List.getElem?_map] at hx
      cases zx : ns[i]? with
      | none => rw [zx] at hx; cases hx
      | some n =>
        rw [zx] at hx
        have ex := Option.some.inj hx
        subst ex
        obtain ⟨a, hA, rfl⟩ := ref_ix hy
        obtain ⟨b, hb, hab⟩ := paired_ix has hA
        have hD2 : (upd H' t (.tup [V.int n, V.ref a])) D = some (.lst ((((ns.zip bs).map fun x => inside x.1 x.2.1 x.2.2).take i).map V.bl)) := by rw [upd_ne (ne_of_none hD' ht)]; exact hD'
        have s2 : Same H (upd H' t (.tup [V.int n, V.ref a])) := sm.trans (Same.upd ht)
        refine ⟨t, _, rfl, SqT.of upd_same, rfl, _, _, rfl, _, _, rfl, rfl, rfl, ?_⟩
        refine ⟨_, rfl, _, rfl, n, b.1, b.2, a, rfl, hab _, _, hD2, ?_, fun c o e => ?_, ?_⟩
        · rw [List.length_map, List.length_take]
          exact small1000 (by
            rw [List.length_map, List.length_zip]
            omega)
        · rw [upd_ne (ne_of_none e hD)]
          exact s2 _ _ e
        · rw [upd_same, take_snoc (x := inside n b.1 b.2) (by
            rw [List.getElem?_map, show (ns.zip bs)[i]? = some (n, b) from List.getElem?_zip_eq_some.mpr ⟨zx, hb⟩]
            rfl), List.map_append]
          rfl
    · rintro H' ⟨sm, hD'⟩
      rw [List.take_of_length_le (by rw [List.length_map, List.length_zip, List.length_map, List.length_map]; omega)] at hD'
      refine ⟨D, _, rfl, SqL.of hD', ?_⟩
      rw [all_map]
      exact k H' sm
/-! ### are_costs -/
inductive PCosts (K : PySem.W.Frag) (vs : List V) (H : Hp) (Q : VK) : Prop
  | mk (cl : Addr) (cs : List Int) (h0 : vs = [.ref cl]) (h1 : H cl = some (.lst (cs.map V.int))) (h2 : cs.length ≤ 100) (h3 : ∀ H' : Hp, Same H H' → Q (.bl (cs.all isCost)) H') : PCosts K vs H Q
def spCosts (K : PySem.W.Frag) : Sp := fun vs H Q _ => PCosts K vs H Q
theorem scCosts : FnScope ["numbers", "number"] ["numbers"] (defScope d_are_costs) := ⟨rfl, rfl, rfl, by decide +kernel, rfl, by decide +kernel, by decide +kernel⟩
theorem ok_costs {f fI : Addr} {fd fdI : FuncData} (F : Fun K "are_costs" "are_costs" d_are_costs f fd) (T : TxtA P w K mg base CA CC Pt dR cR dA dO kvR kvA kvO) (mgI : mg "is_within" = some (.ref fI)) (kI : PySem.W.keepIn K (.ref fI) = true)
    (GI : FnOk P w K mg base CX0 1 fI fdI ["number", "bounds"] (spIn K)) (bI : Binds K fdI ["number", "bounds"] []) : FnOk P w K mg base CX0 2 f fd ["numbers"] (spCosts K) := by
  refine F.ok scCosts (fun vs H Q E h => ?_) (fun cdv A outer s H vs Q E hr h => ?_)
  · obtain ⟨cl, cs, rfl, _⟩ := h
    rfl
  · obtain ⟨cl, cs, rfl, hcl, hlen, k⟩ := h
    refine ⟨_, pss_one (ps_ret (pe_callB (cr_all rfl) rfl T.all boot_all (pa_cons (pe_lc (own := [("number", 1)]) (g := gName 1) rfl scCosts.nd (pi_list (pv 0))
          (blkOk_by (show blkC ["numbers", "number"] (defScope d_are_costs) _ _ = true by decide +kernel))
          (fun s H C cl fp => pg_name (i := 1) scCosts.nd rfl (Or.inl rfl) (Or.inr rfl))
          (fun s H C cl fp => pts_nil) (fun s H C cl fp => pe_call GI hr rfl mgI kI bI .nil pass0 (pa_cons (pv 1) (pa_cons (pe_glob (v := .ref cR) rfl T.mgK rfl) pa_nil)))) pa_nil))), ?_⟩
    refine ⟨_, rfl, cl, rfl, ⟨_, SqL.of hcl⟩, fun D hD => ?_⟩
    refine lc_list (K := K) (a := cl) (xs := cs.map V.int) (fun i H' => Same H H' ∧ H' D = some (.lst (((cs.map isCost).take i).map V.bl))) ⟨Same.upd hD, upd_same⟩ (fun i H' _ q => SqL.of (q.1 _ _ hcl)) ?_ ?_
    · rintro i x H' hx ⟨sm, hD'⟩
      rw [List.getElem?_map] at hx
      cases zx : cs[i]? with
      | none => rw [zx] at hx; cases hx
      | some n =>
        rw [zx] at hx
        have ex := Option.some.inj hx
        subst ex
        refine ⟨rfl, ?_⟩
        refine ⟨_, rfl, n, 1, 1000000, cR, rfl, T.cost _, _, hD', ?_, fun c o e => ?_, ?_⟩
        · rw [List.length_map, List.length_take, List.length_map]
          exact small1000 (by omega)
        · rw [upd_ne (ne_of_none e hD)]
          exact sm _ _ e
        · rw [upd_same, take_snoc (x := isCost n) (by rw [List.getElem?_map, zx]; rfl), List.map_append]
          rfl
    · rintro H' ⟨sm, hD'⟩
      rw [List.take_of_length_le (by rw [List.length_map, List.length_map]; exact Nat.le_refl _)] at hD'
      refine ⟨D, _, rfl, SqL.of hD', ?_⟩
      rw [all_map]
      exact k H' sm
/-! ### count_numbers, has_row -/
inductive PCount (vs : List V) (H : Hp) (Q : VK) : Prop
  | mk (p : Int) (bs : List (Int × Int)) (h0 : vs = [.int p]) (h1 : table p = some bs) (h2 : Q (.int bs.length) H) : PCount  vs H Q
def spCount : Sp := fun vs H Q _ => PCount  vs H Q
theorem scCount : FnScope ["place"] ["place"] (defScope d_count_numbers) := ⟨rfl, rfl, rfl, by decide +kernel, rfl, by decide +kernel, by decide +kernel⟩
theorem ok_count {f : Addr} {fd : FuncData} (F : Fun K "count_numbers" "count_numbers" d_count_numbers f fd) (T : TxtA P w K mg base CA CC Pt dR cR dA dO kvR kvA kvO) : FnOk P w K mg base CX0 1 f fd ["place"] spCount := by
  refine F.ok scCount (fun vs H Q E h => ?_) (fun cdv A outer s H vs Q E hr h => ?_)
  · obtain ⟨p, bs, rfl, _⟩ := h
    rfl
  · obtain ⟨p, bs, rfl, ht, k⟩ := h
    obtain ⟨r, hr1, as, hr0, has⟩ := T.rng p bs ht
    refine ⟨_, pss_one (ps_ret (pe_callB call_len_seq (by rfl) T.len PySem.boot_len (pa_cons (pe_ix ix_kd (pe_glob (v := .ref dR) rfl T.mgR rfl) (pv 0) (fun _ _ => rfl)) pa_nil))), ?_⟩
    have el : (as.map V.ref).length = bs.length := by rw [List.length_map, Paired.length has]
    rw [← el] at k
    exact ⟨_, rfl, dR, kvR, p, _, rfl, rfl, T.kdR, hr1, r, _, rfl, .inr (hr0 _), k⟩
inductive PRow (vs : List V) (H : Hp) (Q : VK) : Prop
  | mk (p : Int) (h0 : vs = [.int p]) (h1 : Q (.bl (decide (V.int p = V.int 12))) H) : PRow  vs H Q
def spRow : Sp := fun vs H Q _ => PRow  vs H Q
theorem scRow : FnScope ["place"] ["place"] (defScope d_has_row) := ⟨rfl, rfl, rfl, by decide +kernel, rfl, by decide +kernel, by decide +kernel⟩
theorem ok_row {f : Addr} {fd : FuncData} (F : Fun K "has_row" "has_row" d_has_row f fd) (T : TxtA P w K mg base CA CC Pt dR cR dA dO kvR kvA kvO) : FnOk P w K mg base CX0 1 f fd ["place"] spRow := by
  refine F.ok scRow (fun vs H Q E h => ?_) (fun cdv A outer s H vs Q E hr h => ?_)
  · obtain ⟨p, rfl, _⟩ := h
    rfl
  · obtain ⟨p, rfl, k⟩ := h
    obtain ⟨t, g⟩ := T.turns
    exact ⟨_, pss_one (ps_ret (pe_cmpR op_eq (pv 0) (pe_glob (v := .int 12) rfl g ⟨_, rfl⟩) (nomark _))), _, rfl, rfl, k⟩
end
end My
end

section
set_option Elab.async false
set_option linter.all false
set_option maxRecDepth 100000
set_option maxHeartbeats 2000000
namespace My
open PySem PySem.Spec PyProof.Rows L2
open Vbrgac (Actor Effect speed ready passed leastOf until_ run rounds runs earlier put queue first change acted State Call inside isCost)

theorem table_few {p : Int} {bs : List (Int × Int)} (h : table p = some bs) : bs.length ≤ 3 := by
  have m := table_cases h
  simp only [tableL, List.mem_cons, List.not_mem_nil, or_false, Prod.mk.injEq] at m
  rcases m with ⟨_, rfl⟩ | ⟨_, rfl⟩ | ⟨_, rfl⟩ | ⟨_, rfl⟩ | ⟨_, rfl⟩ | ⟨_, rfl⟩ | ⟨_, rfl⟩ | ⟨_, rfl⟩ | ⟨_, rfl⟩ | ⟨_, rfl⟩ | ⟨_, rfl⟩ | ⟨_, rfl⟩ | ⟨_, rfl⟩ | ⟨_, rfl⟩ | ⟨_, rfl⟩ <;> decide
theorem Ret.after {CA CC Pt : Addr} {H H1 : Hp} {L : Lay} {Q : VK} {x : State × List Int} (k : Ret CA CC Pt H L Q x) (hT : TabIn Pt H) (s : Same H H1) : Ret CA CC Pt H1 L Q x :=
  fun H' L' D c1 c2 c3 c4 => k H' L' D c1 ((Mv.same hT s).trans c2) (s.free c3) c4
theorem num_none {st : State} {n : Nat} (h : Vbrgac.actor? st n = none) : ∀ a ∈ st.actors, a.num ≠ n := fun a ha e => by
  have := List.find?_eq_none.mp h a ha
  simp [e] at this
theorem num_some {st : State} {n : Nat} {a : Actor} (h : Vbrgac.actor? st n = some a) : ∃ i : Nat, st.actors[i]? = some a ∧ a.num = n := by
  have h1 : a.num = n := by simpa using List.find?_some h
  obtain ⟨i, hi, e⟩ := List.getElem_of_mem (List.mem_of_find?_eq_some h)
  exact ⟨i, List.getElem?_eq_some_iff.mpr ⟨hi, e⟩, h1⟩
theorem dec_12 {p : Int} (h : V.int p = V.int 12) : p = 12 := by injection h

section
variable {P : Program} {w : World} {K : PySem.W.Frag} {mg : Str → Option Value} {base : Heap} {CA CC Pt dR cR dA dO : Addr} {kvR kvA kvO : List (Int × V)}
inductive PAnswer (CA CC Pt : Addr) (vs : List V) (H : Hp) (Q : VK) : Prop
  | mk (L : Lay) (st : State) (B p : Int) (nl cl : Addr) (ns cs : List Int) (bs : List (Int × Int)) (h0 : vs = [.ref L.c, .int p, .ref nl, .ref cl]) (h1 : CrowdAt CA CC H L st) (h2 : TabIn Pt H) (h3 : Wf B st) (h4 : 1000000 ≤ B) (h5 : B ≤ 1000000000000) (h6 : H nl = some (.lst (ns.map V.int))) (h7 : nl ∉ foot L) (h8 : H cl = some (.lst (cs.map V.int))) (h9 : cs.length ≤ 100) (h10 : table p = some bs) (h11 : ns.length = bs.length) (h12 : (p ≠ 12 → cs = [])) (h13 : Ret CA CC Pt H L Q (Vbrgac.stepNumbers st (callOf p ns cs))) : PAnswer CA CC Pt vs H Q
def spAnswer (CA CC Pt : Addr) : Sp := fun vs H Q _ => PAnswer CA CC Pt vs H Q
theorem scAnswer : FnScope ["crowd", "place", "numbers", "costs", "actor"] ["crowd", "place", "numbers", "costs"] (defScope d_answer) := ⟨rfl, rfl, rfl, by decide +kernel, rfl, by decide +kernel, by decide +kernel⟩
theorem ok_answer {f fW fK fF : Addr} {fd fdW fdK fdF : FuncData} (F : Fun K "answer" "answer" d_answer f fd) (T : TxtA P w K mg base CA CC Pt dR cR dA dO kvR kvA kvO)
    (GW : FnOk P w K mg base CX0 2 fW fdW ["numbers", "ranges"] (spWithin K)) (mgW : mg "are_within" = some (.ref fW)) (kW : PySem.W.keepIn K (.ref fW) = true) (bW : Binds K fdW ["numbers", "ranges"] [])
    (GK : FnOk P w K mg base CX0 2 fK fdK ["numbers"] (spCosts K)) (mgK : mg "are_costs" = some (.ref fK)) (kK : PySem.W.keepIn K (.ref fK) = true) (bK : Binds K fdK ["numbers"] [])
    (GF : FnOk P w K mg base CX0 9 fF fdF ["crowd", "many", "costs"] (spFore CA CC Pt)) (mgF : mg "foretell" = some (.ref fF)) (kF : PySem.W.keepIn K (.ref fF) = true) (bF : Binds K fdF ["crowd", "many", "costs"] []) :
    FnOk P w K mg base CX0 10 f fd ["crowd", "place", "numbers", "costs"] (spAnswer CA CC Pt) := by
  refine F.ok scAnswer (fun vs H Q E h => ?_) (fun cdv A outer s H vs Q E hr h => ?_)
  · obtain ⟨L, st, B, p, nl, cl, ns, cs, bs, rfl, _⟩ := h
    rfl
  · obtain ⟨L, st, B, p, nl, cl, ns, cs, bs, rfl, hC, hT, hW, hB1, hB2, hnl, nnl, hcl, hcs, ht, hlen, h12, k⟩ := h
    obtain ⟨t1, g1⟩ := T.range
    obtain ⟨t2, g2⟩ := T.turns
    obtain ⟨t3, g3⟩ := T.nobody
    have hr2 : Room 2 _ := hr.mono (show 2 ≤ 9 by decide)
    have hr8 : Room 8 _ := hr.mono (show 8 ≤ 9 by decide)
    have hu := hu_of hr
    refine ⟨_, pss_cons (ps_if (PW.pt (pw_or (pt_not (pt_val (pe_call GW hr2 rfl mgW kW bW .nil pass0 (pa_cons (pv 2) (pa_cons (pe_ix ix_kd (pe_glob (v := .ref dR) rfl T.mgR rfl) (pv 1) (fun _ _ => rfl)) pa_nil)))))
          (pw_or1 (pt_not (pt_val (pe_call GK hr2 rfl mgK kK bK .nil pass0 (pa_cons (pv 3) pa_nil)))))))
        (pss_one (ps_ret (pe_lst (pa_cons (pe_glob (v := .int (-1)) rfl g1 ⟨_, rfl⟩) pa_nil)))) pss_nil)
      (pss_cons (ps_if (pt_cmpR op_eq (pv 1) (pe_glob (v := .int 12) rfl g2 ⟨_, rfl⟩) (nomark _)) (pss_one (ps_ret (pe_call GF hr rfl mgF kF bF .nil pass0 (pa_cons (pv 0) (pa_cons (pe_ix ix_list (pv 2) pe_int (fun _ _ => rfl)) (pa_cons (pv 3) pa_nil)))))) pss_nil)
      (pss_cons (ps_if (pt_cmpR op_in_kd (pv 1) (pe_glob (v := .ref dA) rfl T.mgL rfl) rfl) (pss_one (ps_ret (pe_callV hr8 (pe_ix ix_kd (pe_glob (v := .ref dA) rfl T.mgL rfl) (pv 1) (fun _ _ => rfl)) (pa_cons (pv 0) (pa_cons (pv 2) pa_nil))))) pss_nil)
      (pss_cons (ps_set (i := 4) scAnswer.nd rfl (Or.inl rfl) (pe_dget1 hu (pe_fld (pv 0) rfl) (pe_ix ix_list (pv 2) pe_int (fun _ _ => rfl)) ⟨rfl, rfl, rfl, rfl⟩))
      (pss_cons (ps_if (pt_cmp (pc_isN (pv 4))) (pss_one (ps_ret (pe_lst (pa_cons (pe_glob (v := .int (-3)) rfl g3 ⟨_, rfl⟩) pa_nil)))) pss_nil)
      (pss_one (ps_ret (pe_callV hr8 (pe_ix ix_kd (pe_glob (v := .ref dO) rfl T.mgO rfl) (pv 1) (fun _ _ => rfl)) (pa_cons (pv 0) (pa_cons (pv 4) (pa_cons (pv 2) pa_nil)))))))))), ?_⟩
    obtain ⟨r, hr1, hKT⟩ := T.rng p bs ht
    -- are the numbers within their ranges?
    refine ⟨_, rfl, _, rfl, dR, kvR, p, _, rfl, rfl, T.kdR, hr1, nl, r, ns, bs, rfl, hnl, hKT, hlen, table_few ht, fun H1 s1 => ?_⟩
    have out : ∀ H2 : Hp, Same H H2 → (within ns bs && cs.all isCost) = false → ∀ D, H2 D = none → Q (.ref D) (upd H2 D (.lst [V.int (-1)])) := fun H2 s2 hw D hD => by
      have e : Vbrgac.stepNumbers st (callOf p ns cs) = (st, [-1]) := by
        unfold Vbrgac.stepNumbers
        rw [dec_out ht hlen h12 hw]
      exact k.go e (hC.same s2) (Mv.same hT s2) hD
    refine ⟨_, rfl, ?_⟩
    cases hw : within ns bs with
    | false =>
      show if (!false) = true then _ else _
      refine iteT ?_
      refine iteT ⟨by show 1 ≤ sizeLine; decide, fun D hD => out H1 s1 (by rw [hw]; rfl) D hD⟩
    | true =>
      show if (!true) = true then _ else _
      refine iteF ?_
      refine ⟨_, rfl, cl, cs, rfl, s1 _ _ hcl, hcs, fun H2 s2' => ?_⟩
      have s2 : Same H H2 := s1.trans s2'
      refine ⟨_, rfl, ?_⟩
      cases hc : cs.all isCost with
      | false =>
        show if (!false) = true then _ else _
        exact iteT ⟨by show 1 ≤ sizeLine; decide, fun D hD => out H2 s2 (by rw [hc, Bool.and_false]) D hD⟩
      | true =>
        show if (!true) = true then _ else _
        refine iteF ?_
        have hC2 := hC.same s2
        have mv2 : Mv Pt H L H2 L := Mv.same hT s2
        have k2 := k.after hT s2
        have hnl2 := s2 _ _ hnl
        have num : ∀ c, Vbrgac.decode (callOf p ns cs) = some c → Ret CA CC Pt H2 L Q (Vbrgac.step st c) := fun c hd => by
          have : Vbrgac.stepNumbers st (callOf p ns cs) = Vbrgac.step st c := by
            unfold Vbrgac.stepNumbers
            rw [hd]
          rw [← this]
          exact k2
        refine ⟨_, rfl, rfl, _, rfl, ite2 (fun hp => ?_) (fun hp => ?_)⟩
        · -- turns
          have hp : p = 12 := dec_12 (of_decide_eq_true hp)
          subst hp
          cases ht
          obtain ⟨m, rfl, hm, hd, hle⟩ := dec_turns hlen hw hc
          exact ⟨_, rfl, _, rfl, nl, _, _, _, rfl, rfl, SqL.of hnl2, atI_nat (j := 0) rfl, _, rfl, L, st, B, m, cl, cs, rfl, hC2, mv2.tab, hW, hB1, hB2, hm, s2 _ _ hcl, hcs, hle, num _ hd⟩
        · have hp : p ≠ 12 := fun z => hp (decide_eq_true (by rw [z]))
          have hcs0 := h12 hp
          subst hcs0
          refine ⟨_, rfl, dA, kvA, p, rfl, rfl, T.kdA, _, rfl, ?_⟩
          rcases place_ways ht with z | ⟨_, clx, hm⟩ | ⟨_, hno, clx, hm⟩
          · exact absurd z hp
          · -- a call to all
            obtain ⟨f1, hf1, hcal⟩ := T.callA p clx hm
            obtain ⟨c, hd, hclx⟩ := dec_all hm ht hlen hw
            rw [hf1]
            refine iteT ?_
            exact ⟨_, rfl, dA, kvA, p, _, rfl, rfl, T.kdA, hf1, f1, _, rfl, hcal, _, rfl, _, rfl, L, st, B, nl, ns, c, rfl, hC2, mv2.tab, hW, hB2, hnl2, hclx, num c hd⟩
          · -- a call to one
            obtain ⟨f1, hf1, hcal⟩ := T.callO p clx hm
            obtain ⟨n, c, hn0, hd, hclx, hnone⟩ := dec_one hm ht hlen hw
            rw [T.notA p hno]
            refine iteF ?_
            have hix : (ns.map V.int)[0]? = some (V.int (n : Int)) := by rw [List.getElem?_map, hn0]; rfl
            refine ⟨_, rfl, L.c, CC, L.dc, _, _, rfl, hC2.ins, T.clC, T.nc "actors", rfl, L.d, rfl, .inl ⟨_, .inl hC2.dic⟩, _, rfl, nl, _, _, _, rfl, rfl, SqL.of hnl2, atI_nat (j := 0) hix, ?_⟩
            cases ha : Vbrgac.actor? st n with
            | none =>
              have hv := kvs_none hC2.acts (num_none ha)
              have hg : DGet H2 L.d (.int (n : Int)) none := by
                rw [← hv]
                exact DGet.k (k := Sum.inl (n : Int)) hC2.dic
              refine ⟨_, hg, ?_⟩
              refine ⟨_, rfl, _, rfl, ?_⟩
              show if decide (V.non = V.non) = true then _ else _
              refine iteT ?_
              exact ⟨by show 1 ≤ sizeLine; decide, fun D hD => (num c hd).go (step_err (hnone st ha)) hC2 (Mv.same mv2.tab fun _ _ e => e) hD⟩
            | some a =>
              obtain ⟨i, hi, rfl⟩ := num_some ha
              obtain ⟨⟨q, le⟩, hq, hA⟩ := paired_ix' hC2.acts.act hi
              have hg : DGet H2 L.d (.int (a.num : Int)) (some (.ref q)) := by
                rw [← kvs_get hC2.acts hW.nd hq hi]
                exact DGet.k (k := Sum.inl (a.num : Int)) hC2.dic
              refine ⟨_, hg, ?_⟩
              refine ⟨_, rfl, _, rfl, ?_⟩
              show if decide (V.ref q = V.non) = true then _ else _
              rw [decide_eq_false (by intro z; cases z)]
              refine iteF ?_
              exact ⟨_, rfl, dO, kvO, p, _, rfl, rfl, T.kdO, hf1, f1, _, rfl, hcal, _, rfl, _, rfl, _, rfl, L, st, B, nl, ns, c, i, q, le, a, rfl, hC2, mv2.tab, hW, hB2, hq, hi, hnl2, nnl, hclx, num c hd⟩
end
end My
end

section
set_option Elab.async false
set_option linter.all false
set_option maxRecDepth 100000
set_option maxHeartbeats 2000000
namespace My
open PySem PySem.Spec PyProof.Rows L2
open Vbrgac (Actor Effect speed ready passed leastOf until_ run rounds runs earlier put queue first change acted State Call inside isCost)

theorem cut_nat {ns : List Int} {i n : Nat} (h : i + n ≤ ns.length) : cutV (ns.map V.int) (some (i : Int)) (some ((i + n : Nat) : Int)) = ((ns.drop i).take n).map V.int := by
  unfold cutV
  rw [HT.sIx_nat, HT.sIx_nat, List.length_map, Nat.min_eq_left h, Nat.min_eq_left (show i ≤ ns.length by omega), List.map_take, List.map_drop]
  congr 1
  omega
theorem small_line {n : Nat} (h : n ≤ 1000000) : n < sizeLine := Nat.lt_of_le_of_lt h (by decide)

section
variable {P : Program} {w : World} {K : PySem.W.Frag} {mg : Str → Option Value} {base : Heap} {CA CC Pt dR cR dA dO : Addr} {kvR kvA kvO : List (Int × V)}
/-! ### read_row -/
inductive PRead (K : PySem.W.Frag) (vs : List V) (H : Hp) (Q : VK) : Prop
  | mk (a : Addr) (ns : List Int) (i m : Nat) (h0 : vs = [.ref a, .int i]) (h1 : SqL K H a (ns.map V.int)) (h2 : ns[i]? = some (m : Int)) (h3 : i + 1 + m ≤ ns.length) (h4 : ∀ p, H p = none → Q (.ref p) (upd H p (.lst (((ns.drop (i + 1)).take m).map V.int)))) : PRead K vs H Q
def spRead (K : PySem.W.Frag) : Sp := fun vs H Q _ => PRead K vs H Q
theorem scRead : FnScope ["calls", "start"] ["calls", "start"] (defScope d_read_row) := ⟨rfl, rfl, rfl, by decide +kernel, rfl, by decide +kernel, by decide +kernel⟩
theorem ok_read {f : Addr} {fd : FuncData} (F : Fun K "read_row" "read_row" d_read_row f fd) : FnOk P w K mg base CX0 1 f fd ["calls", "start"] (spRead K) := by
  refine F.ok scRead (fun vs H Q E h => ?_) (fun cdv A outer s H vs Q E hr h => ?_)
  · obtain ⟨a, ns, i, m, rfl, _⟩ := h
    rfl
  · obtain ⟨a, ns, i, m, rfl, hS, hm, hle, k⟩ := h
    refine ⟨_, pss_one (ps_ret (pe_slice sl_list (pv 0) (po_some (pe_op op_add (pv 1) pe_int)) (po_some (pe_op op_add (pe_op op_add (pv 1) pe_int) (pe_ix ix_list (pv 0) (pv 1) (fun _ _ => rfl)))))), ?_⟩
    refine ⟨_, rfl, _, rfl, _, _, rfl, rfl, _, rfl, _, rfl, _, _, rfl, rfl, _, rfl, _, rfl, a, _, _, _, rfl, rfl, hS, atI_nat (j := i) (by rw [List.getElem?_map, hm]; rfl), _, _, rfl, rfl, _, rfl, a, _, rfl, hS, fun p hp => ?_⟩
    have kk := k p hp
    rw [← cut_nat (i := i + 1) (n := m) (by omega)] at kk
    exact kk
/-! ### answers -/
inductive PAnswers (Pt : Addr) (K : PySem.W.Frag) (vs : List V) (H : Hp) (Q : VK) : Prop
  | mk (a : Addr) (ns : List Int) (h0 : vs = [.ref a]) (h1 : SqL K H a (ns.map V.int)) (h2 : ns.length ≤ 16000) (h3 : PyVbrgac.answers_asked ns = true) (h4 : TabIn Pt H) (h5 : ∀ (H' : Hp) (p : Addr), H' p = some (.lst ((PyVbrgac.answers ns).map V.int)) → Q (.ref p) H') : PAnswers Pt K vs H Q
def spAnswers (Pt : Addr) (K : PySem.W.Frag) : Sp := fun vs H Q _ => PAnswers Pt K vs H Q
theorem scAns : FnScope ["calls", "crowd", "answered", "start", "place", "end", "numbers", "costs", "told"] ["calls"] (defScope d_answers) := ⟨rfl, rfl, rfl, by decide +kernel, rfl, by decide +kernel, by decide +kernel⟩
structure AnsInv (CA CC Pt : Addr) (H0 : Hp) (ns : List Int) (D : Addr) (H : Hp) (L : Lay) (st : State) (B : Int) (start f : Nat) (cs : List (List (List Int))) (out : List Int) : Prop where
  cr : CrowdAt CA CC H L st
  wf : Wf B st
  b1 : 1000000 ≤ B
  b2 : B + 1000000 * cs.length ≤ 1000000000
  tab : TabIn Pt H
  kp : ∀ b o, H0 b = some o → b ≠ Pt → H b = some o
  new : ∀ b ∈ foot L, H0 b = none
  nD : D ∉ foot L
  lst : H D = some (.lst (out.map V.int))
  le : start ≤ ns.length
  rest : PyFlat.calls PyVbrgac.shape f (ns.drop start) = some cs
  ask : cs.all VbrgacNeutral.asked1 = true
  few : cs.length ≤ 400
  len : out.length + 301 * cs.length ≤ 120400
  eq : PyVbrgac.answers ns = out ++ PyFlat.told (PyFlat.played VbrgacNeutral.step st cs)
  d0 : H0 D = none
  t0 : TabIn Pt H0
theorem AnsInv.next {H0 H H4 H5 : Hp} {ns : List Int} {D : Addr} {L L5 : Lay} {st : State} {B : Int} {start f e f' : Nat} {cs cs' : List (List (List Int))} {out row t : List Int} {p : Int} {bs : List (Int × Int)} (g : AnsInv CA CC Pt H0 ns D H L st B start f cs out)
    (nc : NextCall p (ns.drop (start + 1)) cs bs row t cs' f') (he1 : e ≤ ns.length) (he2 : ns.drop e = t) (s4 : Same H H4) (hC5 : CrowdAt CA CC H5 L5 (Vbrgac.stepNumbers st (callOf p ((ns.drop (start + 1)).take bs.length) row)).1) (mv5 : Mv Pt H4 L H5 L5)
    {ys zs : List V} : H5 D = some (.lst (out.map V.int)) ∧ (zs = (out ++ (((Vbrgac.stepNumbers st (callOf p ((ns.drop (start + 1)).take bs.length) row)).2.length : Int) :: (Vbrgac.stepNumbers st (callOf p ((ns.drop (start + 1)).take bs.length) row)).2)).map V.int →
      AnsInv CA CC Pt H0 ns D (upd (upd H5 D (.lst ys)) D (.lst zs)) L5 (Vbrgac.stepNumbers st (callOf p ((ns.drop (start + 1)).take bs.length) row)).1 (B + 1000000) e f' cs' (out ++ (((Vbrgac.stepNumbers st (callOf p ((ns.drop (start + 1)).take bs.length) row)).2.length : Int) :: (Vbrgac.stepNumbers st (callOf p ((ns.drop (start + 1)).take bs.length) row)).2))) := by
  have hD4 := s4 _ _ g.lst
  have tab4 : TabIn Pt H4 := (SameT.of_same g.tab s4).tab
  have hD5 : H5 D = some (.lst (out.map V.int)) := mv5.lst tab4 hD4 g.nD
  have nD5 : D ∉ foot L5 := fun z => by
    rcases mv5.sub D z with q | q
    · exact g.nD q
    · rw [hD4] at q; cases q
  refine ⟨hD5, fun hz => ?_⟩
  have el : cs.length = cs'.length + 1 := by rw [nc.eq]; rfl
  have old : ∀ b, H b = none → H0 b = none := fun b hb => by
    cases q : H0 b with
    | none => rfl
    | some o =>
      by_cases z : b = Pt
      · obtain ⟨qs, h1, _⟩ := g.tab
        rw [z, h1] at hb; cases hb
      · rw [g.kp _ _ q z] at hb; cases hb
  have few := g.few
  have b2 := g.b2
  have len := g.len
  have al := nc.few g.wf
  refine ⟨(hC5.beside hD5 nD5).beside upd_same nD5, nc.wf g.wf g.b1, by have := g.b1; omega, by omega, ?_, fun b o e nb => ?_, fun b hb => ?_, nD5, by rw [upd_same, hz], he1, by rw [he2]; exact nc.rest, ?_, by omega, ?_, ?_, g.d0, g.t0⟩
  · refine tab_keep mv5.tab fun b o e w => ?_
    have nb : b ≠ D := ne_of e hD5 (by rcases w with ⟨_, rfl⟩ | ⟨_, rfl⟩ <;> intro z <;> cases z)
    rw [upd_ne nb, upd_ne nb]
    exact e
  · have nbD := ne_of_none e g.d0
    rw [upd_ne nbD, upd_ne nbD]
    exact mv5.kp _ _ (s4 _ _ (g.kp _ _ e nb)) (fun z => by rw [g.new b z] at e; cases e) nb
  · rcases mv5.sub b hb with q | q
    · exact g.new b q
    · exact old b (s4.free q)
  · have := g.ask
    rw [nc.eq, List.all_cons, Bool.and_eq_true] at this
    exact this.2
  · rw [List.length_append, List.length_cons]
    omega
  · rw [g.eq, nc.eq, played_cons, List.append_assoc]
theorem seq_kept {H0 H : Hp} {a Pt : Addr} {xs : List V} (h : SqL K H0 a xs) (hT : TabIn Pt H0) (kp : ∀ b o, H0 b = some o → b ≠ Pt → H b = some o) : SqL K H a xs := by
  obtain ⟨qs, hq, _⟩ := hT
  rcases h with (h | ⟨o, h⟩) | h
  · exact .inl (.inl (kp _ _ h (ne_of h hq (by intro z; cases z))))
  · exact .inl (.inr ⟨o, kp _ _ h (ne_of h hq (by intro z; cases z))⟩)
  · exact .inr h
theorem ok_answers {f fI fC fR fD fA : Addr} {fd fdI fdC fdR fdD fdA : FuncData} (F : Fun K "answers" "answers" d_answers f fd) (T : TxtA P w K mg base CA CC Pt dR cR dA dO kvR kvA kvO)
    (M : Mk K CC fI) (GI : FnOk P w K mg base CX0 1 fI fdI ["self"] (spInitC CC)) (bI : Binds K fdI ["self"] [])
    (GC : FnOk P w K mg base CX0 1 fC fdC ["place"] spCount) (mgC : mg "count_numbers" = some (.ref fC)) (kC : PySem.W.keepIn K (.ref fC) = true) (bC : Binds K fdC ["place"] [])
    (GR : FnOk P w K mg base CX0 1 fR fdR ["place"] spRow) (mgR : mg "has_row" = some (.ref fR)) (kR : PySem.W.keepIn K (.ref fR) = true) (bR : Binds K fdR ["place"] [])
    (GD : FnOk P w K mg base CX0 1 fD fdD ["calls", "start"] (spRead K)) (mgD : mg "read_row" = some (.ref fD)) (kD : PySem.W.keepIn K (.ref fD) = true) (bD : Binds K fdD ["calls", "start"] [])
    (GA : FnOk P w K mg base CX0 10 fA fdA ["crowd", "place", "numbers", "costs"] (spAnswer CA CC Pt)) (mgA : mg "answer" = some (.ref fA)) (kA : PySem.W.keepIn K (.ref fA) = true) (bA : Binds K fdA ["crowd", "place", "numbers", "costs"] []) :
    FnOk P w K mg base CX0 11 f fd ["calls"] (spAnswers Pt K) := by
  refine F.ok scAns (fun vs H Q E h => ?_) (fun cdv A outer s H vs Q E hr h => ?_)
  · obtain ⟨a, ns, rfl, _⟩ := h
    rfl
  · obtain ⟨a, ns, rfl, hS, hlen, hask, hT, k⟩ := h
    have hr1 : Room 1 _ := hr.mono (show 1 ≤ 10 by decide)
    have hr2 : Room 2 _ := hr.mono (show 2 ≤ 10 by decide)
    refine ⟨_, pss_cons (ps_set (i := 1) scAns.nd rfl (Or.inl rfl) (pe_make0 M GI hr2 rfl T.toTxtD.mgC bI .nil pass0))
      (pss_cons (ps_set (i := 2) scAns.nd rfl (Or.inl rfl) (pe_lst pa_nil))
      (pss_cons (ps_set (i := 3) scAns.nd rfl (Or.inl rfl) pe_int)
      (pss_cons (ps_while PassesOwn.never (pt_cmpR op_lt (pv 3) (pe_callB call_len_seq (by rfl) T.len PySem.boot_len (pa_cons (pv 0) pa_nil)) (nomark _))
        (pss_cons (ps_set (i := 4) scAns.nd rfl (Or.inl rfl) (pe_ix ix_list (pv 0) (pv 3) (fun _ _ => rfl)))
        (pss_cons (ps_set (i := 5) scAns.nd rfl (Or.inl rfl) (pe_op op_add (pe_op op_add (pv 3) pe_int) (pe_call GC hr1 rfl mgC kC bC .nil pass0 (pa_cons (pv 4) pa_nil))))
        (pss_cons (ps_set (i := 6) scAns.nd rfl (Or.inl rfl) (pe_slice sl_list (pv 0) (po_some (pe_op op_add (pv 3) pe_int)) (po_some (pv 5))))
        (pss_cons (ps_set (i := 7) scAns.nd rfl (Or.inl rfl) (pe_lst pa_nil))
        (pss_cons (ps_if (pt_val (pe_call GR hr1 rfl mgR kR bR .nil pass0 (pa_cons (pv 4) pa_nil)))
            (pss_cons (ps_set (i := 7) scAns.nd rfl (Or.inl rfl) (pe_call GD hr1 rfl mgD kD bD .nil pass0 (pa_cons (pv 0) (pa_cons (pv 5) pa_nil))))
              (pss_one (ps_aug (i := 5) scAns.nd rfl (Or.inl rfl) (pe_op op_add pe_int (pe_callB call_len_seq (by rfl) T.len PySem.boot_len (pa_cons (pv 7) pa_nil))) ip_add))) pss_nil)
        (pss_cons (ps_set (i := 8) scAns.nd rfl (Or.inl rfl) (pe_call GA hr rfl mgA kA bA .nil pass0 (pa_cons (pv 1) (pa_cons (pv 4) (pa_cons (pv 6) (pa_cons (pv 7) pa_nil))))))
        (pss_cons (ps_expr (pe_bm PySem.F.plainAttrs_list PySem.F.slot_list_append PySem.F.type_list_append mt_append (pv 2) (pa_cons (pe_callB call_len_seq (by rfl) T.len PySem.boot_len (pa_cons (pv 8) pa_nil)) pa_nil)))
        (pss_cons (ps_expr (pe_bm PySem.F.plainAttrs_list PySem.F.slot_list_extend PySem.F.type_list_extend mt_extend (pv 2) (pa_cons (pv 8) pa_nil)))
        (pss_one (ps_set (i := 3) scAns.nd rfl (Or.inl rfl) (pv 5))))))))))))
      (pss_one (ps_ret (pv 2)))))), ?_⟩
    -- crowd = Crowd(); answered = []; start = 0
    intro x dx nx ndx nex
    refine ⟨x, dx, rfl, upd_same, fun H1 d hd hx1 hd1 k1 => ⟨rfl, ?_⟩⟩
    have s1 : Same H H1 := Same.made nx ndx k1
    have hd0 : H d = none := by
      cases q : H d with
      | none => rfl
      | some o =>
        rw [upd_ne (ne_of_none q nx), upd_ne (ne_of_none q ndx), q] at hd
        cases hd
    refine ⟨Nat.zero_le _, fun D hD => ?_⟩
    have s2 : Same H1 (upd H1 D (.lst [])) := Same.upd hD
    have hC1 : CrowdAt CA CC H1 ⟨x, dx, d, []⟩ Vbrgac.start := ⟨hx1, hd1, .nil, List.nodup_nil, List.nodup_nil⟩
    have nDf : D ∉ foot ⟨x, dx, d, []⟩ := fun z => by
      obtain ⟨o, e, _⟩ := foot_obj hC1 z
      rw [hD] at e; cases e
    have hT1 : TabIn Pt H1 := (SameT.of_same hT s1).tab
    -- what is asked of the line
    obtain ⟨cs0, e0, ask0, few0⟩ : ∃ cs, PyVbrgac.calls ns = some cs ∧ cs.all VbrgacNeutral.asked1 = true ∧ cs.length ≤ 400 := by
      unfold PyVbrgac.answers_asked at hask
      cases e : PyVbrgac.calls ns with
      | none => rw [e] at hask; cases hask
      | some cs =>
        rw [e] at hask
        simp only [Bool.and_eq_true, PyFlat.atMost, decide_eq_true_eq, VbrgacNeutral.asked] at hask
        exact ⟨cs, rfl, hask.2.1, hask.1⟩
    have eq0 : PyVbrgac.answers ns = [] ++ PyFlat.told (PyFlat.played VbrgacNeutral.step Vbrgac.start cs0) := by
      unfold PyVbrgac.answers
      rw [e0]
      rfl
    refine ⟨fun m σ H' => ∃ (v4 v5 v6 v7 v8 : Option V) (L : Lay) (st : State) (B : Int) (start f : Nat) (cs : List (List (List Int))) (out : List Int), m = ns.length - start ∧ σ = [some (.ref a), some (.ref L.c), some (.ref D), some (.int start), v4, v5, v6, v7, v8] ∧
      AnsInv CA CC Pt H ns D H' L st B start f cs out,
      ⟨_, none, none, none, none, none, ⟨x, dx, d, []⟩, Vbrgac.start, 1000000, 0, ns.length, cs0, [], rfl, rfl, ⟨hC1.same s2, ⟨Nat.zero_le _, (fun a h => by cases h), .nil, (fun a h => by cases h)⟩, by omega, by omega, (SameT.of_same hT1 s2).tab, fun b o e _ => s2 _ _ (s1 _ _ e), fun b hb => ?_, nDf, upd_same, Nat.zero_le _, calls_are e0, ask0, few0, by show 0 + _ ≤ _; omega, eq0, s1.free hD, hT⟩⟩, ?_⟩
    · rcases mem_foot.mp hb with z | z | z | z
      · rw [z]; exact nx
      · rw [z]; exact hd0
      · cases z
      · cases z
    rintro m σ H' ⟨v4, v5, v6, v7, v8, L, st, B, start, fu, cs, out, rfl, rfl, g⟩
    have hS' : SqL K H' a (ns.map V.int) := seq_kept hS hT g.kp
    refine ⟨_, rfl, _, rfl, a, _, rfl, .inl hS', _, _, rfl, rfl, _, rfl, ite2 (fun hc => ?_) (fun hc => ?_)⟩
    · have hc : start < ns.length := by
        have := of_decide_eq_true hc
        rw [List.length_map] at this
        exact Int.ofNat_lt.mp this
      obtain ⟨p, hp⟩ : ∃ p, ns[start]? = some p := ⟨_, List.getElem?_eq_getElem hc⟩
      have hdrop : ns.drop start = p :: ns.drop (start + 1) := by
        obtain ⟨h1, h2⟩ := List.getElem?_eq_some_iff.mp hp
        rw [List.drop_eq_getElem_cons h1, h2]
      have hrest := g.rest
      rw [hdrop] at hrest
      obtain ⟨bs, row, t, cs', f', nc⟩ := next_call hrest
      have hfit : start + 1 + bs.length ≤ ns.length := by
        have := nc.fits
        rw [List.length_drop] at this
        omega
      have hlenN : ((ns.drop (start + 1)).take bs.length).length = bs.length := by
        rw [List.length_take, List.length_drop]
        omega
      refine ⟨_, fun _ _ h => h, ?_⟩
      refine ⟨_, rfl, _, rfl, a, _, _, _, rfl, rfl, hS', atI_nat (j := start) (v := V.int p) (by rw [List.getElem?_map, hp]; rfl), ?_⟩
      -- end, numbers, costs
      refine ⟨_, rfl, _, _, rfl, rfl, _, rfl, p, bs, rfl, nc.tab, _, _, rfl, rfl, ?_⟩
      refine ⟨_, rfl, _, rfl, _, _, rfl, rfl, _, rfl, _, rfl, _, rfl, a, _, rfl, hS', fun nl hnl => ?_⟩
      have ecut : cutV (ns.map V.int) (some ((fun i j => i + j) (start : Int) 1)) (some ((fun i j => i + j) ((fun i j => i + j) (start : Int) 1) (bs.length : Int))) = ((ns.drop (start + 1)).take bs.length).map V.int := cut_nat (i := start + 1) (n := bs.length) hfit
      generalize hH2 : upd H' nl _ = H2
      have s2' : Same H' H2 := by rw [← hH2]; exact Same.upd hnl
      have hnl2 : H2 nl = some (.lst (((ns.drop (start + 1)).take bs.length).map V.int)) := by
        rw [← hH2, upd_same]
        exact congrArg (fun z => some (HO.lst z)) ecut
      refine ⟨Nat.zero_le _, fun cl hcl => ?_⟩
      have s3' : Same H' (upd H2 cl (.lst [])) := s2'.trans (Same.upd hcl)
      have hS3 : SqL K (upd H2 cl (.lst [])) a (ns.map V.int) := s3'.seq hS'
      have nnl : nl ∉ foot L := fun z => by
        obtain ⟨o, e, _⟩ := foot_obj g.cr z
        rw [hnl] at e; cases e
      have rows : row.length ≤ 100 := by
        have h1 := g.ask
        rw [nc.eq, List.all_cons, Bool.and_eq_true] at h1
        by_cases h12 : p = 12
        · have h1 := h1.1
          have ht := nc.tab
          rw [h12] at ht
          cases ht
          obtain ⟨y, ey⟩ := len1 hlenN
          rw [ey, h12] at h1
          have ec : callOf 12 [y] row = [[12, y], row] := by unfold callOf; rw [if_pos rfl]
          rw [ec] at h1
          have h1 : (VbrgacNeutral.whole60 y && (row.all (fun z => VbrgacNeutral.whole60 z) && decide (row.length ≤ 100))) = true := h1
          exact of_decide_eq_true (Bool.and_eq_true_iff.mp (Bool.and_eq_true_iff.mp h1).2).2
        · rw [(nc.plain h12).1]
          exact Nat.zero_le _
      have hnl3 : (upd H2 cl (.lst [])) nl = some (.lst (((ns.drop (start + 1)).take bs.length).map V.int)) := by rw [upd_ne (ne_of_none hnl2 hcl)]; exact hnl2
      have hb9 : B ≤ 1000000000000 := by have := g.b2; omega
      have an := nc.few g.wf
      have ol := g.len
      refine ⟨_, rfl, p, rfl, _, rfl, ite2 (fun h12 => ?_) (fun h12 => ?_)⟩
      · -- turns: its row
        have h12 : p = 12 := dec_12 (of_decide_eq_true h12)
        obtain ⟨mm, r', e1, e2, e3, e4⟩ := nc.rowed h12
        rw [List.drop_drop] at e1
        have hm : ns[start + 1 + bs.length]? = some (mm : Int) := by
          have := congrArg (fun l => l[0]?) e1
          simp only [List.getElem?_drop, Nat.add_zero, List.getElem?_cons_zero] at this
          exact this
        have hr' : ns.drop (start + 1 + bs.length + 1) = r' := by
          rw [← List.drop_drop, e1]
          rfl
        have hle : start + 1 + bs.length + 1 + mm ≤ ns.length := by
          have := congrArg List.length hr'
          rw [List.length_drop] at this
          have h3 := (List.getElem?_eq_some_iff.mp hm).1
          omega
        refine ⟨_, rfl, _, rfl, a, ns, start + 1 + bs.length, mm, rfl, hS3, hm, hle, fun q hq => ?_⟩
        rw [hr', ← e3]
        have s4 : Same H' (upd (upd H2 cl (.lst [])) q (.lst (row.map V.int))) := s3'.trans (Same.upd hq)
        refine ⟨_, rfl, _, rfl, q, _, rfl, .inl (SqL.of upd_same), _, _, rfl, rfl, _, _, rfl, rfl, ?_⟩
        have hC4 := g.cr.same s4
        have rlen : row.length = mm := by rw [e3, List.length_take]; omega
        refine ⟨_, rfl, _, rfl, _, rfl, _, rfl, L, st, B, p, nl, q, _, row, bs, rfl, hC4, (SameT.of_same g.tab s4).tab, g.wf, g.b1, hb9, (by rw [upd_ne (ne_of_none hnl3 hq)]; exact hnl3), nnl, upd_same, rows, nc.tab, hlenN, fun z => absurd h12 z, fun H5 L5 T hC5 mv5 hTn hTl => ?_⟩
        have nx5 := fun ys zs => AnsInv.next (e := start + 1 + bs.length + 1 + mm) (ys := ys) (zs := zs) g nc hle (by rw [e4, ← hr', List.drop_drop]) s4 hC5 mv5
        have hD5 := (nx5 [] []).1
        have nTD : T ≠ D := fun z => by rw [z, s4 _ _ g.lst] at hTn; cases hTn
        refine ⟨_, rfl, .inl ⟨rfl, _, SqL.of hD5⟩, _, rfl, T, _, rfl, .inl (SqL.of hTl), D, _, _, rfl, rfl, hD5, by rw [List.length_map]; exact small_line (by omega), ?_⟩
        refine ⟨_, rfl, .inl ⟨rfl, _, SqL.of upd_same⟩, _, rfl, D, T, _, _, rfl, rfl, upd_same, by rw [upd_ne nTD]; exact hTl, ?_, ?_⟩
        · rw [List.length_append, List.length_map, List.length_map]
          exact Nat.le_of_lt (small_line (by show out.length + 1 + _ ≤ _; omega))
        · refine ⟨_, rfl, ns.length - (start + 1 + bs.length + 1 + mm), by omega, some (.int p), some (.int ((start + 1 + bs.length + 1 + mm : Nat) : Int)), some (.ref nl), some (.ref q), some (.ref T), L5, _, B + 1000000, start + 1 + bs.length + 1 + mm, f', cs', _, rfl, ?_, (nx5 _ _).2 ?_⟩
          · show ([some (V.ref a), some (V.ref L.c), some (V.ref D), some (V.int (((start : Int) + 1 + (bs.length : Int)) + (1 + ((row.map V.int).length : Int)))), some (V.int p), some (V.int (((start : Int) + 1 + (bs.length : Int)) + (1 + ((row.map V.int).length : Int)))), some (V.ref nl), some (V.ref q), some (V.ref T)] : _root_.L2.St) = _
            have e5 : ((start : Int) + 1 + (bs.length : Int)) + (1 + ((row.map V.int).length : Int)) = ((start + 1 + bs.length + 1 + mm : Nat) : Int) := by
              rw [List.length_map, rlen]
              omega
            rw [e5, mv5.c]
          · rw [List.map_append, List.map_cons, List.length_map, List.append_assoc]
            rfl
      · -- a call without a row
        have h12 : p ≠ 12 := fun z => h12 (decide_eq_true (by rw [z]))
        obtain ⟨hrow, e4⟩ := nc.plain h12
        rw [List.drop_drop] at e4
        have hcl3 : (upd H2 cl (.lst [])) cl = some (.lst (row.map V.int)) := by rw [upd_same, hrow]; rfl
        refine ⟨_, rfl, _, rfl, _, rfl, _, rfl, L, st, B, p, nl, cl, _, row, bs, rfl, g.cr.same s3', (SameT.of_same g.tab s3').tab, g.wf, g.b1, hb9, hnl3, nnl, hcl3, rows, nc.tab, hlenN, fun _ => hrow, fun H5 L5 T hC5 mv5 hTn hTl => ?_⟩
        have nx5 := fun ys zs => AnsInv.next (e := start + 1 + bs.length) (ys := ys) (zs := zs) g nc hfit e4.symm s3' hC5 mv5
        have hD5 := (nx5 [] []).1
        have nTD : T ≠ D := fun z => by rw [z, s3' _ _ g.lst] at hTn; cases hTn
        refine ⟨_, rfl, .inl ⟨rfl, _, SqL.of hD5⟩, _, rfl, T, _, rfl, .inl (SqL.of hTl), D, _, _, rfl, rfl, hD5, by rw [List.length_map]; exact small_line (by omega), ?_⟩
        refine ⟨_, rfl, .inl ⟨rfl, _, SqL.of upd_same⟩, _, rfl, D, T, _, _, rfl, rfl, upd_same, by rw [upd_ne nTD]; exact hTl, ?_, ?_⟩
        · rw [List.length_append, List.length_map, List.length_map]
          exact Nat.le_of_lt (small_line (by show out.length + 1 + _ ≤ _; omega))
        · refine ⟨_, rfl, ns.length - (start + 1 + bs.length), by omega, some (.int p), some (.int ((start + 1 + bs.length : Nat) : Int)), some (.ref nl), some (.ref cl), some (.ref T), L5, _, B + 1000000, start + 1 + bs.length, f', cs', _, rfl, ?_, (nx5 _ _).2 ?_⟩
          · show ([some (V.ref a), some (V.ref L.c), some (V.ref D), some (V.int ((start : Int) + 1 + (bs.length : Int))), some (V.int p), some (V.int ((start : Int) + 1 + (bs.length : Int))), some (V.ref nl), some (V.ref cl), some (V.ref T)] : _root_.L2.St) = _
            have e5 : (start : Int) + 1 + (bs.length : Int) = ((start + 1 + bs.length : Nat) : Int) := by omega
            rw [e5, mv5.c]
          · rw [List.map_append, List.map_cons, List.length_map, List.append_assoc]
            rfl
    · have hc : ¬ start < ns.length := fun z => hc (by
        refine decide_eq_true ?_
        rw [List.length_map]
        exact Int.ofNat_lt.mpr z)
      have hrest := g.rest
      rw [List.drop_eq_nil_of_le (by omega)] at hrest
      have ecs : cs = [] := by
        cases fu with
        | zero => exact (Option.some.inj hrest).symm
        | succ n => exact (Option.some.inj hrest).symm
      have eo : PyVbrgac.answers ns = out := by
        rw [g.eq, ecs]
        exact List.append_nil _
      refine ⟨_, rfl, k H' D ?_⟩
      rw [eo]
      exact g.lst
end
end My
end

section
set_option Elab.async false
set_option linter.all false
set_option maxRecDepth 100000
set_option maxHeartbeats 2000000
/-! The call of a row's def whose text makes lambdas: the table of one code object is tracked from the start. -/
namespace L2
open PySem PySem.Spec PyProof.Rows
open PySem.W (WData Codec OpenSpec Well WellAll ReadsW ReadsAllW)

theorem SqL.up {K : PySem.W.Frag} {H H' : Hp} {a : Addr} {xs : List V} (e : ∀ b o, H b = some o → H' b = some o) (h : SqL K H a xs) : SqL K H' a xs := by
  rcases h with (h | ⟨o, h⟩) | h
  · exact .inl (.inl (e _ _ h))
  · exact .inl (.inr ⟨o, e _ _ h⟩)
  · exact .inr h
theorem SqT.up {K : PySem.W.Frag} {H H' : Hp} {a : Addr} {xs : List V} (e : ∀ b o, H b = some o → H' b = some o) (h : SqT K H a xs) : SqT K H' a xs := by
  rcases h with (h | ⟨o, h⟩) | h
  · exact .inl (.inl (e _ _ h))
  · exact .inl (.inr ⟨o, e _ _ h⟩)
  · exact .inr h
mutual
theorem Dw.up {K : PySem.W.Frag} {H H' : Hp} (e : ∀ b o, H b = some o → H' b = some o) : ∀ (d : WData) (v : V), Dw K H v d → Dw K H' v d
  | .none, _, h => by cases h; exact .non
  | .bool _, _, h => by cases h; exact .bl _
  | .int _, _, h => by cases h; exact .int _
  | .str _, _, h => by cases h; exact .str _
  | .bytes _, _, h => by cases h; exact .byt _
  | .list ds, _, h => by
    cases h with
    | lst h1 h2 => exact .lst (h1.up e) (Dw.upAll e ds _ h2)
  | .tuple ds, _, h => by
    cases h with
    | tup h1 h2 => exact .tup (h1.up e) (Dw.upAll e ds _ h2)
  | .float _, _, h => by cases h
  | .dict _, _, h => by cases h
  | .bytearray _, _, h => by cases h
  | .set _, _, h => by cases h
  | .frozenset _, _, h => by cases h
  | .obj _ _, _, h => by cases h
theorem Dw.upAll {K : PySem.W.Frag} {H H' : Hp} (e : ∀ b o, H b = some o → H' b = some o) : ∀ (ds : List WData) (vs : List V), DwAll K H vs ds → DwAll K H' vs ds
  | [], _, h => by cases h; exact .nil
  | d :: ds, _, h => by
    cases h with
    | cons h1 h2 => exact .cons (Dw.up e d _ h1) (Dw.upAll e ds _ h2)
end
theorem spec_callT {P : Program} {w : World} {K : PySem.W.Frag} {mg mb : Str → Option Value} {CX : CXT} {k : Nat} {fa Pt : Addr} {fd : FuncData} {ps : List Str} {sp : Sp} {s₁ : Shared} {vals : List Value} {ds : List WData} {R : PySem.W.WRecords} {cl : Str → Option Addr} {d0 : WData}
    (KX : K.In s₁.heap) (hns : s₁.heap.Ns mainGlobals mg) (hb : s₁.heap.Ns builtinsNs mb) (hbb : ∀ x : Str, x ≠ "__name__" → mb x = bootBuiltins x) (hlim : s₁.heap.NoLimit) (hg : s₁.gens = #[])
    (hwl : WellAll w.params s₁.heap vals ds) (hpl : plWs ds = true) (hwt : ∀ d ∈ ds, d.weight ≤ 1048576) (hr : Room k callerA)
    (hPt : s₁.heap.get? Pt = some (PySem.W.tabObj #[])) (hcode : isCodeTable s₁.heap Pt) (hKP : K.lookup Pt = none) (hbm : BmIn mg s₁.heap)
    (F : ∀ base : Heap, K.In base → base.Ns mainGlobals mg → BmIn mg base → FnOk P w K mg base CX k fa fd ps sp) (hbind : ∀ (s : Shared) (us : List Value), us.length = ps.length → BindsTo s fd ⟨us, []⟩ (ps.zip us)) (hlen : ds.length = ps.length)
    (hsp : ∀ (H : Hp) (xs : List V), H Pt = some (.tbl #[]) → DwAll K H xs ds → sp xs H (fun v H' => Dw K H' v d0) fun _ _ _ => False)
    (hCX : ∀ H e s', CX [] H s₁ (fun _ _ _ => False) e s' → False) :
    codeAny (model P w) callerA (.call (.ref fa) ⟨vals, []⟩) (fun r s' => ∃ u as, r = .ok (.ret u) ∧ ReadsW R cl s'.heap u d0 as ∧ OldK s₁.heap s'.heap ∧ s'.os = s₁.os ∧ AllBare s'.gens) s₁ := by
  obtain ⟨A, ho, ar⟩ := area_all ds vals hwl hpl hwt
  have hO0 : OnlyF (argH K s₁.heap A) := argH_only ar
  have hok0 : HOk P w (argH K s₁.heap A) s₁.heap := argH_ok ar
  have hS0 := dw_all KX ar ds vals hwl hpl ho
  have hV := vals_toV ho
  have nP : argH K s₁.heap A Pt = none := by
    cases q : argH K s₁.heap A Pt with
    | none => rfl
    | some u =>
      obtain ⟨_, vs, _, _, ⟨e2, _⟩ | ⟨e2, _⟩⟩ := argH_is ar q
      · rw [e2] at hPt; cases hPt
      · rw [e2] at hPt; cases hPt
  have up : ∀ b o, argH K s₁.heap A b = some o → (upd (argH K s₁.heap A) Pt (.tbl #[])) b = some o := fun b o e => by rw [upd_ne (ne_of_none e nP)]; exact e
  have hO : ∀ b, (upd (argH K s₁.heap A) Pt (.tbl #[])) b = none ∨ (∃ o u, (upd (argH K s₁.heap A) Pt (.tbl #[])) b = some (.frz o u)) ∨ b = Pt := fun b => by
    by_cases z : b = Pt
    · exact .inr (.inr z)
    · rw [upd_ne z]
      rcases hO0 b with q | q
      · exact .inl q
      · exact .inr (.inl q)
  have hok : HOk P w (upd (argH K s₁.heap A) Pt (.tbl #[])) s₁.heap := fun b u q => by
    by_cases z : b = Pt
    · subst z
      rw [upd_same] at q
      cases q
      exact hPt
    · rw [upd_ne z] at q
      exact (hok0 b u q).stay (fun _ _ _ e => e) (fun _ e => up _ _ e) fun _ _ e => up _ _ e
  have hS : DwAll K (upd (argH K s₁.heap A) Pt (.tbl #[])) (vals.map toV) ds := Dw.upAll up ds _ hS0
  have hK : ∀ b u, (upd (argH K s₁.heap A) Pt (.tbl #[])) b = some u → K.lookup b = none := fun b u q => by
    by_cases z : b = Pt
    · rw [z]; exact hKP
    · rw [upd_ne z] at q; exact (argH_is ar q).1
  have noA : ∀ {b : Addr} {o : Obj} {es : Array DictEntry} {ep : Nat}, s₁.heap.get? b = some o → o.data = .dict es ep → (upd (argH K s₁.heap A) Pt (.tbl #[])) b = none := fun {b o es ep} e d => by
    have z : b ≠ Pt := fun z => by
      rw [z, hPt] at e
      cases e
      have d' : Data.fields #[] = Data.dict es ep := d
      cases d'
    rw [upd_ne z]
    cases q : argH K s₁.heap A b with
    | none => rfl
    | some u =>
      obtain ⟨_, vs, _, _, ⟨e2, _⟩ | ⟨e2, _⟩⟩ := argH_is ar q
      · rw [e2] at e
        cases e
        have d' : Data.seq vs.toArray _ = Data.dict es ep := d
        cases d'
      · rw [e2] at e
        cases e
        have d' : Data.seq vs.toArray _ = Data.dict es ep := d
        cases d'
  have noM : ∀ {b : Addr} {o : Obj}, s₁.heap.get? b = some o → o.data = .plain → (upd (argH K s₁.heap A) Pt (.tbl #[])) b = none := fun {b o} e d => by
    have z : b ≠ Pt := fun z => by
      rw [z, hPt] at e
      cases e
      have d' : Data.fields #[] = Data.plain := d
      cases d'
    rw [upd_ne z]
    cases q : argH K s₁.heap A b with
    | none => rfl
    | some u =>
      obtain ⟨_, vs, _, _, ⟨e2, _⟩ | ⟨e2, _⟩⟩ := argH_is ar q
      · rw [e2] at e
        cases e
        have d' : Data.seq vs.toArray _ = Data.plain := d
        cases d'
      · rw [e2] at e
        cases e
        have d' : Data.seq vs.toArray _ = Data.plain := d
        cases d'
  have tb : (upd (argH K s₁.heap A) Pt (.tbl #[])) Pt = some (.tbl #[]) := upd_same
  generalize upd (argH K s₁.heap A) Pt (.tbl #[]) = H at hO hok hS hK noA noM tb
  have base_of : ∀ {b : Addr} {o : Obj}, s₁.heap.get? b = some o → H b = none → (hidT s₁.heap H).get? b = some o := fun e n => hidT_get e n
  have nsK : ∀ {b : Addr} {m : Str → Option Value}, s₁.heap.Ns b m → (hidT s₁.heap H).Ns b m := fun {b m} ⟨o, es, ep, e, d, r⟩ => ⟨o, es, ep, base_of e (noA e d), d, r⟩
  have nK : ∀ b o, K.lookup b = some o → H b = none := fun b o e => by
    cases q : H b with
    | none => rfl
    | some u =>
      rw [hK b u q] at e
      cases e
  have hKb : K.In (hidT s₁.heap H) := fun b o e => base_of (KX b o e) (nK b o e)
  have hM : Mod K mg (hidT s₁.heap H) := ⟨hKb, nsK hns, ⟨mb, nsK hb, hbb⟩, let ⟨mc, h1, h2⟩ := hlim; ⟨mc, nsK h1, h2⟩⟩
  have e0 : Env0 P w K mg (hidT s₁.heap H) callerA [] s₁ H := ⟨rfl, hM, fun b o e => of_hidT e, Nat.le_of_eq (hidT_size _ _), trivial, fun b hb => absurd (show b ∈ ([] : List Addr) from hb) (by simp), hok, .of_eq hg⟩
  have hl : vals.length = ps.length := by rw [wellAll_len hwl]; exact hlen
  have hbm' : BmIn mg (hidT s₁.heap H) := by
    obtain ⟨bm, ob, b1, b2, b3, b4, b5, b6⟩ := hbm
    exact ⟨bm, ob, b1, b2, base_of b3 (noM b3 b6), b4, b5, b6⟩
  refine codeAny_mono ((F _ hKb (nsK hns) hbm').run callerA [] s₁ H ⟨vals, []⟩ vals (vals.map toV) _ _ hr e0 (hbind s₁ vals hl) hV (hsp H _ tb hS)) fun r s' x => ?_
  cases r with
  | error e => exact (hCX H e s' x).elim
  | ok fl =>
    cases fl with
    | next => exact False.elim x
    | brk => exact False.elim x
    | cont => exact False.elim x
    | ret u =>
      obtain ⟨v, H', os, bare, un, hok', r', q⟩ := x
      have free : ∀ b o, s₁.heap.get? b = some o → H b = none → s'.heap.get? b = some o := fun b o e q2 => un.keep b o e q2 (by intro z; exact absurd (show b ∈ ([] : List Addr) from z) (by simp)) (by simp)
      obtain ⟨more, hmore⟩ := un.tbls Pt #[] tb
      have hnew : s'.heap.get? Pt = some { cls := .none, data := .fields (#[] ++ more) } := hok' Pt _ hmore
      have kept : ∀ b o, s₁.heap.get? b = some o → b ≠ Pt → s'.heap.get? b = some o := fun b o e nb => by
        rcases hO b with z | ⟨ob, u3, z⟩ | z
        · exact free b o e z
        · have z2 := un.frzs b ob _ z
          obtain ⟨e1, _⟩ := hok b _ z
          obtain ⟨e2, _⟩ := hok' b _ z2
          rw [e] at e1
          cases e1
          exact e2
        · exact absurd z nb
      have KX' : K.In s'.heap := fun b o e => free b o (KX b o e) (nK b o e)
      obtain ⟨as, hrd⟩ := Dw.reads (R := R) (cl := cl) hok' KX' d0 v u q r'
      refine ⟨u, as, rfl, hrd, ⟨fun b o e => ?_, fun b o e => ?_⟩, os, bare⟩
      · by_cases z : b = Pt
        · subst z
          rw [hPt] at e
          cases e
          exact .inr (.inl ⟨hcode, rfl, #[], more, rfl, hnew⟩)
        · exact .inl (kept b o e z)
      · by_cases z : b = Pt
        · exact ⟨_, z ▸ hnew⟩
        · exact ⟨o, kept b o e z⟩
theorem walk_specT {r : OpenSpec} {k : Nat} {q : Program} {loose : List Str} {XP : (Str → Option Value) → Heap → Prop} {YP : World → Heap → Prop} {d : DefRec} {K : Params → PySem.W.Frag} {ps : List Str} {Pt : Addr} {sp : PySem.W.Frag → Sp}
    (hwell : r.wellSaid = true) (hlen : r.args.length = ps.length) (hr : Room k callerA)
    (hY : ∀ (w : World) (h : Heap), YP w h → (K w.params).In h ∧ h.get? Pt = some (PySem.W.tabObj #[]))
    (F : ∀ (w : World) (mg : Str → Option Value) (fa : Addr) (h : Heap), (K w.params).In h → h.Ns mainGlobals mg → mg d.name = some (.ref fa) →
      ∃ fd : FuncData, (∀ (s : Shared) (us : List Value), us.length = ps.length → BindsTo s fd ⟨us, []⟩ (ps.zip us)) ∧ (K w.params).lookup Pt = none ∧ isCodeTable h Pt ∧
        ∀ base : Heap, (K w.params).In base → base.Ns mainGlobals mg → BmIn mg base → FnOk r.prog w (K w.params) mg base CX0 k fa fd ps (sp (K w.params)))
    (hsp : ∀ (K : PySem.W.Frag) (H : Hp) (xs : List V) (a : Codec.denoteAll r.args), H Pt = some (.tbl #[]) → Codec.withinAll r.args a = true → Codec.app r.args r.asked a = true → DwAll K H xs (Codec.encAll r.args a) →
      sp K xs H (fun v H' => Dw K H' v (r.ret.enc (Codec.app r.args r.f a))) fun _ _ _ => False) :
    PySem.W.WalkOS q loose XP YP r d [] (fun f vs => PySem.call f vs) := by
  intro w s_0 s₁ mg mb G Y fa o pm cd doc dV kV ho hd hcd hD hmg hg args vals as hpre hlay hrd hwl hlo
  obtain ⟨a, e1, e2⟩ := PySem.W.os_pre_some hpre
  obtain ⟨e3, hwi⟩ := Codec.encAll_of_decAll r.args args a e1
  subst e3
  obtain ⟨KX, hPt⟩ := hY w _ Y
  obtain ⟨fd, hb, hKP, hct, hF⟩ := F w mg fa _ KX G.T.g hmg
  refine PySem.W.enter_call (codeAny_mono (spec_callT (R := []) (cl := classAt s_0.heap) (d0 := r.ret.enc (Codec.app r.args r.f a)) KX G.T.g G.T.b G.T.builtins G.T.nolimit hg hwl (pl_encAll _ _) (layable_weight hlay) hr hPt hct hKP G.T.bmain hF hb (by rw [encAll_len]; exact hlen)
    (fun H xs hO hS => hsp (K w.params) H xs a hO hwi e2 hS) fun H e s' z => z) fun r' s' hq => ?_)
  obtain ⟨u, as', rfl, h1, h2, h3, h4⟩ := hq
  exact ⟨.inl ⟨u, _, as', rfl, fun _ => rfl, h1, (OpenSpec.post_iff hwell hwi _ _).mpr rfl, fun z => Bool.noConfusion (show false = true from z)⟩, h2, h3, h4⟩
end L2
end

section
set_option Elab.async false
set_option linter.all false
set_option maxRecDepth 100000
set_option maxHeartbeats 4100000
namespace My
open PySem PySem.Spec PyProof.Rows L2

/-- a def of the text -/
structure IsDef (K : PySem.W.Frag) (x qual : Str) (st : Stmt) (f : Addr) : Prop where
  ex : ∃ (oc : Value) (od : Option Addr) (kV doc pm : Value) (an : Option Addr) (cdv ct : Value) (osl : Array (Option Value)),
    K.lookup f = some ⟨oc, od, .func (PySem.W.fnOf x qual (defArgs st) (defBody st) (defScope st) .none kV doc pm an cdv ct), osl⟩ ∧ PySem.W.codeIn K cdv qual = true
  fn : PySem.W.isFn K (.ref f) = true
  kp : PySem.W.keepIn K (.ref f) = true
theorem isDef_mk {K : PySem.W.Frag} {x qual : Str} {st : Stmt} {f : Addr} {oc kV doc pm cdv ct : Value} {od an : Option Addr} {osl : Array (Option Value)}
    (l : K.lookup f = some ⟨oc, od, .func (PySem.W.fnOf x qual (defArgs st) (defBody st) (defScope st) .none kV doc pm an cdv ct), osl⟩) (c : PySem.W.codeIn K cdv qual = true) (i : PySem.W.isFn K (.ref f) = true) (k : PySem.W.keepIn K (.ref f) = true) : IsDef K x qual st f :=
  ⟨⟨oc, od, kV, doc, pm, an, cdv, ct, osl, l, c⟩, i, k⟩
theorem IsDef.fun {K : PySem.W.Frag} {x qual : Str} {st : Stmt} {f : Addr} (h : IsDef K x qual st f) : ∃ fd, Fun K x qual st f fd :=
  let ⟨oc, od, kV, doc, pm, an, cdv, ct, osl, l, c⟩ := h.ex; ⟨_, ⟨oc, od, kV, doc, pm, an, cdv, ct, osl, rfl, l, c⟩, h.kp⟩
/-- a tuple of the module -/
def KTup (K : PySem.W.Frag) (r : Addr) (xs : List V) : Prop := ∃ (od : Option Addr) (its : Array Value) (n : Nat) (sl : Array (Option Value)), K.lookup r = some ⟨.type "tuple", od, .seq its n, sl⟩ ∧ its.size ≤ sizeLine ∧ Vals xs its.toList
theorem ktup_mk {K : PySem.W.Frag} {r : Addr} {xs : List V} {od : Option Addr} {its : Array Value} {n : Nat} {sl : Array (Option Value)} (l : K.lookup r = some ⟨.type "tuple", od, .seq its n, sl⟩) (s : its.size ≤ sizeLine) (v : Vals xs its.toList) : KTup K r xs := ⟨od, its, n, sl, l, s, v⟩
theorem KTup.sq {K : PySem.W.Frag} {r : Addr} {xs : List V} (h : KTup K r xs) (H : Hp) : SqT K H r xs := let ⟨_, _, _, _, l, s, v⟩ := h; SqT.k l rfl s v
theorem lookup_out {p : Int} : ∀ {l : List (Int × V)}, (∀ x ∈ l, p ≠ x.1) → l.lookup p = none
  | [], _ => rfl
  | (q, v) :: r, h => by
    have h1 : p ≠ q := h (q, v) List.mem_cons_self
    rw [List.lookup_cons, beq_eq_false_iff_ne.mpr h1]
    exact lookup_out fun x hx => h x (List.mem_cons_of_mem _ hx)

theorem all_mk {P : Program} {w : World} {K : PySem.W.Frag} {h : Heap} {mg : Str → Option Value} {fa CA CC Pt cO f_or dR dL dO cK f_iA f_tA f_sp f_rd f_st f_un f_ga f_pay f_ac f_iC f_tC f_we f_di f_tu f_ss f_go f_pt f_pu f_tt f_co f_ti f_nx f_lv f_aR f_ef f_ds f_cs f_pr f_qu f_tm f_de f_wh f_bo f_fo f_cn f_hr f_iw f_aw f_ak f_an f_rr f_as r0 r1 r2 r3 r4 r5 r6 r7 r8 r9 r10 r11 r12 r13 r14 p0_0 p0_1 p1_0 p2_0 p4_0 p4_1 p5_0 p5_1 p5_2 p6_0 p7_0 p7_1 p8_0 p8_1 p10_0 p11_0 p12_0 p13_0 : Addr} {ocO kVO docO pmO ctO : Value} {odO anO : Option Addr} {slO : Array (Option Value)} {esR esL esO : Array DictEntry} {nR nL nO : Nat} {t_fast t_range t_nobody t_full t_someR t_notT t_count t_mostA t_mostE t_turns : Tok}
    (X : K.In h) (G : h.Ns mainGlobals mg) (hfa : mg "answers" = some (.ref fa))
    (aA : PySem.W.nsIn K mainGlobals "Actor" = some (some (.ref CA)))
    (aC : PySem.W.nsIn K mainGlobals "Crowd" = some (some (.ref CC)))
    (pgA : PySem.W.plainGet K CA Str.empty = true)
    (hdA : PySem.W.hasDictIn K CA = true)
    (poA : PySem.W.plainOver K CA = true)
    (saA : PySem.W.findIn K (.ref CA) "__setattr__" = some (some (.builtin "object.__setattr__")))
    (mkA : PySem.W.makesIn K CA = true)
    (kcA : PySem.W.keepIn K (.ref CA) = true)
    (nA_number : PySem.W.findIn K (.ref CA) "number" = some none)
    (nA_base : PySem.W.findIn K (.ref CA) "base" = some none)
    (nA_energy : PySem.W.findIn K (.ref CA) "energy" = some none)
    (nA_effects : PySem.W.findIn K (.ref CA) "effects" = some none)
    (nA_acted : PySem.W.findIn K (.ref CA) "acted" = some none)
    (nA_gained : PySem.W.findIn K (.ref CA) "gained" = some none)
    (nA_spent : PySem.W.findIn K (.ref CA) "spent" = some none)
    (pgC : PySem.W.plainGet K CC Str.empty = true)
    (hdC : PySem.W.hasDictIn K CC = true)
    (poC : PySem.W.plainOver K CC = true)
    (saC : PySem.W.findIn K (.ref CC) "__setattr__" = some (some (.builtin "object.__setattr__")))
    (mkC : PySem.W.makesIn K CC = true)
    (kcC : PySem.W.keepIn K (.ref CC) = true)
    (nC_ticks : PySem.W.findIn K (.ref CC) "ticks" = some none)
    (nC_came : PySem.W.findIn K (.ref CC) "came" = some none)
    (nC_actors : PySem.W.findIn K (.ref CC) "actors" = some none)
    (a_iA : PySem.W.findIn K (.ref CA) "__init__" = some (some (.ref f_iA)))
    (d_iA : IsDef K "__init__" "Actor.__init__" d_Actor_init f_iA)
    (a_tA : PySem.W.findIn K (.ref CA) "twin" = some (some (.ref f_tA)))
    (d_tA : IsDef K "twin" "Actor.twin" d_Actor_twin f_tA)
    (a_sp : PySem.W.findIn K (.ref CA) "speed" = some (some (.ref f_sp)))
    (d_sp : IsDef K "speed" "Actor.speed" d_Actor_speed f_sp)
    (a_rd : PySem.W.findIn K (.ref CA) "is_ready" = some (some (.ref f_rd)))
    (d_rd : IsDef K "is_ready" "Actor.is_ready" d_Actor_is_ready f_rd)
    (a_st : PySem.W.findIn K (.ref CA) "steady_ticks" = some (some (.ref f_st)))
    (d_st : IsDef K "steady_ticks" "Actor.steady_ticks" d_Actor_steady_ticks f_st)
    (a_un : PySem.W.findIn K (.ref CA) "ticks_until_ready" = some (some (.ref f_un)))
    (d_un : IsDef K "ticks_until_ready" "Actor.ticks_until_ready" d_Actor_ticks_until_ready f_un)
    (a_ga : PySem.W.findIn K (.ref CA) "gain" = some (some (.ref f_ga)))
    (d_ga : IsDef K "gain" "Actor.gain" d_Actor_gain f_ga)
    (a_pay : PySem.W.findIn K (.ref CA) "spend" = some (some (.ref f_pay)))
    (d_pay : IsDef K "spend" "Actor.spend" d_Actor_spend f_pay)
    (a_ac : PySem.W.findIn K (.ref CA) "act" = some (some (.ref f_ac)))
    (d_ac : IsDef K "act" "Actor.act" d_Actor_act f_ac)
    (a_iC : PySem.W.findIn K (.ref CC) "__init__" = some (some (.ref f_iC)))
    (d_iC : IsDef K "__init__" "Crowd.__init__" d_Crowd_init f_iC)
    (a_tC : PySem.W.findIn K (.ref CC) "twin" = some (some (.ref f_tC)))
    (d_tC : IsDef K "twin" "Crowd.twin" d_Crowd_twin f_tC)
    (a_we : PySem.W.findIn K (.ref CC) "welcome" = some (some (.ref f_we)))
    (d_we : IsDef K "welcome" "Crowd.welcome" d_Crowd_welcome f_we)
    (a_di : PySem.W.findIn K (.ref CC) "dismiss" = some (some (.ref f_di)))
    (d_di : IsDef K "dismiss" "Crowd.dismiss" d_Crowd_dismiss f_di)
    (a_tu : PySem.W.findIn K (.ref CC) "turn" = some (some (.ref f_tu)))
    (d_tu : IsDef K "turn" "Crowd.turn" d_Crowd_turn f_tu)
    (a_ss : PySem.W.findIn K (.ref CC) "steady_spans" = some (some (.ref f_ss)))
    (d_ss : IsDef K "steady_spans" "Crowd.steady_spans" d_Crowd_steady_spans f_ss)
    (a_go : PySem.W.findIn K (.ref CC) "go_by" = some (some (.ref f_go)))
    (d_go : IsDef K "go_by" "Crowd.go_by" d_Crowd_go_by f_go)
    (a_pt : PySem.W.findIn K (.ref CC) "pass_ticks" = some (some (.ref f_pt)))
    (d_pt : IsDef K "pass_ticks" "Crowd.pass_ticks" d_Crowd_pass_ticks f_pt)
    (a_pu : PySem.W.findIn K (.ref CC) "pass_until_ready" = some (some (.ref f_pu)))
    (d_pu : IsDef K "pass_until_ready" "Crowd.pass_until_ready" d_Crowd_pass_until_ready f_pu)
    (a_tt : PySem.W.findIn K (.ref CC) "turns_to_come" = some (some (.ref f_tt)))
    (d_tt : IsDef K "turns_to_come" "Crowd.turns_to_come" d_Crowd_turns_to_come f_tt)
    (a_co : PySem.W.nsIn K mainGlobals "come" = some (some (.ref f_co)))
    (d_co : IsDef K "come" "come" d_come f_co)
    (a_ti : PySem.W.nsIn K mainGlobals "tick" = some (some (.ref f_ti)))
    (d_ti : IsDef K "tick" "tick" d_tick f_ti)
    (a_nx : PySem.W.nsIn K mainGlobals "next_turn" = some (some (.ref f_nx)))
    (d_nx : IsDef K "next_turn" "next_turn" d_next_turn f_nx)
    (a_lv : PySem.W.nsIn K mainGlobals "leave" = some (some (.ref f_lv)))
    (d_lv : IsDef K "leave" "leave" d_leave f_lv)
    (a_aR : PySem.W.nsIn K mainGlobals "act" = some (some (.ref f_aR)))
    (d_aR : IsDef K "act" "act" d_act f_aR)
    (a_ef : PySem.W.nsIn K mainGlobals "effect" = some (some (.ref f_ef)))
    (d_ef : IsDef K "effect" "effect" d_effect f_ef)
    (a_ds : PySem.W.nsIn K mainGlobals "dispel" = some (some (.ref f_ds)))
    (d_ds : IsDef K "dispel" "dispel" d_dispel f_ds)
    (a_cs : PySem.W.nsIn K mainGlobals "change_speed" = some (some (.ref f_cs)))
    (d_cs : IsDef K "change_speed" "change_speed" d_change_speed f_cs)
    (a_pr : PySem.W.nsIn K mainGlobals "push" = some (some (.ref f_pr)))
    (d_pr : IsDef K "push" "push" d_push f_pr)
    (a_qu : PySem.W.nsIn K mainGlobals "queue" = some (some (.ref f_qu)))
    (d_qu : IsDef K "queue" "queue" d_queue f_qu)
    (a_tm : PySem.W.nsIn K mainGlobals "tell_time" = some (some (.ref f_tm)))
    (d_tm : IsDef K "tell_time" "tell_time" d_tell_time f_tm)
    (a_de : PySem.W.nsIn K mainGlobals "describe" = some (some (.ref f_de)))
    (d_de : IsDef K "describe" "describe" d_describe f_de)
    (a_wh : PySem.W.nsIn K mainGlobals "when_ready" = some (some (.ref f_wh)))
    (d_wh : IsDef K "when_ready" "when_ready" d_when_ready f_wh)
    (a_bo : PySem.W.nsIn K mainGlobals "tell_book" = some (some (.ref f_bo)))
    (d_bo : IsDef K "tell_book" "tell_book" d_tell_book f_bo)
    (a_fo : PySem.W.nsIn K mainGlobals "foretell" = some (some (.ref f_fo)))
    (d_fo : IsDef K "foretell" "foretell" d_foretell f_fo)
    (a_cn : PySem.W.nsIn K mainGlobals "count_numbers" = some (some (.ref f_cn)))
    (d_cn : IsDef K "count_numbers" "count_numbers" d_count_numbers f_cn)
    (a_hr : PySem.W.nsIn K mainGlobals "has_row" = some (some (.ref f_hr)))
    (d_hr : IsDef K "has_row" "has_row" d_has_row f_hr)
    (a_iw : PySem.W.nsIn K mainGlobals "is_within" = some (some (.ref f_iw)))
    (d_iw : IsDef K "is_within" "is_within" d_is_within f_iw)
    (a_aw : PySem.W.nsIn K mainGlobals "are_within" = some (some (.ref f_aw)))
    (d_aw : IsDef K "are_within" "are_within" d_are_within f_aw)
    (a_ak : PySem.W.nsIn K mainGlobals "are_costs" = some (some (.ref f_ak)))
    (d_ak : IsDef K "are_costs" "are_costs" d_are_costs f_ak)
    (a_an : PySem.W.nsIn K mainGlobals "answer" = some (some (.ref f_an)))
    (d_an : IsDef K "answer" "answer" d_answer f_an)
    (a_rr : PySem.W.nsIn K mainGlobals "read_row" = some (some (.ref f_rr)))
    (d_rr : IsDef K "read_row" "read_row" d_read_row f_rr)
    (a_as : PySem.W.nsIn K mainGlobals "answers" = some (some (.ref f_as)))
    (d_as : IsDef K "answers" "answers" d_answers f_as)
    (a_or : PySem.W.findIn K (.ref CC) "ready_in_order" = some (some (.ref f_or)))
    (i_or : PySem.W.isFn K (.ref f_or) = true)
    (l_or : K.lookup f_or = some ⟨ocO, odO, .func (PySem.W.fnOf "ready_in_order" "Crowd.ready_in_order" (defArgs d_Crowd_ready_in_order) (defBody d_Crowd_ready_in_order) (defScope d_Crowd_ready_in_order) .none kVO docO pmO anO (.ref cO) ctO), slO⟩)
    (c_or : PySem.W.codeIn K (.ref cO) "Crowd.ready_in_order" = true)
    (k_or : PySem.W.keepIn K (.ref f_or) = true)
    (h_or : PySem.W.codeHdIn K cO Pt = true)
    (nP : K.lookup Pt = none)
    (b_sum : PySem.W.nsIn K mainGlobals "sum" = some none)
    (b_max : PySem.W.nsIn K mainGlobals "max" = some none)
    (b_min : PySem.W.nsIn K mainGlobals "min" = some none)
    (b_len : PySem.W.nsIn K mainGlobals "len" = some none)
    (b_sorted : PySem.W.nsIn K mainGlobals "sorted" = some none)
    (b_zip : PySem.W.nsIn K mainGlobals "zip" = some none)
    (b_list : PySem.W.nsIn K mainGlobals "list" = some none)
    (b_dict : PySem.W.nsIn K mainGlobals "dict" = some none)
    (b_all : PySem.W.nsIn K mainGlobals "all" = some none)
    (g_fast : PySem.W.nsIn K mainGlobals "GREATEST_SPEED" = some (some (.int 5000 t_fast)))
    (g_range : PySem.W.nsIn K mainGlobals "OUT_OF_RANGE" = some (some (.int (-1) t_range)))
    (g_nobody : PySem.W.nsIn K mainGlobals "NOBODY" = some (some (.int (-3) t_nobody)))
    (g_full : PySem.W.nsIn K mainGlobals "FULL" = some (some (.int (-4) t_full)))
    (g_someR : PySem.W.nsIn K mainGlobals "SOMEBODY_READY" = some (some (.int (-5) t_someR)))
    (g_notT : PySem.W.nsIn K mainGlobals "NOT_ITS_TURN" = some (some (.int (-6) t_notT)))
    (g_count : PySem.W.nsIn K mainGlobals "WRONG_COUNT" = some (some (.int (-7) t_count)))
    (g_mostA : PySem.W.nsIn K mainGlobals "MOST_ACTORS" = some (some (.int 16 t_mostA)))
    (g_mostE : PySem.W.nsIn K mainGlobals "MOST_EFFECTS" = some (some (.int 8 t_mostE)))
    (g_turns : PySem.W.nsIn K mainGlobals "TURNS" = some (some (.int 12 t_turns)))
    (mR : PySem.W.nsIn K mainGlobals "RANGES" = some (some (.ref dR)))
    (lR : K.lookup dR = some ⟨.type "dict", none, .dict esR nR, #[]⟩)
    (eR : Ents esR.toList [(0, .ref r0), (1, .ref r1), (2, .ref r2), (3, .ref r3), (4, .ref r4), (5, .ref r5), (6, .ref r6), (7, .ref r7), (8, .ref r8), (9, .ref r9), (10, .ref r10), (11, .ref r11), (12, .ref r12), (13, .ref r13), (14, .ref r14)])
    (oR : (dR == sysModules) = false)
    (mL : PySem.W.nsIn K mainGlobals "CALLS_TO_ALL" = some (some (.ref dL)))
    (lL : K.lookup dL = some ⟨.type "dict", none, .dict esL nL, #[]⟩)
    (eL : Ents esL.toList [(0, .ref f_co), (2, .ref f_ti), (3, .ref f_nx), (9, .ref f_qu), (14, .ref f_tm)])
    (oL : (dL == sysModules) = false)
    (mO : PySem.W.nsIn K mainGlobals "CALLS_TO_ONE" = some (some (.ref dO)))
    (lO : K.lookup dO = some ⟨.type "dict", none, .dict esO nO, #[]⟩)
    (eO : Ents esO.toList [(1, .ref f_lv), (4, .ref f_aR), (5, .ref f_ef), (6, .ref f_ds), (7, .ref f_cs), (8, .ref f_pr), (10, .ref f_de), (11, .ref f_wh), (13, .ref f_bo)])
    (oO : (dO == sysModules) = false)
    (t0 : KTup K r0 [.ref p0_0, .ref p0_1])
    (u0_0 : KTup K p0_0 [.int 1, .int 1000])
    (u0_1 : KTup K p0_1 [.int (-1000000), .int (-1)])
    (t1 : KTup K r1 [.ref p1_0])
    (u1_0 : KTup K p1_0 [.int 1, .int 400])
    (t2 : KTup K r2 [.ref p2_0])
    (u2_0 : KTup K p2_0 [.int 1, .int 1000000])
    (t3 : KTup K r3 [])
    (t4 : KTup K r4 [.ref p4_0, .ref p4_1])
    (u4_0 : KTup K p4_0 [.int 1, .int 400])
    (u4_1 : KTup K p4_1 [.int 1, .int 1000000])
    (t5 : KTup K r5 [.ref p5_0, .ref p5_1, .ref p5_2])
    (u5_0 : KTup K p5_0 [.int 1, .int 400])
    (u5_1 : KTup K p5_1 [.int (-5000), .int 5000])
    (u5_2 : KTup K p5_2 [.int 1, .int 1000000])
    (t6 : KTup K r6 [.ref p6_0])
    (u6_0 : KTup K p6_0 [.int 1, .int 400])
    (t7 : KTup K r7 [.ref p7_0, .ref p7_1])
    (u7_0 : KTup K p7_0 [.int 1, .int 400])
    (u7_1 : KTup K p7_1 [.int 1, .int 1000])
    (t8 : KTup K r8 [.ref p8_0, .ref p8_1])
    (u8_0 : KTup K p8_0 [.int 1, .int 400])
    (u8_1 : KTup K p8_1 [.int 1, .int 1000000])
    (t9 : KTup K r9 [])
    (t10 : KTup K r10 [.ref p10_0])
    (u10_0 : KTup K p10_0 [.int 1, .int 400])
    (t11 : KTup K r11 [.ref p11_0])
    (u11_0 : KTup K p11_0 [.int 1, .int 400])
    (t12 : KTup K r12 [.ref p12_0])
    (u12_0 : KTup K p12_0 [.int 1, .int 100])
    (t13 : KTup K r13 [.ref p13_0])
    (u13_0 : KTup K p13_0 [.int 1, .int 400])
    (t14 : KTup K r14 [])
    (mK : PySem.W.nsIn K mainGlobals "COST_RANGE" = some (some (.ref cK)))
    (tK : KTup K cK [.int 1, .int 1000000])
    : ∃ fd : FuncData, (∀ (s : Shared) (us : List Value), us.length = (["calls"] : List Str).length → BindsTo s fd ⟨us, []⟩ ((["calls"] : List Str).zip us)) ∧ K.lookup Pt = none ∧ isCodeTable h Pt ∧
      ∀ base : Heap, K.In base → base.Ns mainGlobals mg → BmIn mg base → FnOk P w K mg base CX0 11 fa fd ["calls"] (spAnswers Pt K) := by
  have e := hfa.symm.trans (PySem.W.mg_of X G a_as)
  cases e
  have NA : ∀ f ∈ (["number", "base", "energy", "effects", "acted", "gained", "spent"] : List Str), NoAttr K CA f := by
    intro f hf
    simp only [List.mem_cons, List.not_mem_nil, or_false] at hf
    rcases hf with rfl | rfl | rfl | rfl | rfl | rfl | rfl
    · exact nA_number
    · exact nA_base
    · exact nA_energy
    · exact nA_effects
    · exact nA_acted
    · exact nA_gained
    · exact nA_spent
  have NC : ∀ f ∈ (["ticks", "came", "actors"] : List Str), NoAttr K CC f := by
    intro f hf
    simp only [List.mem_cons, List.not_mem_nil, or_false] at hf
    rcases hf with rfl | rfl | rfl
    · exact nC_ticks
    · exact nC_came
    · exact nC_actors
  have T0 : Txt K mg CA CC := { clA := ⟨pgA, hdA, poA, saA⟩, naA := NA, sum := PySem.W.mg_none_of X G b_sum, max := PySem.W.mg_none_of X G b_max, min := PySem.W.mg_none_of X G b_min, len := PySem.W.mg_none_of X G b_len, sorted := PySem.W.mg_none_of X G b_sorted, zip := PySem.W.mg_none_of X G b_zip, list := PySem.W.mg_none_of X G b_list, dict := PySem.W.mg_none_of X G b_dict, all := PySem.W.mg_none_of X G b_all, fast := ⟨_, PySem.W.mg_of X G g_fast⟩, mgA := PySem.W.mg_of X G aA }
  have T1 : TxtC K mg CA CC := { T0 with clC := ⟨pgC, hdC, poC, saC⟩, naC := NC }
  have T2 : TxtD K mg CA CC := { T1 with mgC := PySem.W.mg_of X G aC }
  have T3 : TxtR K mg CA CC := { T2 with range := ⟨_, PySem.W.mg_of X G g_range⟩, nobody := ⟨_, PySem.W.mg_of X G g_nobody⟩, full := ⟨_, PySem.W.mg_of X G g_full⟩, someR := ⟨_, PySem.W.mg_of X G g_someR⟩, notT := ⟨_, PySem.W.mg_of X G g_notT⟩, count := ⟨_, PySem.W.mg_of X G g_count⟩, mostA := ⟨_, PySem.W.mg_of X G g_mostA⟩, mostE := ⟨_, PySem.W.mg_of X G g_mostE⟩, turns := ⟨_, PySem.W.mg_of X G g_turns⟩ }
  obtain ⟨fd_iA, F_iA⟩ := d_iA.fun
  have b_iA := F_iA.binds (ps := ["self", "number", "base", "energy"]) fun _ _ _ _ _ _ us hl => match us, hl with | [_, _, _, _], _ => rfl
  have m_iA : Meth K CA "__init__" f_iA := ⟨a_iA, d_iA.fn, d_iA.kp⟩
  obtain ⟨fd_tA, F_tA⟩ := d_tA.fun
  have b_tA := F_tA.binds (ps := ["self"]) fun _ _ _ _ _ _ us hl => match us, hl with | [_], _ => rfl
  have m_tA : Meth K CA "twin" f_tA := ⟨a_tA, d_tA.fn, d_tA.kp⟩
  obtain ⟨fd_sp, F_sp⟩ := d_sp.fun
  have b_sp := F_sp.binds (ps := ["self"]) fun _ _ _ _ _ _ us hl => match us, hl with | [_], _ => rfl
  have m_sp : Meth K CA "speed" f_sp := ⟨a_sp, d_sp.fn, d_sp.kp⟩
  obtain ⟨fd_rd, F_rd⟩ := d_rd.fun
  have b_rd := F_rd.binds (ps := ["self"]) fun _ _ _ _ _ _ us hl => match us, hl with | [_], _ => rfl
  have m_rd : Meth K CA "is_ready" f_rd := ⟨a_rd, d_rd.fn, d_rd.kp⟩
  obtain ⟨fd_st, F_st⟩ := d_st.fun
  have b_st := F_st.binds (ps := ["self"]) fun _ _ _ _ _ _ us hl => match us, hl with | [_], _ => rfl
  have m_st : Meth K CA "steady_ticks" f_st := ⟨a_st, d_st.fn, d_st.kp⟩
  obtain ⟨fd_un, F_un⟩ := d_un.fun
  have b_un := F_un.binds (ps := ["self"]) fun _ _ _ _ _ _ us hl => match us, hl with | [_], _ => rfl
  have m_un : Meth K CA "ticks_until_ready" f_un := ⟨a_un, d_un.fn, d_un.kp⟩
  obtain ⟨fd_ga, F_ga⟩ := d_ga.fun
  have b_ga := F_ga.binds (ps := ["self", "ticks"]) fun _ _ _ _ _ _ us hl => match us, hl with | [_, _], _ => rfl
  have m_ga : Meth K CA "gain" f_ga := ⟨a_ga, d_ga.fn, d_ga.kp⟩
  obtain ⟨fd_pay, F_pay⟩ := d_pay.fun
  have b_pay := F_pay.binds (ps := ["self", "energy"]) fun _ _ _ _ _ _ us hl => match us, hl with | [_, _], _ => rfl
  have m_pay : Meth K CA "spend" f_pay := ⟨a_pay, d_pay.fn, d_pay.kp⟩
  obtain ⟨fd_ac, F_ac⟩ := d_ac.fun
  have b_ac := F_ac.binds (ps := ["self", "cost"]) fun _ _ _ _ _ _ us hl => match us, hl with | [_, _], _ => rfl
  have m_ac : Meth K CA "act" f_ac := ⟨a_ac, d_ac.fn, d_ac.kp⟩
  obtain ⟨fd_iC, F_iC⟩ := d_iC.fun
  have b_iC := F_iC.binds (ps := ["self"]) fun _ _ _ _ _ _ us hl => match us, hl with | [_], _ => rfl
  have m_iC : Meth K CC "__init__" f_iC := ⟨a_iC, d_iC.fn, d_iC.kp⟩
  obtain ⟨fd_tC, F_tC⟩ := d_tC.fun
  have b_tC := F_tC.binds (ps := ["self"]) fun _ _ _ _ _ _ us hl => match us, hl with | [_], _ => rfl
  have m_tC : Meth K CC "twin" f_tC := ⟨a_tC, d_tC.fn, d_tC.kp⟩
  obtain ⟨fd_we, F_we⟩ := d_we.fun
  have b_we := F_we.binds (ps := ["self", "speed", "energy"]) fun _ _ _ _ _ _ us hl => match us, hl with | [_, _, _], _ => rfl
  have m_we : Meth K CC "welcome" f_we := ⟨a_we, d_we.fn, d_we.kp⟩
  obtain ⟨fd_di, F_di⟩ := d_di.fun
  have b_di := F_di.binds (ps := ["self", "number"]) fun _ _ _ _ _ _ us hl => match us, hl with | [_, _], _ => rfl
  have m_di : Meth K CC "dismiss" f_di := ⟨a_di, d_di.fn, d_di.kp⟩
  obtain ⟨fd_tu, F_tu⟩ := d_tu.fun
  have b_tu := F_tu.binds (ps := ["self"]) fun _ _ _ _ _ _ us hl => match us, hl with | [_], _ => rfl
  have m_tu : Meth K CC "turn" f_tu := ⟨a_tu, d_tu.fn, d_tu.kp⟩
  obtain ⟨fd_ss, F_ss⟩ := d_ss.fun
  have b_ss := F_ss.binds (ps := ["self"]) fun _ _ _ _ _ _ us hl => match us, hl with | [_], _ => rfl
  have m_ss : Meth K CC "steady_spans" f_ss := ⟨a_ss, d_ss.fn, d_ss.kp⟩
  obtain ⟨fd_go, F_go⟩ := d_go.fun
  have b_go := F_go.binds (ps := ["self", "ticks"]) fun _ _ _ _ _ _ us hl => match us, hl with | [_, _], _ => rfl
  have m_go : Meth K CC "go_by" f_go := ⟨a_go, d_go.fn, d_go.kp⟩
  obtain ⟨fd_pt, F_pt⟩ := d_pt.fun
  have b_pt := F_pt.binds (ps := ["self", "most"]) fun _ _ _ _ _ _ us hl => match us, hl with | [_, _], _ => rfl
  have m_pt : Meth K CC "pass_ticks" f_pt := ⟨a_pt, d_pt.fn, d_pt.kp⟩
  obtain ⟨fd_pu, F_pu⟩ := d_pu.fun
  have b_pu := F_pu.binds (ps := ["self"]) fun _ _ _ _ _ _ us hl => match us, hl with | [_], _ => rfl
  have m_pu : Meth K CC "pass_until_ready" f_pu := ⟨a_pu, d_pu.fn, d_pu.kp⟩
  obtain ⟨fd_tt, F_tt⟩ := d_tt.fun
  have b_tt := F_tt.binds (ps := ["self", "many", "costs"]) fun _ _ _ _ _ _ us hl => match us, hl with | [_, _, _], _ => rfl
  have m_tt : Meth K CC "turns_to_come" f_tt := ⟨a_tt, d_tt.fn, d_tt.kp⟩
  obtain ⟨fd_co, F_co⟩ := d_co.fun
  have b_co := F_co.binds (ps := ["crowd", "numbers"]) fun _ _ _ _ _ _ us hl => match us, hl with | [_, _], _ => rfl
  obtain ⟨fd_ti, F_ti⟩ := d_ti.fun
  have b_ti := F_ti.binds (ps := ["crowd", "numbers"]) fun _ _ _ _ _ _ us hl => match us, hl with | [_, _], _ => rfl
  obtain ⟨fd_nx, F_nx⟩ := d_nx.fun
  have b_nx := F_nx.binds (ps := ["crowd", "numbers"]) fun _ _ _ _ _ _ us hl => match us, hl with | [_, _], _ => rfl
  obtain ⟨fd_lv, F_lv⟩ := d_lv.fun
  have b_lv := F_lv.binds (ps := ["crowd", "actor", "numbers"]) fun _ _ _ _ _ _ us hl => match us, hl with | [_, _, _], _ => rfl
  obtain ⟨fd_aR, F_aR⟩ := d_aR.fun
  have b_aR := F_aR.binds (ps := ["crowd", "actor", "numbers"]) fun _ _ _ _ _ _ us hl => match us, hl with | [_, _, _], _ => rfl
  obtain ⟨fd_ef, F_ef⟩ := d_ef.fun
  have b_ef := F_ef.binds (ps := ["crowd", "actor", "numbers"]) fun _ _ _ _ _ _ us hl => match us, hl with | [_, _, _], _ => rfl
  obtain ⟨fd_ds, F_ds⟩ := d_ds.fun
  have b_ds := F_ds.binds (ps := ["crowd", "actor", "numbers"]) fun _ _ _ _ _ _ us hl => match us, hl with | [_, _, _], _ => rfl
  obtain ⟨fd_cs, F_cs⟩ := d_cs.fun
  have b_cs := F_cs.binds (ps := ["crowd", "actor", "numbers"]) fun _ _ _ _ _ _ us hl => match us, hl with | [_, _, _], _ => rfl
  obtain ⟨fd_pr, F_pr⟩ := d_pr.fun
  have b_pr := F_pr.binds (ps := ["crowd", "actor", "numbers"]) fun _ _ _ _ _ _ us hl => match us, hl with | [_, _, _], _ => rfl
  obtain ⟨fd_qu, F_qu⟩ := d_qu.fun
  have b_qu := F_qu.binds (ps := ["crowd", "numbers"]) fun _ _ _ _ _ _ us hl => match us, hl with | [_, _], _ => rfl
  obtain ⟨fd_tm, F_tm⟩ := d_tm.fun
  have b_tm := F_tm.binds (ps := ["crowd", "numbers"]) fun _ _ _ _ _ _ us hl => match us, hl with | [_, _], _ => rfl
  obtain ⟨fd_de, F_de⟩ := d_de.fun
  have b_de := F_de.binds (ps := ["crowd", "actor", "numbers"]) fun _ _ _ _ _ _ us hl => match us, hl with | [_, _, _], _ => rfl
  obtain ⟨fd_wh, F_wh⟩ := d_wh.fun
  have b_wh := F_wh.binds (ps := ["crowd", "actor", "numbers"]) fun _ _ _ _ _ _ us hl => match us, hl with | [_, _, _], _ => rfl
  obtain ⟨fd_bo, F_bo⟩ := d_bo.fun
  have b_bo := F_bo.binds (ps := ["crowd", "actor", "numbers"]) fun _ _ _ _ _ _ us hl => match us, hl with | [_, _, _], _ => rfl
  obtain ⟨fd_fo, F_fo⟩ := d_fo.fun
  have b_fo := F_fo.binds (ps := ["crowd", "many", "costs"]) fun _ _ _ _ _ _ us hl => match us, hl with | [_, _, _], _ => rfl
  obtain ⟨fd_cn, F_cn⟩ := d_cn.fun
  have b_cn := F_cn.binds (ps := ["place"]) fun _ _ _ _ _ _ us hl => match us, hl with | [_], _ => rfl
  obtain ⟨fd_hr, F_hr⟩ := d_hr.fun
  have b_hr := F_hr.binds (ps := ["place"]) fun _ _ _ _ _ _ us hl => match us, hl with | [_], _ => rfl
  obtain ⟨fd_iw, F_iw⟩ := d_iw.fun
  have b_iw := F_iw.binds (ps := ["number", "bounds"]) fun _ _ _ _ _ _ us hl => match us, hl with | [_, _], _ => rfl
  obtain ⟨fd_aw, F_aw⟩ := d_aw.fun
  have b_aw := F_aw.binds (ps := ["numbers", "ranges"]) fun _ _ _ _ _ _ us hl => match us, hl with | [_, _], _ => rfl
  obtain ⟨fd_ak, F_ak⟩ := d_ak.fun
  have b_ak := F_ak.binds (ps := ["numbers"]) fun _ _ _ _ _ _ us hl => match us, hl with | [_], _ => rfl
  obtain ⟨fd_an, F_an⟩ := d_an.fun
  have b_an := F_an.binds (ps := ["crowd", "place", "numbers", "costs"]) fun _ _ _ _ _ _ us hl => match us, hl with | [_, _, _, _], _ => rfl
  obtain ⟨fd_rr, F_rr⟩ := d_rr.fun
  have b_rr := F_rr.binds (ps := ["calls", "start"]) fun _ _ _ _ _ _ us hl => match us, hl with | [_, _], _ => rfl
  obtain ⟨fd_as, F_as⟩ := d_as.fun
  have b_as := F_as.binds (ps := ["calls"]) fun _ _ _ _ _ _ us hl => match us, hl with | [_], _ => rfl
  have b_or : Binds K (PySem.W.fnOf "ready_in_order" "Crowd.ready_in_order" (defArgs d_Crowd_ready_in_order) (defBody d_Crowd_ready_in_order) (defScope d_Crowd_ready_in_order) .none kVO docO pmO anO (.ref cO) ctO) ["self"] [] := .all fun us hl => match us, hl with | [_], _ => rfl
  have m_or : Meth K CC "ready_in_order" f_or := ⟨a_or, i_or, k_or⟩
  have MA : Mk K CA f_iA := ⟨mkA, a_iA, d_iA.fn, kcA⟩
  have MC : Mk K CC f_iC := ⟨mkC, a_iC, d_iC.fn, kcC⟩
  have KR : ∀ p bs, table p = some bs → ∃ r, ([(0, V.ref r0), (1, V.ref r1), (2, V.ref r2), (3, V.ref r3), (4, V.ref r4), (5, V.ref r5), (6, V.ref r6), (7, V.ref r7), (8, V.ref r8), (9, V.ref r9), (10, V.ref r10), (11, V.ref r11), (12, V.ref r12), (13, V.ref r13), (14, V.ref r14)] : List (Int × V)).lookup p = some (.ref r) ∧ KT2 K r bs := by
    intro p bs ht
    have m := table_cases ht
    simp only [tableL, List.mem_cons, List.not_mem_nil, or_false, Prod.mk.injEq] at m
    rcases m with ⟨rfl, rfl⟩ | ⟨rfl, rfl⟩ | ⟨rfl, rfl⟩ | ⟨rfl, rfl⟩ | ⟨rfl, rfl⟩ | ⟨rfl, rfl⟩ | ⟨rfl, rfl⟩ | ⟨rfl, rfl⟩ | ⟨rfl, rfl⟩ | ⟨rfl, rfl⟩ | ⟨rfl, rfl⟩ | ⟨rfl, rfl⟩ | ⟨rfl, rfl⟩ | ⟨rfl, rfl⟩ | ⟨rfl, rfl⟩
    · exact ⟨r0, rfl, [p0_0, p0_1], fun H => t0.sq H, .cons (fun H => u0_0.sq H) (.cons (fun H => u0_1.sq H) .nil)⟩
    · exact ⟨r1, rfl, [p1_0], fun H => t1.sq H, .cons (fun H => u1_0.sq H) .nil⟩
    · exact ⟨r2, rfl, [p2_0], fun H => t2.sq H, .cons (fun H => u2_0.sq H) .nil⟩
    · exact ⟨r3, rfl, [], fun H => t3.sq H, .nil⟩
    · exact ⟨r4, rfl, [p4_0, p4_1], fun H => t4.sq H, .cons (fun H => u4_0.sq H) (.cons (fun H => u4_1.sq H) .nil)⟩
    · exact ⟨r5, rfl, [p5_0, p5_1, p5_2], fun H => t5.sq H, .cons (fun H => u5_0.sq H) (.cons (fun H => u5_1.sq H) (.cons (fun H => u5_2.sq H) .nil))⟩
    · exact ⟨r6, rfl, [p6_0], fun H => t6.sq H, .cons (fun H => u6_0.sq H) .nil⟩
    · exact ⟨r7, rfl, [p7_0, p7_1], fun H => t7.sq H, .cons (fun H => u7_0.sq H) (.cons (fun H => u7_1.sq H) .nil)⟩
    · exact ⟨r8, rfl, [p8_0, p8_1], fun H => t8.sq H, .cons (fun H => u8_0.sq H) (.cons (fun H => u8_1.sq H) .nil)⟩
    · exact ⟨r9, rfl, [], fun H => t9.sq H, .nil⟩
    · exact ⟨r10, rfl, [p10_0], fun H => t10.sq H, .cons (fun H => u10_0.sq H) .nil⟩
    · exact ⟨r11, rfl, [p11_0], fun H => t11.sq H, .cons (fun H => u11_0.sq H) .nil⟩
    · exact ⟨r12, rfl, [p12_0], fun H => t12.sq H, .cons (fun H => u12_0.sq H) .nil⟩
    · exact ⟨r13, rfl, [p13_0], fun H => t13.sq H, .cons (fun H => u13_0.sq H) .nil⟩
    · exact ⟨r14, rfl, [], fun H => t14.sq H, .nil⟩
  have hd : PySem.W.CodeHd h cO Pt := PySem.W.codeHd_of_K X h_or
  refine ⟨fd_as, fun s us hu => ?_, nP, ?_, fun base kb nb bm => ?_⟩
  · obtain ⟨oc, od, kV, doc, pm, an, cdv, ct, osl, rfl, _, _⟩ := F_as.ex
    exact match us, hu with | [_], _ => .of_eq rfl
  · obtain ⟨oo, vs, file, tf, flags, tg, inF, text, tt, e1, e2, e3, e4, _⟩ := hd
    exact ⟨cO, oo, vs, e1, e2, e3, e4⟩
  have hdb : PySem.W.CodeHd base cO Pt := PySem.W.codeHd_of_K kb h_or
  have G_sp : FnOk P w K mg base CX0 1 f_sp fd_sp ["self"] (spSpeed CA) := ok_speed F_sp T0
  have G_rd : FnOk P w K mg base CX0 1 f_rd fd_rd ["self"] (spReady CA) := ok_ready F_rd T0
  have G_pay : FnOk P w K mg base CX0 1 f_pay fd_pay ["self", "energy"] (spSpend CA) := ok_spend F_pay T0
  have G_ac : FnOk P w K mg base CX0 2 f_ac fd_ac ["self", "cost"] (spAct CA) := ok_act F_ac T0 G_pay m_pay b_pay
  have G_st : FnOk P w K mg base CX0 2 f_st fd_st ["self"] (spSteady CA) := ok_steady F_st T0 F_sp m_sp b_sp
  have G_ga : FnOk P w K mg base CX0 2 f_ga fd_ga ["self", "ticks"] (spGain CA) := ok_gain F_ga T0 F_sp m_sp b_sp
  have G_iA : FnOk P w K mg base CX0 1 f_iA fd_iA ["self", "number", "base", "energy"] (spInitA CA) := ok_initA F_iA T0
  have G_tA : FnOk P w K mg base CX0 3 f_tA fd_tA ["self"] (spTwinA CA) := ok_twinA F_tA T0 MA G_iA b_iA
  have G_un : FnOk P w K mg base CX0 4 f_un fd_un ["self"] (spUntil CA) := ok_until F_un T0 G_tA m_tA b_tA G_rd m_rd b_rd G_st m_st b_st G_ga m_ga b_ga
  have G_or : FnOk P w K mg base CX0 5 f_or _ ["self"] (spOrder CA CC Pt) := ok_order l_or c_or hdb bm T1 F_rd m_rd b_rd
  have G_tu : FnOk P w K mg base CX0 6 f_tu fd_tu ["self"] (spTurn CA CC Pt) := ok_turn F_tu T1 G_or m_or b_or
  have G_ss : FnOk P w K mg base CX0 3 f_ss fd_ss ["self"] (spSpans CA CC) := ok_spans F_ss T1 G_st m_st b_st
  have G_go : FnOk P w K mg base CX0 3 f_go fd_go ["self", "ticks"] (spGo CA CC Pt) := ok_go F_go T1 G_ga m_ga b_ga
  have G_pt : FnOk P w K mg base CX0 7 f_pt fd_pt ["self", "most"] (spPass CA CC Pt) := ok_pass F_pt T1 G_tu m_tu b_tu G_ss m_ss b_ss G_go m_go b_go
  have G_pu : FnOk P w K mg base CX0 7 f_pu fd_pu ["self"] (spPassU CA CC Pt) := ok_passU F_pu T1 G_tu m_tu b_tu G_ss m_ss b_ss G_go m_go b_go
  have G_iC : FnOk P w K mg base CX0 1 f_iC fd_iC ["self"] (spInitC CC) := ok_initC F_iC T1
  have G_we : FnOk P w K mg base CX0 3 f_we fd_we ["self", "speed", "energy"] (spWelcome CA CC Pt) := ok_welcome F_we T1 MA G_iA b_iA
  have G_di : FnOk P w K mg base CX0 1 f_di fd_di ["self", "number"] (spDismiss CA CC Pt) := ok_dismiss F_di T1
  have G_tC : FnOk P w K mg base CX0 4 f_tC fd_tC ["self"] (spTwinC CA CC) := ok_twinC F_tC T2 MC G_iC b_iC G_tA m_tA b_tA
  have G_tt : FnOk P w K mg base CX0 8 f_tt fd_tt ["self", "many", "costs"] (spTurns CA CC Pt) := ok_turns F_tt T2 G_tC m_tC b_tC G_pu m_pu b_pu G_tu m_tu b_tu G_ac m_ac b_ac
  have G_co : FnOk P w K mg base CX0 4 f_co fd_co ["crowd", "numbers"] (spAll CA CC Pt clCome) := ok_come F_co T3 G_we m_we b_we
  have G_ti : FnOk P w K mg base CX0 8 f_ti fd_ti ["crowd", "numbers"] (spAll CA CC Pt clTick) := ok_tick F_ti T3 G_tu m_tu b_tu G_pt m_pt b_pt
  have G_nx : FnOk P w K mg base CX0 8 f_nx fd_nx ["crowd", "numbers"] (spAll CA CC Pt clNext) := ok_next F_nx T3 G_tu m_tu b_tu G_pu m_pu b_pu
  have G_lv : FnOk P w K mg base CX0 2 f_lv fd_lv ["crowd", "actor", "numbers"] (spOne CA CC Pt clLeave) := ok_leave F_lv T3 G_di m_di b_di
  have G_aR : FnOk P w K mg base CX0 7 f_aR fd_aR ["crowd", "actor", "numbers"] (spOne CA CC Pt clAct) := ok_actR F_aR T3 G_tu m_tu b_tu G_ac m_ac b_ac
  have G_ef : FnOk P w K mg base CX0 2 f_ef fd_ef ["crowd", "actor", "numbers"] (spOne CA CC Pt clEffect) := ok_effect F_ef T3 G_sp m_sp b_sp
  have G_ds : FnOk P w K mg base CX0 2 f_ds fd_ds ["crowd", "actor", "numbers"] (spOne CA CC Pt clDispel) := ok_dispel F_ds T3 G_sp m_sp b_sp
  have G_cs : FnOk P w K mg base CX0 2 f_cs fd_cs ["crowd", "actor", "numbers"] (spOne CA CC Pt clSpeed) := ok_speedR F_cs T3 G_sp m_sp b_sp
  have G_pr : FnOk P w K mg base CX0 2 f_pr fd_pr ["crowd", "actor", "numbers"] (spOne CA CC Pt clPush) := ok_push F_pr T3 G_pay m_pay b_pay
  have G_qu : FnOk P w K mg base CX0 6 f_qu fd_qu ["crowd", "numbers"] (spAll CA CC Pt clQueue) := ok_queue F_qu T3 G_or m_or b_or
  have G_tm : FnOk P w K mg base CX0 7 f_tm fd_tm ["crowd", "numbers"] (spAll CA CC Pt clTime) := ok_time F_tm T3 G_tu m_tu b_tu
  have G_de : FnOk P w K mg base CX0 2 f_de fd_de ["crowd", "actor", "numbers"] (spOne CA CC Pt clActor) := ok_desc F_de T3 G_sp m_sp b_sp
  have G_wh : FnOk P w K mg base CX0 5 f_wh fd_wh ["crowd", "actor", "numbers"] (spOne CA CC Pt clWhen) := ok_when F_wh T3 G_un m_un b_un
  have G_bo : FnOk P w K mg base CX0 1 f_bo fd_bo ["crowd", "actor", "numbers"] (spOne CA CC Pt clBook) := ok_book F_bo T3
  have G_fo : FnOk P w K mg base CX0 9 f_fo fd_fo ["crowd", "many", "costs"] (spFore CA CC Pt) := ok_fore F_fo T3 G_tt m_tt b_tt
  have G_iw : FnOk P w K mg base CX0 1 f_iw fd_iw ["number", "bounds"] (spIn K) := ok_in F_iw
  have G_aw : FnOk P w K mg base CX0 2 f_aw fd_aw ["numbers", "ranges"] (spWithin K) := ok_within F_aw T3 (PySem.W.mg_of X G a_iw) d_iw.kp G_iw b_iw
  have CAL : ∀ p cl, (p, cl) ∈ allL → ∃ f, ([(0, V.ref f_co), (2, V.ref f_ti), (3, V.ref f_nx), (9, V.ref f_qu), (14, V.ref f_tm)] : List (Int × V)).lookup p = some (.ref f) ∧ Cal P w K mg base 8 f (spAll CA CC Pt cl) := by
    intro p cl hm
    simp only [allL, List.mem_cons, List.not_mem_nil, or_false, Prod.mk.injEq] at hm
    rcases hm with ⟨rfl, rfl⟩ | ⟨rfl, rfl⟩ | ⟨rfl, rfl⟩ | ⟨rfl, rfl⟩ | ⟨rfl, rfl⟩
    · exact ⟨f_co, rfl, fd_co, _, G_co.mono (by decide), b_co, d_co.kp⟩
    · exact ⟨f_ti, rfl, fd_ti, _, G_ti.mono (by decide), b_ti, d_ti.kp⟩
    · exact ⟨f_nx, rfl, fd_nx, _, G_nx.mono (by decide), b_nx, d_nx.kp⟩
    · exact ⟨f_qu, rfl, fd_qu, _, G_qu.mono (by decide), b_qu, d_qu.kp⟩
    · exact ⟨f_tm, rfl, fd_tm, _, G_tm.mono (by decide), b_tm, d_tm.kp⟩
  have NOT : ∀ p, (∀ cl, (p, cl) ∉ allL) → ([(0, V.ref f_co), (2, V.ref f_ti), (3, V.ref f_nx), (9, V.ref f_qu), (14, V.ref f_tm)] : List (Int × V)).lookup p = none := by
    intro p hn
    refine lookup_out fun x hx e => ?_
    simp only [List.not_mem_nil, List.mem_cons, or_false] at hx
    rcases hx with rfl | rfl | rfl | rfl | rfl
    · exact hn clCome (by rw [e]; simp [allL])
    · exact hn clTick (by rw [e]; simp [allL])
    · exact hn clNext (by rw [e]; simp [allL])
    · exact hn clQueue (by rw [e]; simp [allL])
    · exact hn clTime (by rw [e]; simp [allL])
  have ONE : ∀ p cl, (p, cl) ∈ oneL → ∃ f, ([(1, V.ref f_lv), (4, V.ref f_aR), (5, V.ref f_ef), (6, V.ref f_ds), (7, V.ref f_cs), (8, V.ref f_pr), (10, V.ref f_de), (11, V.ref f_wh), (13, V.ref f_bo)] : List (Int × V)).lookup p = some (.ref f) ∧ Cal P w K mg base 8 f (spOne CA CC Pt cl) := by
    intro p cl hm
    simp only [oneL, List.mem_cons, List.not_mem_nil, or_false, Prod.mk.injEq] at hm
    rcases hm with ⟨rfl, rfl⟩ | ⟨rfl, rfl⟩ | ⟨rfl, rfl⟩ | ⟨rfl, rfl⟩ | ⟨rfl, rfl⟩ | ⟨rfl, rfl⟩ | ⟨rfl, rfl⟩ | ⟨rfl, rfl⟩ | ⟨rfl, rfl⟩
    · exact ⟨f_lv, rfl, fd_lv, _, G_lv.mono (by decide), b_lv, d_lv.kp⟩
    · exact ⟨f_aR, rfl, fd_aR, _, G_aR.mono (by decide), b_aR, d_aR.kp⟩
    · exact ⟨f_ef, rfl, fd_ef, _, G_ef.mono (by decide), b_ef, d_ef.kp⟩
    · exact ⟨f_ds, rfl, fd_ds, _, G_ds.mono (by decide), b_ds, d_ds.kp⟩
    · exact ⟨f_cs, rfl, fd_cs, _, G_cs.mono (by decide), b_cs, d_cs.kp⟩
    · exact ⟨f_pr, rfl, fd_pr, _, G_pr.mono (by decide), b_pr, d_pr.kp⟩
    · exact ⟨f_de, rfl, fd_de, _, G_de.mono (by decide), b_de, d_de.kp⟩
    · exact ⟨f_wh, rfl, fd_wh, _, G_wh.mono (by decide), b_wh, d_wh.kp⟩
    · exact ⟨f_bo, rfl, fd_bo, _, G_bo.mono (by decide), b_bo, d_bo.kp⟩
  have TA : TxtA P w K mg base CA CC Pt dR cK dL dO [(0, V.ref r0), (1, V.ref r1), (2, V.ref r2), (3, V.ref r3), (4, V.ref r4), (5, V.ref r5), (6, V.ref r6), (7, V.ref r7), (8, V.ref r8), (9, V.ref r9), (10, V.ref r10), (11, V.ref r11), (12, V.ref r12), (13, V.ref r13), (14, V.ref r14)] [(0, V.ref f_co), (2, V.ref f_ti), (3, V.ref f_nx), (9, V.ref f_qu), (14, V.ref f_tm)] [(1, V.ref f_lv), (4, V.ref f_aR), (5, V.ref f_ef), (6, V.ref f_ds), (7, V.ref f_cs), (8, V.ref f_pr), (10, V.ref f_de), (11, V.ref f_wh), (13, V.ref f_bo)] := { T3 with mgR := PySem.W.mg_of X G mR, kdR := ⟨⟨esR, nR, lR, eR⟩, oR⟩, rng := KR, mgK := PySem.W.mg_of X G mK, cost := fun H => tK.sq H, mgL := PySem.W.mg_of X G mL, kdA := ⟨⟨esL, nL, lL, eL⟩, oL⟩, mgO := PySem.W.mg_of X G mO, kdO := ⟨⟨esO, nO, lO, eO⟩, oO⟩, callA := CAL, notA := NOT, callO := ONE }
  have G_ak : FnOk P w K mg base CX0 2 f_ak fd_ak ["numbers"] (spCosts K) := ok_costs F_ak TA (PySem.W.mg_of X G a_iw) d_iw.kp G_iw b_iw
  have G_cn : FnOk P w K mg base CX0 1 f_cn fd_cn ["place"] (spCount) := ok_count F_cn TA
  have G_hr : FnOk P w K mg base CX0 1 f_hr fd_hr ["place"] (spRow) := ok_row F_hr TA
  have G_an : FnOk P w K mg base CX0 10 f_an fd_an ["crowd", "place", "numbers", "costs"] (spAnswer CA CC Pt) := ok_answer F_an TA G_aw (PySem.W.mg_of X G a_aw) d_aw.kp b_aw G_ak (PySem.W.mg_of X G a_ak) d_ak.kp b_ak G_fo (PySem.W.mg_of X G a_fo) d_fo.kp b_fo
  have G_rr : FnOk P w K mg base CX0 1 f_rr fd_rr ["calls", "start"] (spRead K) := ok_read F_rr
  exact ok_answers F_as TA MC G_iC b_iC G_cn (PySem.W.mg_of X G a_cn) d_cn.kp b_cn G_hr (PySem.W.mg_of X G a_hr) d_hr.kp b_hr G_rr (PySem.W.mg_of X G a_rr) d_rr.kp b_rr G_an (PySem.W.mg_of X G a_an) d_an.kp b_an
end My
end

open PySem PySem.W PyProof.Rows
set_option Elab.async false
set_option linter.all false
def PySem.W.Fast.tw12355710851575992373 : Unit := ()
def PySem.W.Fast.tw10641814580006119133 : Unit := ()
def PySem.W.Fast.tw13631891204818493030 : Unit := ()
def PySem.W.Fast.tw1485912777046187512 : Unit := ()
def PySem.W.Fast.tw3336726843203495072 : Unit := ()
def PySem.W.Fast.tw3916641661235796706 : Unit := ()
def PySem.W.Fast.tw5300709354568007364 : Unit := ()
def PySem.W.Fast.tw11620634822850061916 : Unit := ()
def PySem.W.Fast.tw5930050703537009093 : Unit := ()
def PySem.W.Fast.tw6484175146354991340 : Unit := ()
def PySem.W.Fast.tw6464195819135212618 : Unit := ()
def PySem.W.Fast.tw6197384014909183066 : Unit := ()
local macro_rules | `(tactic| o_headS ($f:ident $K $a $e)) => `(tactic| o_headS (PySem.W.kmHook $K $a $e [120]))
set_option maxRecDepth 100000 in
set_option maxHeartbeats 0 in
theorem PySem.Challenge.cw_energyturns_s01_answers_holds : PySem.Challenge.rw_energyturns_s01_answers.Holds := by
  w_on; k_headS; (case hw => exact ⟨[.list [.int 3]], by decide +kernel, by decide +kernel⟩)
  k_fillS
  refine L2.walk_specT (r := PySem.Challenge.rw_energyturns_s01_answers) (k := 11) (ps := ["calls"]) (Pt := 120) (sp := fun K => My.spAnswers 120 K) (by decide +kernel) rfl ⟨rfl, by decide, by decide⟩ (fun w h Y => ⟨PySem.W.km_in_of Y, PySem.W.km_tabs_of Y 120 (List.mem_singleton.mpr rfl)⟩) ?F ?S
  case F =>
    intro w mg fa h KX G hmg
    refine' My.all_mk KX G hmg ?aA ?aC ?pgA ?hdA ?poA ?saA ?mkA ?kcA ?nA_number ?nA_base ?nA_energy ?nA_effects ?nA_acted ?nA_gained ?nA_spent ?pgC ?hdC ?poC ?saC ?mkC ?kcC ?nC_ticks ?nC_came ?nC_actors ?a_iA ?d_iA ?a_tA ?d_tA ?a_sp ?d_sp ?a_rd ?d_rd ?a_st ?d_st ?a_un ?d_un ?a_ga ?d_ga ?a_pay ?d_pay ?a_ac ?d_ac ?a_iC ?d_iC ?a_tC ?d_tC ?a_we ?d_we ?a_di ?d_di ?a_tu ?d_tu ?a_ss ?d_ss ?a_go ?d_go ?a_pt ?d_pt ?a_pu ?d_pu ?a_tt ?d_tt ?a_co ?d_co ?a_ti ?d_ti ?a_nx ?d_nx ?a_lv ?d_lv ?a_aR ?d_aR ?a_ef ?d_ef ?a_ds ?d_ds ?a_cs ?d_cs ?a_pr ?d_pr ?a_qu ?d_qu ?a_tm ?d_tm ?a_de ?d_de ?a_wh ?d_wh ?a_bo ?d_bo ?a_fo ?d_fo ?a_cn ?d_cn ?a_hr ?d_hr ?a_iw ?d_iw ?a_aw ?d_aw ?a_ak ?d_ak ?a_an ?d_an ?a_rr ?d_rr ?a_as ?d_as ?a_or ?i_or ?l_or ?c_or ?k_or ?h_or ?nP ?b_sum ?b_max ?b_min ?b_len ?b_sorted ?b_zip ?b_list ?b_dict ?b_all ?g_fast ?g_range ?g_nobody ?g_full ?g_someR ?g_notT ?g_count ?g_mostA ?g_mostE ?g_turns ?mR ?lR ?eR ?oR ?mL ?lL ?eL ?oL ?mO ?lO ?eO ?oO ?t0 ?u0_0 ?u0_1 ?t1 ?u1_0 ?t2 ?u2_0 ?t3 ?t4 ?u4_0 ?u4_1 ?t5 ?u5_0 ?u5_1 ?u5_2 ?t6 ?u6_0 ?t7 ?u7_0 ?u7_1 ?t8 ?u8_0 ?u8_1 ?t9 ?t10 ?u10_0 ?t11 ?u11_0 ?t12 ?u12_0 ?t13 ?u13_0 ?t14 ?mK ?tK
    (case aA => k_is)
    (case aC => k_is)
    (case pgA => k_is)
    (case hdA => k_is)
    (case poA => k_is)
    (case saA => k_is)
    (case mkA => k_is)
    (case kcA => k_is)
    (case nA_number => k_is)
    (case nA_base => k_is)
    (case nA_energy => k_is)
    (case nA_effects => k_is)
    (case nA_acted => k_is)
    (case nA_gained => k_is)
    (case nA_spent => k_is)
    (case pgC => k_is)
    (case hdC => k_is)
    (case poC => k_is)
    (case saC => k_is)
    (case mkC => k_is)
    (case kcC => k_is)
    (case nC_ticks => k_is)
    (case nC_came => k_is)
    (case nC_actors => k_is)
    (case a_iA => k_is)
    (case d_iA => (refine' My.isDef_mk ?l ?c ?i ?k; (case l => k_is); (case c => k_is); (case i => k_is); (case k => k_is)))
    (case a_tA => k_is)
    (case d_tA => (refine' My.isDef_mk ?l ?c ?i ?k; (case l => k_is); (case c => k_is); (case i => k_is); (case k => k_is)))
    (case a_sp => k_is)
    (case d_sp => (refine' My.isDef_mk ?l ?c ?i ?k; (case l => k_is); (case c => k_is); (case i => k_is); (case k => k_is)))
    (case a_rd => k_is)
    (case d_rd => (refine' My.isDef_mk ?l ?c ?i ?k; (case l => k_is); (case c => k_is); (case i => k_is); (case k => k_is)))
    (case a_st => k_is)
    (case d_st => (refine' My.isDef_mk ?l ?c ?i ?k; (case l => k_is); (case c => k_is); (case i => k_is); (case k => k_is)))
    (case a_un => k_is)
    (case d_un => (refine' My.isDef_mk ?l ?c ?i ?k; (case l => k_is); (case c => k_is); (case i => k_is); (case k => k_is)))
    (case a_ga => k_is)
    (case d_ga => (refine' My.isDef_mk ?l ?c ?i ?k; (case l => k_is); (case c => k_is); (case i => k_is); (case k => k_is)))
    (case a_pay => k_is)
    (case d_pay => (refine' My.isDef_mk ?l ?c ?i ?k; (case l => k_is); (case c => k_is); (case i => k_is); (case k => k_is)))
    (case a_ac => k_is)
    (case d_ac => (refine' My.isDef_mk ?l ?c ?i ?k; (case l => k_is); (case c => k_is); (case i => k_is); (case k => k_is)))
    (case a_iC => k_is)
    (case d_iC => (refine' My.isDef_mk ?l ?c ?i ?k; (case l => k_is); (case c => k_is); (case i => k_is); (case k => k_is)))
    (case a_tC => k_is)
    (case d_tC => (refine' My.isDef_mk ?l ?c ?i ?k; (case l => k_is); (case c => k_is); (case i => k_is); (case k => k_is)))
    (case a_we => k_is)
    (case d_we => (refine' My.isDef_mk ?l ?c ?i ?k; (case l => k_is); (case c => k_is); (case i => k_is); (case k => k_is)))
    (case a_di => k_is)
    (case d_di => (refine' My.isDef_mk ?l ?c ?i ?k; (case l => k_is); (case c => k_is); (case i => k_is); (case k => k_is)))
    (case a_tu => k_is)
    (case d_tu => (refine' My.isDef_mk ?l ?c ?i ?k; (case l => k_is); (case c => k_is); (case i => k_is); (case k => k_is)))
    (case a_ss => k_is)
    (case d_ss => (refine' My.isDef_mk ?l ?c ?i ?k; (case l => k_is); (case c => k_is); (case i => k_is); (case k => k_is)))
    (case a_go => k_is)
    (case d_go => (refine' My.isDef_mk ?l ?c ?i ?k; (case l => k_is); (case c => k_is); (case i => k_is); (case k => k_is)))
    (case a_pt => k_is)
    (case d_pt => (refine' My.isDef_mk ?l ?c ?i ?k; (case l => k_is); (case c => k_is); (case i => k_is); (case k => k_is)))
    (case a_pu => k_is)
    (case d_pu => (refine' My.isDef_mk ?l ?c ?i ?k; (case l => k_is); (case c => k_is); (case i => k_is); (case k => k_is)))
    (case a_tt => k_is)
    (case d_tt => (refine' My.isDef_mk ?l ?c ?i ?k; (case l => k_is); (case c => k_is); (case i => k_is); (case k => k_is)))
    (case a_co => k_is)
    (case d_co => (refine' My.isDef_mk ?l ?c ?i ?k; (case l => k_is); (case c => k_is); (case i => k_is); (case k => k_is)))
    (case a_ti => k_is)
    (case d_ti => (refine' My.isDef_mk ?l ?c ?i ?k; (case l => k_is); (case c => k_is); (case i => k_is); (case k => k_is)))
    (case a_nx => k_is)
    (case d_nx => (refine' My.isDef_mk ?l ?c ?i ?k; (case l => k_is); (case c => k_is); (case i => k_is); (case k => k_is)))
    (case a_lv => k_is)
    (case d_lv => (refine' My.isDef_mk ?l ?c ?i ?k; (case l => k_is); (case c => k_is); (case i => k_is); (case k => k_is)))
    (case a_aR => k_is)
    (case d_aR => (refine' My.isDef_mk ?l ?c ?i ?k; (case l => k_is); (case c => k_is); (case i => k_is); (case k => k_is)))
    (case a_ef => k_is)
    (case d_ef => (refine' My.isDef_mk ?l ?c ?i ?k; (case l => k_is); (case c => k_is); (case i => k_is); (case k => k_is)))
    (case a_ds => k_is)
    (case d_ds => (refine' My.isDef_mk ?l ?c ?i ?k; (case l => k_is); (case c => k_is); (case i => k_is); (case k => k_is)))
    (case a_cs => k_is)
    (case d_cs => (refine' My.isDef_mk ?l ?c ?i ?k; (case l => k_is); (case c => k_is); (case i => k_is); (case k => k_is)))
    (case a_pr => k_is)
    (case d_pr => (refine' My.isDef_mk ?l ?c ?i ?k; (case l => k_is); (case c => k_is); (case i => k_is); (case k => k_is)))
    (case a_qu => k_is)
    (case d_qu => (refine' My.isDef_mk ?l ?c ?i ?k; (case l => k_is); (case c => k_is); (case i => k_is); (case k => k_is)))
    (case a_tm => k_is)
    (case d_tm => (refine' My.isDef_mk ?l ?c ?i ?k; (case l => k_is); (case c => k_is); (case i => k_is); (case k => k_is)))
    (case a_de => k_is)
    (case d_de => (refine' My.isDef_mk ?l ?c ?i ?k; (case l => k_is); (case c => k_is); (case i => k_is); (case k => k_is)))
    (case a_wh => k_is)
    (case d_wh => (refine' My.isDef_mk ?l ?c ?i ?k; (case l => k_is); (case c => k_is); (case i => k_is); (case k => k_is)))
    (case a_bo => k_is)
    (case d_bo => (refine' My.isDef_mk ?l ?c ?i ?k; (case l => k_is); (case c => k_is); (case i => k_is); (case k => k_is)))
    (case a_fo => k_is)
    (case d_fo => (refine' My.isDef_mk ?l ?c ?i ?k; (case l => k_is); (case c => k_is); (case i => k_is); (case k => k_is)))
    (case a_cn => k_is)
    (case d_cn => (refine' My.isDef_mk ?l ?c ?i ?k; (case l => k_is); (case c => k_is); (case i => k_is); (case k => k_is)))
    (case a_hr => k_is)
    (case d_hr => (refine' My.isDef_mk ?l ?c ?i ?k; (case l => k_is); (case c => k_is); (case i => k_is); (case k => k_is)))
    (case a_iw => k_is)
    (case d_iw => (refine' My.isDef_mk ?l ?c ?i ?k; (case l => k_is); (case c => k_is); (case i => k_is); (case k => k_is)))
    (case a_aw => k_is)
    (case d_aw => (refine' My.isDef_mk ?l ?c ?i ?k; (case l => k_is); (case c => k_is); (case i => k_is); (case k => k_is)))
    (case a_ak => k_is)
    (case d_ak => (refine' My.isDef_mk ?l ?c ?i ?k; (case l => k_is); (case c => k_is); (case i => k_is); (case k => k_is)))
    (case a_an => k_is)
    (case d_an => (refine' My.isDef_mk ?l ?c ?i ?k; (case l => k_is); (case c => k_is); (case i => k_is); (case k => k_is)))
    (case a_rr => k_is)
    (case d_rr => (refine' My.isDef_mk ?l ?c ?i ?k; (case l => k_is); (case c => k_is); (case i => k_is); (case k => k_is)))
    (case a_as => k_is)
    (case d_as => (refine' My.isDef_mk ?l ?c ?i ?k; (case l => k_is); (case c => k_is); (case i => k_is); (case k => k_is)))
    (case a_or => k_is)
    (case i_or => k_is)
    (case l_or => k_is)
    (case c_or => k_is)
    (case k_or => k_is)
    (case h_or => kernel_rfl)
    (case nP => kernel_rfl)
    (case b_sum => k_is)
    (case b_max => k_is)
    (case b_min => k_is)
    (case b_len => k_is)
    (case b_sorted => k_is)
    (case b_zip => k_is)
    (case b_list => k_is)
    (case b_dict => k_is)
    (case b_all => k_is)
    (case g_fast => k_is)
    (case g_range => k_is)
    (case g_nobody => k_is)
    (case g_full => k_is)
    (case g_someR => k_is)
    (case g_notT => k_is)
    (case g_count => k_is)
    (case g_mostA => k_is)
    (case g_mostE => k_is)
    (case g_turns => k_is)
    (case mR => k_is)
    (case lR => k_is)
    (case eR => exact .cons ⟨_, rfl⟩ rfl rfl (.cons ⟨_, rfl⟩ rfl rfl (.cons ⟨_, rfl⟩ rfl rfl (.cons ⟨_, rfl⟩ rfl rfl (.cons ⟨_, rfl⟩ rfl rfl (.cons ⟨_, rfl⟩ rfl rfl (.cons ⟨_, rfl⟩ rfl rfl (.cons ⟨_, rfl⟩ rfl rfl (.cons ⟨_, rfl⟩ rfl rfl (.cons ⟨_, rfl⟩ rfl rfl (.cons ⟨_, rfl⟩ rfl rfl (.cons ⟨_, rfl⟩ rfl rfl (.cons ⟨_, rfl⟩ rfl rfl (.cons ⟨_, rfl⟩ rfl rfl (.cons ⟨_, rfl⟩ rfl rfl .nil)))))))))))))))
    (case oR => decide)
    (case mL => k_is)
    (case lL => k_is)
    (case eL => exact .cons ⟨_, rfl⟩ rfl rfl (.cons ⟨_, rfl⟩ rfl rfl (.cons ⟨_, rfl⟩ rfl rfl (.cons ⟨_, rfl⟩ rfl rfl (.cons ⟨_, rfl⟩ rfl rfl .nil)))))
    (case oL => decide)
    (case mO => k_is)
    (case lO => k_is)
    (case eO => exact .cons ⟨_, rfl⟩ rfl rfl (.cons ⟨_, rfl⟩ rfl rfl (.cons ⟨_, rfl⟩ rfl rfl (.cons ⟨_, rfl⟩ rfl rfl (.cons ⟨_, rfl⟩ rfl rfl (.cons ⟨_, rfl⟩ rfl rfl (.cons ⟨_, rfl⟩ rfl rfl (.cons ⟨_, rfl⟩ rfl rfl (.cons ⟨_, rfl⟩ rfl rfl .nil)))))))))
    (case oO => decide)
    (case t0 => (refine' My.ktup_mk ?l ?s ?v; (case l => k_is); (case s => decide); (case v => exact .cons rfl (.cons rfl (.nil)))))
    (case u0_0 => (refine' My.ktup_mk ?l ?s ?v; (case l => k_is); (case s => decide); (case v => exact .cons ⟨_, rfl⟩ (.cons ⟨_, rfl⟩ .nil))))
    (case u0_1 => (refine' My.ktup_mk ?l ?s ?v; (case l => k_is); (case s => decide); (case v => exact .cons ⟨_, rfl⟩ (.cons ⟨_, rfl⟩ .nil))))
    (case t1 => (refine' My.ktup_mk ?l ?s ?v; (case l => k_is); (case s => decide); (case v => exact .cons rfl (.nil))))
    (case u1_0 => (refine' My.ktup_mk ?l ?s ?v; (case l => k_is); (case s => decide); (case v => exact .cons ⟨_, rfl⟩ (.cons ⟨_, rfl⟩ .nil))))
    (case t2 => (refine' My.ktup_mk ?l ?s ?v; (case l => k_is); (case s => decide); (case v => exact .cons rfl (.nil))))
    (case u2_0 => (refine' My.ktup_mk ?l ?s ?v; (case l => k_is); (case s => decide); (case v => exact .cons ⟨_, rfl⟩ (.cons ⟨_, rfl⟩ .nil))))
    (case t3 => (refine' My.ktup_mk ?l ?s ?v; (case l => k_is); (case s => decide); (case v => exact .nil)))
    (case t4 => (refine' My.ktup_mk ?l ?s ?v; (case l => k_is); (case s => decide); (case v => exact .cons rfl (.cons rfl (.nil)))))
    (case u4_0 => (refine' My.ktup_mk ?l ?s ?v; (case l => k_is); (case s => decide); (case v => exact .cons ⟨_, rfl⟩ (.cons ⟨_, rfl⟩ .nil))))
    (case u4_1 => (refine' My.ktup_mk ?l ?s ?v; (case l => k_is); (case s => decide); (case v => exact .cons ⟨_, rfl⟩ (.cons ⟨_, rfl⟩ .nil))))
    (case t5 => (refine' My.ktup_mk ?l ?s ?v; (case l => k_is); (case s => decide); (case v => exact .cons rfl (.cons rfl (.cons rfl (.nil))))))
    (case u5_0 => (refine' My.ktup_mk ?l ?s ?v; (case l => k_is); (case s => decide); (case v => exact .cons ⟨_, rfl⟩ (.cons ⟨_, rfl⟩ .nil))))
    (case u5_1 => (refine' My.ktup_mk ?l ?s ?v; (case l => k_is); (case s => decide); (case v => exact .cons ⟨_, rfl⟩ (.cons ⟨_, rfl⟩ .nil))))
    (case u5_2 => (refine' My.ktup_mk ?l ?s ?v; (case l => k_is); (case s => decide); (case v => exact .cons ⟨_, rfl⟩ (.cons ⟨_, rfl⟩ .nil))))
    (case t6 => (refine' My.ktup_mk ?l ?s ?v; (case l => k_is); (case s => decide); (case v => exact .cons rfl (.nil))))
    (case u6_0 => (refine' My.ktup_mk ?l ?s ?v; (case l => k_is); (case s => decide); (case v => exact .cons ⟨_, rfl⟩ (.cons ⟨_, rfl⟩ .nil))))
    (case t7 => (refine' My.ktup_mk ?l ?s ?v; (case l => k_is); (case s => decide); (case v => exact .cons rfl (.cons rfl (.nil)))))
    (case u7_0 => (refine' My.ktup_mk ?l ?s ?v; (case l => k_is); (case s => decide); (case v => exact .cons ⟨_, rfl⟩ (.cons ⟨_, rfl⟩ .nil))))
    (case u7_1 => (refine' My.ktup_mk ?l ?s ?v; (case l => k_is); (case s => decide); (case v => exact .cons ⟨_, rfl⟩ (.cons ⟨_, rfl⟩ .nil))))
    (case t8 => (refine' My.ktup_mk ?l ?s ?v; (case l => k_is); (case s => decide); (case v => exact .cons rfl (.cons rfl (.nil)))))
    (case u8_0 => (refine' My.ktup_mk ?l ?s ?v; (case l => k_is); (case s => decide); (case v => exact .cons ⟨_, rfl⟩ (.cons ⟨_, rfl⟩ .nil))))
    (case u8_1 => (refine' My.ktup_mk ?l ?s ?v; (case l => k_is); (case s => decide); (case v => exact .cons ⟨_, rfl⟩ (.cons ⟨_, rfl⟩ .nil))))
    (case t9 => (refine' My.ktup_mk ?l ?s ?v; (case l => k_is); (case s => decide); (case v => exact .nil)))
    (case t10 => (refine' My.ktup_mk ?l ?s ?v; (case l => k_is); (case s => decide); (case v => exact .cons rfl (.nil))))
    (case u10_0 => (refine' My.ktup_mk ?l ?s ?v; (case l => k_is); (case s => decide); (case v => exact .cons ⟨_, rfl⟩ (.cons ⟨_, rfl⟩ .nil))))
    (case t11 => (refine' My.ktup_mk ?l ?s ?v; (case l => k_is); (case s => decide); (case v => exact .cons rfl (.nil))))
    (case u11_0 => (refine' My.ktup_mk ?l ?s ?v; (case l => k_is); (case s => decide); (case v => exact .cons ⟨_, rfl⟩ (.cons ⟨_, rfl⟩ .nil))))
    (case t12 => (refine' My.ktup_mk ?l ?s ?v; (case l => k_is); (case s => decide); (case v => exact .cons rfl (.nil))))
    (case u12_0 => (refine' My.ktup_mk ?l ?s ?v; (case l => k_is); (case s => decide); (case v => exact .cons ⟨_, rfl⟩ (.cons ⟨_, rfl⟩ .nil))))
    (case t13 => (refine' My.ktup_mk ?l ?s ?v; (case l => k_is); (case s => decide); (case v => exact .cons rfl (.nil))))
    (case u13_0 => (refine' My.ktup_mk ?l ?s ?v; (case l => k_is); (case s => decide); (case v => exact .cons ⟨_, rfl⟩ (.cons ⟨_, rfl⟩ .nil))))
    (case t14 => (refine' My.ktup_mk ?l ?s ?v; (case l => k_is); (case s => decide); (case v => exact .nil)))
    (case mK => k_is)
    (case tK => (refine' My.ktup_mk ?l ?s ?v; (case l => k_is); (case s => decide); (case v => exact .cons ⟨_, rfl⟩ (.cons ⟨_, rfl⟩ .nil))))
  case S =>
    intro K H xs a hO hwi hask hx
    cases hx with
    | cons h1 h2 =>
      cases h2
      cases h1 with
      | lst hs ha =>
        have e := L2.ints_dw a.1 _ ha
        subst e
        have q : ((Codec.inLen 0 16000 a.1 && a.1.all (Codec.inInt (-1000000000000000000) 1000000000000000000)) && true) = true := hwi
        rw [Bool.and_eq_true, Bool.and_eq_true] at q
        exact ⟨_, a.1, rfl, hs, (Codec.inNat_iff.mp q.1.1).2, hask, ⟨#[], hO, trivial, .inl rfl⟩, fun H' p hp => .lst (L2.SqL.of hp) (L2.dw_ints _)⟩
#print axioms PySem.Challenge.cw_energyturns_s01_answers_holds
