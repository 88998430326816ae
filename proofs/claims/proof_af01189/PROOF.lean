import PyProof.Rows.All
import Wide.All
import OpenK.AllK
import Wide.FinOn
import PyProof.EqAt
import PyProof.EqKinds
import PyProof.TupleCall
import KE.BitLaws
import Open.SpecLaws
import KE.OsHead
import KE.OsGo
import PySem.Challenge.RW_shareturns_s01_answers
set_option Elab.async false
set_option linter.all false
set_option maxRecDepth 100000
namespace L2
open PySem PySem.Spec PyProof.Rows
/-- a key: an int or a str -/
abbrev Key := Sum Int Str
def keyIs : Key → Value → Bool
  | .inl k, v => Value.isInt k v
  | .inr x, v => Value.isStrOf x v
def keyH (w : World) : Key → Int
  | .inl k => hashInt k
  | .inr x => hashStr w x
theorem keyIs_shape : ∀ {k : Key} {v : Value}, keyIs k v = true → (∃ i t, k = Sum.inl i ∧ v = Value.int i t) ∨ (∃ x t, k = Sum.inr x ∧ v = Value.str x t)
  | .inl i, v, h => by
    obtain ⟨t, e⟩ := Value.isInt_shape (k := i) (v := v) h
    exact .inl ⟨i, t, rfl, e⟩
  | .inr x, v, h => by
    obtain ⟨t, e⟩ := Value.isStrOf_shape (x := x) (v := v) h
    exact .inr ⟨x, t, rfl, e⟩
theorem keyIs_int (i : Int) (t : Tok) : keyIs (.inl i) (.int i t) = true := by simp [keyIs, Value.isInt]
theorem key_ll (a b : Int) : decide ((Sum.inl a : Key) = Sum.inl b) = (a == b) := by
  by_cases e : a = b
  · subst e; simp
  · have h : ¬ (Sum.inl a : Key) = Sum.inl b := fun q => e (Sum.inl.inj q)
    rw [decide_eq_false h]
    exact (beq_eq_false_iff_ne.mpr e).symm
theorem key_rr (a b : Str) : decide ((Sum.inr a : Key) = Sum.inr b) = decide (a = b) := by
  by_cases e : a = b
  · subst e; simp
  · have h : ¬ (Sum.inr a : Key) = Sum.inr b := fun q => e (Sum.inr.inj q)
    rw [decide_eq_false h, decide_eq_false e]
theorem key_lr (a : Int) (b : Str) : decide ((Sum.inl a : Key) = Sum.inr b) = false := decide_eq_false (fun q => nomatch q)
theorem key_rl (a : Str) (b : Int) : decide ((Sum.inr a : Key) = Sum.inl b) = false := decide_eq_false (fun q => nomatch q)
def mixKind (prog : Program) (w : World) : PySem.KeyKind prog w Key where
  is := keyIs
  hash := keyH w
  inj := fun v a b ha hb => by
    rcases keyIs_shape ha with ⟨i, t, rfl, rfl⟩ | ⟨x, t, rfl, rfl⟩
    · rcases keyIs_shape hb with ⟨j, u, rfl, e⟩ | ⟨y, u, rfl, e⟩
      · injection e with e1 _; rw [e1]
      · exact nomatch e
    · rcases keyIs_shape hb with ⟨j, u, rfl, e⟩ | ⟨y, u, rfl, e⟩
      · exact nomatch e
      · injection e with e1 _; rw [e1]
  byValue := fun k v h => by
    rcases keyIs_shape h with ⟨i, t, rfl, rfl⟩ | ⟨x, t, rfl, rfl⟩ <;> rfl
  pyHash := fun hv h => by
    rcases keyIs_shape hv with ⟨i, t, rfl, rfl⟩ | ⟨x, t, rfl, rfl⟩
    · exact wpAny_pyHash_int h
    · exact wpAny_pyHash_str h
  eqBool := fun hu hv h => by
    rcases keyIs_shape hu with ⟨i, t, rfl, rfl⟩ | ⟨x, t, rfl, rfl⟩
    · rcases keyIs_shape hv with ⟨j, u, rfl, rfl⟩ | ⟨y, u, rfl, rfl⟩
      · rw [key_ll] at h; exact wpAny_eqBool_int h
      · rw [key_lr] at h; exact SeqAt.EqAt.int_str i t y u _ _ _ _ h
    · rcases keyIs_shape hv with ⟨j, u, rfl, rfl⟩ | ⟨y, u, rfl, rfl⟩
      · rw [key_rl] at h; exact SeqAt.EqAt.str_int x t j u _ _ _ _ h
      · rw [key_rr] at h; exact wpAny_eqBool_str h
  «strs» := fun k x t v h => by
    rcases keyIs_shape h with ⟨i, u, rfl, e⟩ | ⟨y, u, rfl, e⟩
    · exact nomatch e
    · injection e with e1 _
      subst e1
      cases v <;> rfl
end L2
namespace L2
open PySem PySem.Spec PyProof.Rows
/-- a value, without the heap -/
inductive V where
  | non | bl (b : Bool) | int (i : Int) | str (x : Str) | byt (b : Array UInt8) | flt (b : UInt64) | ref (a : Addr) | ty (n : String)
  deriving DecidableEq
def RelV : V → Value → Prop
  | .non, u => u = Value.none
  | .bl b, u => u = Value.bool b
  | .int i, u => ∃ t, u = Value.int i t
  | .str x, u => ∃ t, u = Value.str x t
  | .byt b, u => ∃ t, u = Value.bytes b t
  | .flt b, u => ∃ t, u = Value.float b t
  | .ref a, u => u = Value.ref a
  | .ty n, u => u = Value.type n
abbrev Vals : List V → List Value → Prop := Paired RelV
theorem Vals.length {xs : List V} {us : List Value} (r : Vals xs us) : xs.length = us.length := Paired.length r
theorem Vals.get : ∀ {xs : List V} {us : List Value} {i : Nat} {x : V}, Vals xs us → xs[i]? = some x → ∃ u, us[i]? = some u ∧ RelV x u
  | _, _, _, _, .nil, e => by simp at e
  | _, _, 0, _, .cons r _, e => by simp at e; subst e; exact ⟨_, rfl, r⟩
  | _, _, i + 1, x, .cons _ t, e => by
    obtain ⟨u, h1, h2⟩ := Vals.get (i := i) (x := x) t (by simpa using e)
    exact ⟨u, by simpa using h1, h2⟩
theorem Vals.append : ∀ {xs ys : List V} {us ws : List Value}, Vals xs us → Vals ys ws → Vals (xs ++ ys) (us ++ ws)
  | _, _, _, _, .nil, s => s
  | _, _, _, _, .cons r t, s => .cons r (Vals.append t s)
theorem Vals.take : ∀ {xs : List V} {us : List Value} (n : Nat), Vals xs us → Vals (xs.take n) (us.take n)
  | _, _, 0, _ => .nil
  | _, _, _ + 1, .nil => .nil
  | _, _, n + 1, .cons r t => .cons r (Vals.take n t)
theorem Vals.drop : ∀ {xs : List V} {us : List Value} (n : Nat), Vals xs us → Vals (xs.drop n) (us.drop n)
  | _, _, 0, r => r
  | _, _, _ + 1, .nil => .nil
  | _, _, n + 1, .cons _ t => Vals.drop n t
def RelO : Option V → Option Value → Prop
  | some v, some u => RelV v u
  | none, none => True
  | _, _ => False
def KV {κ : Type} : List (κ × V) → List (κ × Value) → Prop := Paired fun (p : κ × V) (q : κ × Value) => p.1 = q.1 ∧ RelV p.2 q.2
/-- a key of a dict (00_mix): an int or a text -/
def kV : Key → V
  | .inl i => .int i
  | .inr x => .str x
/-- what stands at a tracked address -/
inductive HO where
  /-- a list -/
  | lst (xs : List V)
  /-- a tuple (never changes) -/
  | tup (xs : List V)
  /-- a dict whose keys are ints and texts; one whose keys are tuples of ints and texts (the empty one is both) -/
  | dK (kvs : List (Key × V)) | dT (kvs : List (List Key × V))
  /-- a set of ints: its members, its size -/
  | set (S : Int → Bool) (n : Nat)
  /-- an instance of the class at C, its dict at dx, its attributes -/
  | ins (C dx : Addr) (fs : List (Str × V))
  /-- the dict of the instance at x -/
  | own (x : Addr)
  /-- the dict of an exception -/
  | xd (fs : List (Str × V))
  /-- a bound method, f of x -/
  | met (f x : Addr)
  /-- a range object lo, lo + 1, .. below hi -/
  | rng (lo hi : Int)
  /-- a thing that is known to the object (the script; a dict while a loop walks it): read, never written while it is so -/
  | frz (o : Obj) (u : HO)
  /-- a code object's table -/
  | tbl (ps : Array Value)
  /-- any other thing, by what is true of its one object (a def of one's own: SetO a S n := HO.ext fun h => ..) -/
  | ext (φ : Heap → Prop)
abbrev Hp := Addr → Option HO
def upd (H : Hp) (a : Addr) (o : HO) : Hp := fun b => if b = a then some o else H b
theorem upd_same {H : Hp} {a : Addr} {o : HO} : upd H a o a = some o := by unfold upd; rw [if_pos rfl]
theorem upd_ne {H : Hp} {a b : Addr} {o : HO} (h : b ≠ a) : upd H a o b = H b := by unfold upd; rw [if_neg h]
theorem upd_upd {H : Hp} {a : Addr} {o u : HO} : upd (upd H a o) a u = upd H a u := by
  funext b; unfold upd; split <;> rfl
/-- two objects of different content stand apart -/
theorem ne_of {H : Hp} {a b : Addr} {o u : HO} (h : H a = some o) (h' : H b = some u) (d : o ≠ u) : a ≠ b := by
  intro e; subst e; rw [h] at h'; exact d (Option.some.inj h')
theorem ne_of_none {H : Hp} {a b : Addr} {o : HO} (h : H a = some o) (h' : H b = none) : a ≠ b := by
  intro e; subst e; rw [h] at h'; cases h'
section
variable (P : Program) (w : World)
def ObjOk (H : Hp) (h : Heap) (a : Addr) : HO → Prop
  | .lst xs => xs.length ≤ sizeLine ∧ ∃ (its : List Value) (n : Nat), Vals xs its ∧ h.get? a = some { cls := .type "list", data := .seq its.toArray n }
  | .tup xs => xs.length ≤ sizeLine ∧ ∃ its : List Value, Vals xs its ∧ IsTup h a its.toArray
  | .dK kvs => kvs.length ≤ sizeLine ∧ (a == sysModules) = false ∧ ∃ vs, KV kvs vs ∧ h.DictOf (mixKind P w) a vs
  | .dT kvs => kvs.length ≤ sizeLine ∧ (a == sysModules) = false ∧ ∃ xs : List (List Key × Addr × Value),
      Paired (fun (p : List Key × V) (q : List Key × Addr × Value) => p.1 = q.1 ∧ H q.2.1 = some (.tup (p.1.map kV)) ∧ RelV p.2 q.2.2) kvs xs ∧
      ∃ o es ep, h.get? a = some o ∧ o.ExactDict ∧ o.data = .dict es ep ∧ es.toList = xs.map (entryOfKey (tupleKind (mixKind P w))) ∧ (xs.map (·.1)).Nodup
  | .set S n => h.SetOf (intKind P w) a S n
  | .ins C dx fs => H dx = some (.own a) ∧ fs.length ≤ 1000 ∧ dx ≠ a ∧ h.get? a = some (PySem.W.instObj C dx) ∧
      ∃ mA, h.Ns1 dx mA ∧ (∀ f, RelO (fs.lookup f) (mA f)) ∧ PySem.Within mA (fs.map (·.1))
  | .own _ => ∃ o, h.get? a = some o
  | .xd fs => ∃ mA, h.Ns1 a mA ∧ ∀ f, RelO (fs.lookup f) (mA f)
  | .rng lo hi => ∃ t u v, h.get? a = some { cls := .type "range", data := .fields #[.int lo t, .int hi u, .int 1 v] }
  | .frz o u => h.get? a = some o ∧ ObjOk H h a u
  | .tbl ps => h.get? a = some { cls := .none, data := .fields ps }
  | .met f x => h.get? a = some (PySem.W.methodObj (.ref f) (.ref x))
  | .ext φ => φ h ∧ (∃ o, h.get? a = some o) ∧ ∀ h1 h2 : Heap, φ h1 → (∀ o, h1.get? a = some o → h2.get? a = some o) → φ h2
/-- the abstract heap is held -/
def HOk (H : Hp) (h : Heap) : Prop := ∀ a o, H a = some o → ObjOk P w H h a o
end
section
variable {P : Program} {w : World} {H H' : Hp} {h h' : Heap} {a : Addr} {o : HO}
theorem ObjOk.lt (x : ObjOk P w H h a o) : a < h.objs.size := by
  cases o with
  | lst xs => obtain ⟨_, _, _, _, e⟩ := x; exact Heap.lt_size e
  | tup xs => obtain ⟨_, _, _, p⟩ := x; exact p.lt
  | dK kvs => obtain ⟨_, _, _, _, o, _, _, e, _⟩ := x; exact Heap.lt_size e
  | dT kvs => obtain ⟨_, _, _, _, o, _, _, e, _⟩ := x; exact Heap.lt_size e
  | set S n => obtain ⟨o, _, _, _, e, _⟩ := x; exact Heap.lt_size e
  | ins C dx fs => obtain ⟨_, _, _, e, _⟩ := x; exact Heap.lt_size e
  | own y => obtain ⟨_, e⟩ := x; exact Heap.lt_size e
  | xd fs => obtain ⟨_, ⟨_, _, _, e, _⟩, _⟩ := x; exact Heap.lt_size e
  | rng lo hi => obtain ⟨_, _, _, e⟩ := x; exact Heap.lt_size e
  | frz ob u => obtain ⟨e, _⟩ := x; exact Heap.lt_size e
  | tbl ps => exact Heap.lt_size (show h.get? a = some _ from x)
  | met f y => exact Heap.lt_size (show h.get? a = some _ from x)
  | ext φ => obtain ⟨_, ⟨_, e⟩, _⟩ := x; exact Heap.lt_size e
theorem Paired.mapP {α β : Type} {F G : α → β → Prop} : ∀ {l₁ : List α} {l₂ : List β}, Paired F l₁ l₂ → (∀ a b, F a b → G a b) → Paired G l₁ l₂
  | _, _, .nil, _ => .nil
  | _, _, .cons r t, f => .cons (f _ _ r) (Paired.mapP t f)
/-- what an object's description leans on: its own object, its own dict, the tuples -/
theorem ObjOk.stay (x : ObjOk P w H h a o) (k : ∀ b u, (b = a ∨ H b = some (.own a)) → h.get? b = some u → h'.get? b = some u)
    (ho : ∀ b, H b = some (.own a) → H' b = some (.own a)) (ht : ∀ b xs, H b = some (.tup xs) → H' b = some (.tup xs)) : ObjOk P w H' h' a o := by
  induction o with
  | lst xs => obtain ⟨z, its, n, r, e⟩ := x; exact ⟨z, its, n, r, k _ _ (.inl rfl) e⟩
  | tup xs => obtain ⟨z, its, r, ob, e, c⟩ := x; exact ⟨z, its, r, ob, k _ _ (.inl rfl) e, c⟩
  | dK kvs => obtain ⟨z, y, vs, r, ob, es, ep, e, c⟩ := x; exact ⟨z, y, vs, r, ob, es, ep, k _ _ (.inl rfl) e, c⟩
  | dT kvs =>
    obtain ⟨z, y, xs, r, ob, es, ep, e, c⟩ := x
    exact ⟨z, y, xs, Paired.mapP r fun p q z => ⟨z.1, ht _ _ z.2.1, z.2.2⟩, ob, es, ep, k _ _ (.inl rfl) e, c⟩
  | set S n => obtain ⟨ob, es, ep, t, e, c⟩ := x; exact ⟨ob, es, ep, t, k _ _ (.inl rfl) e, c⟩
  | ins C dx fs =>
    obtain ⟨d, z, ne, e, mA, ⟨od, es, ep, e2, c⟩, r⟩ := x
    exact ⟨ho _ d, z, ne, k _ _ (.inl rfl) e, mA, ⟨od, es, ep, k _ _ (.inr d) e2, c⟩, r⟩
  | own y => obtain ⟨ob, e⟩ := x; exact ⟨ob, k _ _ (.inl rfl) e⟩
  | xd fs => obtain ⟨mA, ⟨od, es, ep, e, c⟩, r⟩ := x; exact ⟨mA, ⟨od, es, ep, k _ _ (.inl rfl) e, c⟩, r⟩
  | rng lo hi => obtain ⟨t, u, v, e⟩ := x; exact ⟨t, u, v, k _ _ (.inl rfl) e⟩
  | frz ob u ih => obtain ⟨e, q⟩ := x; exact ⟨k _ _ (.inl rfl) e, ih q⟩
  | tbl ps =>
    have e : h.get? a = some { cls := .none, data := .fields ps } := x
    show h'.get? a = some { cls := .none, data := .fields ps }
    exact k a _ (.inl rfl) e
  | met f y =>
    have e : h.get? a = some (PySem.W.methodObj (.ref f) (.ref y)) := x
    show h'.get? a = some (PySem.W.methodObj (.ref f) (.ref y))
    exact k a _ (.inl rfl) e
  | ext φ => obtain ⟨p, ⟨o, e⟩, st⟩ := x; exact ⟨st _ _ p fun o q => k _ _ (.inl rfl) q, ⟨o, k _ _ (.inl rfl) e⟩, st⟩
theorem HOk.lt (x : HOk P w H h) (e : H a = some o) : a < h.objs.size := (x a o e).lt
theorem HOk.fresh (x : HOk P w H h) (e : h.objs.size ≤ a) : H a = none := by
  cases q : H a with
  | none => rfl
  | some u => exact absurd (Nat.lt_of_lt_of_le (x.lt q) e) (Nat.lt_irrefl _)
/-- every object of the heap is kept -/
theorem HOk.kept (x : HOk P w H h) (k : ∀ b u, h.get? b = some u → h'.get? b = some u) : HOk P w H h' := fun a o e =>
  (x a o e).stay (fun b u _ q => k b u q) (fun _ q => q) fun _ _ q => q
/-- a new object is laid and tracked -/
theorem HOk.laid (x : HOk P w H h) (k : ∀ b u, h.get? b = some u → h'.get? b = some u) (hp : h.objs.size ≤ a) (new : ObjOk P w (upd H a o) h' a o) : HOk P w (upd H a o) h' := fun b u e => by
  have hn := x.fresh hp
  by_cases hb : b = a
  · subst hb; rw [upd_same] at e; cases e; exact new
  · rw [upd_ne hb] at e
    exact (x b u e).stay (fun c v _ q => k c v q) (fun c q => by rw [upd_ne (ne_of_none q hn)]; exact q) fun c xs q => by rw [upd_ne (ne_of_none q hn)]; exact q
end
/-- what may be read as u: it is u, or a known u -/
def Rd (H : Hp) (a : Addr) (u : HO) : Prop := H a = some u ∨ ∃ o, H a = some (.frz o u)
theorem Rd.ok {P : Program} {w : World} {H : Hp} {h : Heap} {a : Addr} {u : HO} (r : Rd H a u) (x : HOk P w H h) : ObjOk P w H h a u := by
  rcases r with r | ⟨o, r⟩
  · exact x a u r
  · obtain ⟨_, q⟩ := x a _ r
    exact q
/-- what may be written -/
def Mut : Option HO → Prop
  | some (.lst _) => True
  | some (.dK _) => True
  | some (.dT _) => True
  | some (.set _ _) => True
  | some (.ins _ _ _) => True
  | some (.ext _) => True
  | _ => False
section
variable {P : Program} {w : World} {H : Hp} {h h' : Heap} {x e : Addr} {o' : HO}
/-- the object at e is changed: x itself, or the dict of the instance x -/
theorem HOk.write (ok : HOk P w H h) (mu : Mut (H x)) (he : e = x ∨ H e = some (.own x)) (k : ∀ b u, b ≠ e → h.get? b = some u → h'.get? b = some u) (heo : ∃ u, h'.get? e = some u)
    (new : ObjOk P w (upd H x o') h' x o') : HOk P w (upd H x o') h' := fun b u q => by
  have nown : ∀ c y, H c = some (.own y) → c ≠ x := fun c y r z => by subst z; rw [r] at mu; exact mu
  have ntup : ∀ c xs, H c = some (.tup xs) → c ≠ x := fun c xs r z => by subst z; rw [r] at mu; exact mu
  by_cases hb : b = x
  · subst hb; rw [upd_same] at q; cases q; exact new
  · rw [upd_ne hb] at q
    by_cases hbe : b = e
    · have q' : H b = some (.own x) := by
        rcases he with z | z
        · exact absurd (hbe.trans z) hb
        · rw [hbe]; exact z
      rw [q] at q'; cases q'
      obtain ⟨v, hv⟩ := heo
      exact ⟨v, by rw [hbe]; exact hv⟩
    · refine (ok b u q).stay (fun c v hc r => k c v ?_ r) (fun c r => by rw [upd_ne (nown c b r)]; exact r) fun c xs r => by rw [upd_ne (ntup c xs r)]; exact r
      rcases hc with rfl | hc
      · exact hbe
      · rintro rfl
        rcases he with z | z
        · exact nown c b hc z
        · rw [hc] at z; cases z; exact hb rfl
end
structure Un (fs ex : List Addr) (H H' : Hp) (h h' : Heap) : Prop where
  keep : ∀ b o, h.get? b = some o → H b = none → b ∉ fs → b ∉ ex → h'.get? b = some o
  slot : ∀ b o, h.get? b = some o → H b = none → b ∈ fs → b ∉ ex → ∃ sl, h'.get? b = some { o with slots := sl }
  free : ∀ b o, h.get? b = some o → H b = none → b ∉ ex → H' b = none
  there : ∀ b o, h.get? b = some o → b ∉ ex → ∃ o', h'.get? b = some o'
  tups : ∀ b xs, H b = some (.tup xs) → H' b = some (.tup xs)
  frzs : ∀ b o u, H b = some (.frz o u) → H' b = some (.frz o u)
  tbls : ∀ b ps, H b = some (.tbl ps) → ∃ more, H' b = some (.tbl (ps ++ more))
section
variable {fs fs' ex ex' : List Addr} {H H1 H2 : Hp} {h h1 h2 h' : Heap} {a x e : Addr} {o : HO}
theorem Un.any (u : Un fs ex H H1 h h1) {b : Addr} {ob : Obj} (q : h.get? b = some ob) (n : H b = none) (hx : b ∉ ex) : ∃ sl, h1.get? b = some { ob with slots := sl } := by
  by_cases hb : b ∈ fs
  · exact u.slot b ob q n hb hx
  · exact ⟨ob.slots, u.keep b ob q n hb hx⟩
theorem Un.kept (k : ∀ b u, h.get? b = some u → h'.get? b = some u) : Un fs ex H H h h' :=
  ⟨fun b ob q _ _ _ => k b ob q, fun b ob q _ _ _ => ⟨ob.slots, k b ob q⟩, fun _ _ _ n _ => n, fun b ob q _ => ⟨ob, k b ob q⟩, fun _ _ q => q, fun _ _ _ q => q, fun _ ps q => ⟨#[], by rw [q]; simp⟩⟩
theorem Un.refl : Un fs ex H H h h := Un.kept fun _ _ q => q
theorem Un.laid (k : ∀ b u, h.get? b = some u → h'.get? b = some u) (hp : h.objs.size ≤ a) (hn : H a = none) : Un fs ex H (upd H a o) h h' where
  keep := fun b u q _ _ _ => k b u q
  slot := fun b u q _ _ _ => ⟨u.slots, k b u q⟩
  free := fun b u q n _ => by rw [upd_ne (Nat.ne_of_lt (Nat.lt_of_lt_of_le (Heap.lt_size q) hp))]; exact n
  there := fun b u q _ => ⟨u, k b u q⟩
  tups := fun b xs q => by rw [upd_ne (ne_of_none q hn)]; exact q
  frzs := fun b u xs q => by rw [upd_ne (ne_of_none q hn)]; exact q
  tbls := fun b ps q => ⟨#[], by rw [upd_ne (ne_of_none q hn), q]; simp⟩
theorem Un.write (mu : Mut (H x)) (he : e = x ∨ H e = some (.own x)) (k : ∀ b u, b ≠ e → h.get? b = some u → h'.get? b = some u) (heo : ∃ u, h'.get? e = some u) : Un fs ex H (upd H x o) h h' := by
  have hx : ∀ b, H b = none → b ≠ x := fun b n z => by subst z; rw [n] at mu; exact mu
  have hb : ∀ b, H b = none → b ≠ e := fun b n z => by
    subst z
    rcases he with r | r
    · exact hx b n r
    · rw [n] at r; cases r
  have hm : ∀ b u, H b = some u → ¬ Mut (some u) → b ≠ x := fun b u q nm z => by subst z; rw [q] at mu; exact nm mu
  refine ⟨fun b u q n _ _ => k b u (hb b n) q, fun b u q n _ _ => ⟨u.slots, k b u (hb b n) q⟩, fun b u q n _ => by rw [upd_ne (hx b n)]; exact n, fun b u q _ => ?_,
    fun b xs q => by rw [upd_ne (hm b _ q fun z => z)]; exact q, fun b u xs q => by rw [upd_ne (hm b _ q fun z => z)]; exact q, fun b ps q => ⟨#[], by rw [upd_ne (hm b _ q fun z => z), q]; simp⟩⟩
  by_cases hbe : b = e
  · subst hbe; exact heo
  · exact ⟨u, k b u hbe q⟩
end
def trk (h : Heap) (H : Hp) : List Addr := (List.range h.objs.size).filter fun a => (H a).isSome
def hidT (h : Heap) (H : Hp) : Heap := PySem.W.hideAll h (trk h H)
theorem hidT_size (h : Heap) (H : Hp) : (hidT h H).objs.size = h.objs.size := PySem.W.hideAll_size _ _
theorem hidT_get {h : Heap} {H : Hp} {b : Addr} {o : Obj} (e : h.get? b = some o) (n : H b = none) : (hidT h H).get? b = some o :=
  PySem.W.hideAll_get _ e fun hm => by
    have q : (H b).isSome = true := (List.mem_filter.mp hm).2
    rw [n] at q; simp at q
theorem of_hidT {h : Heap} {H : Hp} {b : Addr} {o : Obj} (e : (hidT h H).get? b = some o) : h.get? b = some o ∧ H b = none := by
  have e' : h.get? b = some o := PySem.W.of_hideAll (trk h H) e
  refine ⟨e', ?_⟩
  cases q : H b with
  | none => rfl
  | some x =>
    have hm : b ∈ trk h H := List.mem_filter.mpr ⟨List.mem_range.mpr (Heap.lt_size e'), by simp [q]⟩
    have z : (hidT h H).get? b = none := PySem.W.hideAll_none (trk h H) hm
    rw [z] at e; cases e
end L2
namespace L2
open PySem PySem.Spec PyProof.Rows
/-- the module's facts, over the base: the heap at the law's entry without what is tracked there -/
structure Mod (K : PySem.W.Frag) (mg : Str → Option Value) (base : Heap) : Prop where
  kin : K.In base
  glob : base.Ns mainGlobals mg
  blt : ∃ mb, base.Ns builtinsNs mb ∧ ∀ x : Str, x ≠ "__name__" → mb x = bootBuiltins x
  nolimit : base.NoLimit
/-- the context: a def's body (or a comprehension's block) running. base: fixed through the whole law; s₀, H₀: the entry; outer: the frames whose slots others may change (a def's callers); stack: all frames that run;
   ex: iterators that were made ahead of the entry and are walked here (a comprehension's); fn: the names whose cells were made at the entry (a def: all; a comprehension's block: its own); calm: not within an except suite; pn: pins that every state bears; xe: what is wanted of an exception that leaves the code -/
structure Cx where
  prog : Program
  w : World
  K : PySem.W.Frag
  mg : Str → Option Value
  base : Heap
  A : Around
  N : List Str
  s_0 : Shared
  H_0 : Hp
  env : Env
  outer : List Env
  stack : List Env
  ex : List Addr
  fn : Str → Bool
  calm : Bool
  pn : List (Addr × Obj)
  xe : Value → Shared → Prop
/-- the callers' frames -/
def frs (l : List Env) : List Addr := l.filterMap (·.frame)
abbrev Cx.fs (X : Cx) : List Addr := frs X.outer
def Vis (sc : Scope) (x : Str) : Prop := sc.names.lookup x = some .local ∨ sc.names.lookup x = some .cell ∨ sc.names.lookup x = some .free
def Loc (sc : Scope) (x : Str) : Prop := sc.names.lookup x = some .local ∨ sc.names.lookup x = some .cell
def Look (env : Env) (h : Heap) (m : Str → Option Value) (x : Str) (u : Value) : Prop :=
  (env.kindOf x = some .local ∧ m x = some u) ∨ ((env.kindOf x = some .cell ∨ env.kindOf x = some .free) ∧ ∃ c, env.cells.lookup x = some c ∧ h.IsCell c (some u))
structure Cx.Ok (X : Cx) : Prop where
  mod : Mod X.K X.mg X.base
  kind : X.env.scope.kind = .function
  glob : X.env.globals = mainGlobals
  blt : X.env.builtins = builtinsNs
  above : X.s_0.heap.objs.size ≤ X.env.locals
  inj : ∀ x y c, X.env.cells.lookup x = some c → X.env.cells.lookup y = some c → x = y
  has : ∀ x, (X.env.kindOf x = some .cell ∨ X.env.kindOf x = some .free) → ∃ c, X.env.cells.lookup x = some c
  cab : ∀ x c, X.fn x = true → X.env.cells.lookup x = some c → X.s_0.heap.objs.size ≤ c
  hd : X.calm = true → X.A.handled = none
  frames : X.A.frames = some X.stack
  stk : X.stack = X.outer ∨ (X.stack = X.env :: X.outer ∧ X.env.frame = some X.env.locals)
  exf : ∀ b ∈ X.ex, b ≠ X.env.locals ∧ ∀ x c, X.env.cells.lookup x = some c → c ≠ b
  bs : ∀ b o, X.base.get? b = some o → X.s_0.heap.get? b = some o ∧ X.H_0 b = none
  bsz : X.base.objs.size ≤ X.s_0.heap.objs.size
  noex : ∀ b o, X.base.get? b = some o → b ∉ X.ex
  exfs : ∀ b ∈ X.ex, b ∉ X.fs
  funs : X.s_0.heap.FunFrames X.base X.outer
  frf : ∀ b ∈ X.fs, X.H_0 b = none
structure Inv (X : Cx) (pins : List (Addr × Obj)) (σ : List (Option V)) (H : Hp) (s : Shared) : Prop where
  ok : X.Ok
  os : s.os = X.s_0.os
  bare : AllBare s.gens
  base : Un X.fs X.ex X.H_0 H X.s_0.heap s.heap
  loc : ∃ m, s.heap.Ns X.env.locals m ∧ ∀ (i : Nat) (x : Str) (v : V), X.N[i]? = some x → σ[i]? = some (some v) → Vis X.env.scope x → ∃ u, RelV v u ∧ Look X.env s.heap m x u
  cell : ∀ x c, X.env.cells.lookup x = some c → ∃ v, s.heap.IsCell c v
  free : H X.env.locals = none
  freeC : ∀ x c, X.env.cells.lookup x = some c → H c = none
  pin : ∀ p ∈ X.pn ++ pins, s.heap.get? p.1 = some p.2 ∧ H p.1 = none ∧ p.1 ≠ X.env.locals ∧ p.1 ∉ X.fs ∧ ∀ v, p.2.data ≠ .cell v
  hok : HOk X.prog X.w H s.heap
  len : σ.length = X.N.length
section
variable {X : Cx} {pins : List (Addr × Obj)} {σ : List (Option V)} {H H' : Hp} {s : Shared} {h' : Heap}
theorem Cx.Ok.nofr (ok : X.Ok) {b : Addr} {o : Obj} (e : X.base.get? b = some o) : b ∉ X.fs := fun hb => by
  have := (ok.funs.mem hb).1
  rw [e] at this; cases this
theorem Inv.bs (I : Inv X pins σ H s) : ∀ b o, X.base.get? b = some o → s.heap.get? b = some o ∧ H b = none := fun b o e =>
  ⟨I.base.keep b o (I.ok.bs b o e).1 (I.ok.bs b o e).2 (I.ok.nofr e) (I.ok.noex b o e), I.base.free b o (I.ok.bs b o e).1 (I.ok.bs b o e).2 (I.ok.noex b o e)⟩
theorem Inv.bk (I : Inv X pins σ H s) : ∀ b o, X.base.get? b = some o → s.heap.get? b = some o := fun b o e => (I.bs b o e).1
theorem Inv.mod (I : Inv X pins σ H s) : Mod X.K X.mg X.base := I.ok.mod
theorem Inv.kIn (I : Inv X pins σ H s) : X.K.In s.heap := I.ok.mod.kin.keeps I.bk
theorem Inv.lt (I : Inv X pins σ H s) : X.env.locals < s.heap.objs.size := let ⟨_, hn, _⟩ := I.loc; hn.lt
theorem Inv.sz (I : Inv X pins σ H s) : X.s_0.heap.objs.size ≤ s.heap.objs.size := Nat.le_trans I.ok.above (Nat.le_of_lt I.lt)
theorem Inv.nofs (I : Inv X pins σ H s) {a : Addr} (h : s.heap.objs.size ≤ a) : a ∉ X.fs := fun hb => by
  obtain ⟨_, o, ho, _⟩ := I.ok.funs.mem hb
  exact absurd (Nat.lt_of_lt_of_le (Heap.lt_size ho) (Nat.le_trans I.sz h)) (Nat.lt_irrefl _)
theorem Inv.cne (I : Inv X pins σ H s) : ∀ x c, X.env.cells.lookup x = some c → c ≠ X.env.locals := fun x c e z => by
  obtain ⟨v, o, ho, hd⟩ := I.cell x c e
  obtain ⟨m, ⟨o', es, ep, ho', hd', _⟩, _⟩ := I.loc
  rw [z, ho'] at ho; cases ho; rw [hd'] at hd; cases hd
theorem Inv.funs (I : Inv X pins σ H s) : s.heap.FunFrames X.base X.outer := by
  have all : ∀ (l : List Env), (∀ b ∈ frs l, b ∈ X.fs) → X.s_0.heap.FunFrames X.base l → s.heap.FunFrames X.base l := by
    intro l
    induction l with
    | nil => intro _ _; trivial
    | cons env r ih =>
      intro hs hl
      obtain ⟨hk, ⟨L, o, hf, hn, ho, hd⟩, hr⟩ := hl
      have hL : L ∈ X.fs := hs L (by unfold frs; rw [List.filterMap_cons, hf]; exact List.mem_cons_self)
      obtain ⟨sl, e⟩ := I.base.slot L o ho (I.ok.frf L hL) hL fun z => I.ok.exfs L z hL
      exact ⟨hk, ⟨L, _, hf, hn, e, hd⟩, ih (fun b hb => hs b (by unfold frs; rw [List.filterMap_cons, hf]; exact List.mem_cons_of_mem _ hb)) hr⟩
  exact all X.outer (fun _ hb => hb) I.ok.funs
/-- the frames that run, for a call -/
theorem Inv.stack (I : Inv X pins σ H s) : s.heap.FunFrames X.base X.stack := by
  rcases I.ok.stk with e | ⟨e, hf⟩
  · rw [e]; exact I.funs
  · rw [e]
    obtain ⟨m, hn, _⟩ := I.loc
    refine .cons (by rw [I.ok.kind]; decide) hf hn ?_ I.funs
    exact Heap.get?_none_of_le (Nat.le_trans I.ok.bsz I.ok.above)
theorem Inv.stkSub (I : Inv X pins σ H s) : ∀ b ∈ frs X.stack, b ∈ X.env.locals :: X.fs := fun b hb => by
  rcases I.ok.stk with e | ⟨e, hf⟩
  · rw [e] at hb; exact List.mem_cons_of_mem _ hb
  · rw [e] at hb
    unfold frs at hb
    rw [List.filterMap_cons, hf] at hb
    exact hb
theorem Inv.stkFree (I : Inv X pins σ H s) : ∀ b ∈ frs X.stack, H b = none := fun b hb => by
  rcases List.mem_cons.mp (I.stkSub b hb) with e | hb
  · rw [e]; exact I.free
  · obtain ⟨_, o, ho, _⟩ := I.ok.funs.mem hb
    exact I.base.free b o ho (I.ok.frf b hb) fun z => I.ok.exfs b z hb
/-- THE STEP: the untracked objects but the frame and the records at ch are kept (the callers' frames up to slots), the frame's map is kept, the new abstract heap is held -/
theorem Inv.step {g' : Array GenState} {t' : Nat} {d' : Drawn} {ch : List Addr} (I : Inv X pins σ H s)
    (hch : ∀ b ∈ ch, (b ∈ X.ex ∨ X.s_0.heap.objs.size ≤ b) ∧ b ≠ X.env.locals ∧ (∀ x c, X.env.cells.lookup x = some c → c ≠ b) ∧ ∀ p ∈ X.pn ++ pins, p.1 ≠ b)
    (keep : ∀ b o, b ≠ X.env.locals → b ∉ X.fs → b ∉ ch → s.heap.get? b = some o → H b = none → h'.get? b = some o)
    (slot : ∀ b o, b ≠ X.env.locals → b ∈ X.fs → b ∉ ch → s.heap.get? b = some o → H b = none → ∃ sl, h'.get? b = some { o with slots := sl }) (free : ∀ b o, b ∉ ch → s.heap.get? b = some o → H b = none → H' b = none)
    (there : ∀ b o, b ∉ ch → s.heap.get? b = some o → ∃ o', h'.get? b = some o')
    (tups : ∀ b xs, H b = some (.tup xs) → H' b = some (.tup xs)) (frzs : ∀ b o u, H b = some (.frz o u) → H' b = some (.frz o u)) (tbls : ∀ b ps, H b = some (.tbl ps) → ∃ more, H' b = some (.tbl (ps ++ more)))
    (ns : ∀ m, s.heap.Ns X.env.locals m → h'.Ns X.env.locals m) (hok : HOk X.prog X.w H' h') (hg : AllBare g') :
    Inv X pins σ H' { s with heap := h', gens := g', drawn := d', toks := t' } := by
  have neL : ∀ b o, X.s_0.heap.get? b = some o → b ≠ X.env.locals := fun b o e => Nat.ne_of_lt (Nat.lt_of_lt_of_le (Heap.lt_size e) I.ok.above)
  have neC : ∀ b o, X.s_0.heap.get? b = some o → b ∉ X.ex → b ∉ ch := fun b o e hx hb => by
    rcases (hch b hb).1 with z | z
    · exact hx z
    · exact absurd (Nat.lt_of_lt_of_le (Heap.lt_size e) z) (Nat.lt_irrefl _)
  have cellK : ∀ x c, X.env.cells.lookup x = some c → ∀ v, s.heap.IsCell c v → h'.IsCell c v := fun x c e v ⟨o, ho, hd⟩ => by
    have nch : c ∉ ch := fun z => (hch c z).2.2.1 x c e rfl
    by_cases hc : c ∈ X.fs
    · obtain ⟨sl, q⟩ := slot c o (I.cne x c e) hc nch ho (I.freeC x c e)
      exact ⟨_, q, hd⟩
    · exact ⟨o, keep c o (I.cne x c e) hc nch ho (I.freeC x c e), hd⟩
  refine ⟨I.ok, I.os, hg, ⟨fun b o e n hb hx => ?_, fun b o e n hb hx => ?_, fun b o e n hx => ?_, fun b o e hx => ?_, fun b xs e => tups b xs (I.base.tups b xs e), fun b o xs e => frzs b o xs (I.base.frzs b o xs e), fun b ps e => ?_⟩, ?_, fun x c e => ?_, ?_, fun x c e => ?_, fun p hp => ?_, hok, I.len⟩
  · exact keep b o (neL b o e) hb (neC b o e hx) (I.base.keep b o e n hb hx) (I.base.free b o e n hx)
  · obtain ⟨sl, e1⟩ := I.base.slot b o e n hb hx
    obtain ⟨sl', e2⟩ := slot b _ (neL b o e) hb (neC b o e hx) e1 (I.base.free b o e n hx)
    exact ⟨sl', e2⟩
  · obtain ⟨o', e1⟩ := I.base.there b o e hx
    exact free b o' (neC b o e hx) e1 (I.base.free b o e n hx)
  · obtain ⟨o', e1⟩ := I.base.there b o e hx
    exact there b o' (neC b o e hx) e1
  · obtain ⟨m1, e1⟩ := I.base.tbls b ps e
    obtain ⟨m2, e2⟩ := tbls b _ e1
    exact ⟨m1 ++ m2, by rw [e2, Array.append_assoc]⟩
  · obtain ⟨m, hn, hl⟩ := I.loc
    refine ⟨m, ns m hn, fun i x v e1 e2 e3 => ?_⟩
    obtain ⟨u, r, l⟩ := hl i x v e1 e2 e3
    refine ⟨u, r, ?_⟩
    rcases l with l | ⟨k, c, e, z⟩
    · exact .inl l
    · exact .inr ⟨k, c, e, cellK x c e _ z⟩
  · obtain ⟨v, z⟩ := I.cell x c e
    exact ⟨v, cellK x c e v z⟩
  · obtain ⟨m, ⟨o, _, _, ho, _⟩, _⟩ := I.loc
    exact free _ o (fun z => (hch _ z).2.1 rfl) ho I.free
  · obtain ⟨v, o, ho, hd⟩ := I.cell x c e
    exact free c o (fun z => (hch c z).2.2.1 x c e rfl) ho (I.freeC x c e)
  · obtain ⟨e, n, ne, nf, d⟩ := I.pin p hp
    have nch : p.1 ∉ ch := fun z => (hch p.1 z).2.2.2 p hp rfl
    exact ⟨keep p.1 p.2 ne nf nch e n, free p.1 p.2 nch e n, ne, nf, d⟩
/-- .. where the frame's own object is kept too -/
theorem Inv.un {t' : Nat} (I : Inv X pins σ H s) (u : Un X.fs [] H H' s.heap h') (hok : HOk X.prog X.w H' h') : Inv X pins σ H' { s with heap := h', toks := t' } := by
  obtain ⟨m, ⟨o, es, ep, ho, r⟩, _⟩ := id I.loc
  obtain ⟨sl, hL⟩ := u.any ho I.free (by simp)
  exact I.step (g' := s.gens) (d' := s.drawn) (ch := []) (fun _ z => nomatch z) (fun b o _ hb _ e n => u.keep b o e n hb (by simp)) (fun b o _ hb _ e n => u.slot b o e n hb (by simp)) (fun b o _ e n => u.free b o e n (by simp)) (fun b o _ e => u.there b o e (by simp)) u.tups u.frzs u.tbls (fun m' hm => by
    obtain ⟨o', es', ep', ho', r'⟩ := hm
    rw [ho] at ho'; cases ho'
    exact ⟨_, es', ep', hL, r'⟩) hok I.bare
/-- behind a call (or a comprehension's block): the slots of this frame may have changed too, the records at ch may have turned -/
theorem Inv.call {g' : Array GenState} {t' : Nat} {d' : Drawn} {ch : List Addr} (I : Inv X pins σ H s) (u : Un (frs X.stack) ch H H' s.heap h') (hok : HOk X.prog X.w H' h') (hg : AllBare g')
    (hch : ∀ b ∈ ch, (b ∈ X.ex ∨ X.s_0.heap.objs.size ≤ b) ∧ b ≠ X.env.locals ∧ (∀ x c, X.env.cells.lookup x = some c → c ≠ b) ∧ ∀ p ∈ X.pn ++ pins, p.1 ≠ b) :
    Inv X pins σ H' { s with heap := h', gens := g', drawn := d', toks := t' } := by
  obtain ⟨m, ⟨o, es, ep, ho, r⟩, _⟩ := id I.loc
  obtain ⟨sl, hL⟩ := u.any ho I.free fun z => (hch _ z).2.1 rfl
  exact I.step (ch := ch) hch (fun b o hL hb hc e n => u.keep b o e n (fun z => (List.mem_cons.mp (I.stkSub b z)).elim hL hb) hc) (fun b o _ _ hc e n => u.any e n hc) (fun b o hc e n => u.free b o e n hc) (fun b o hc e => u.there b o e hc) u.tups u.frzs u.tbls (fun m' hm => by
    obtain ⟨o', es', ep', ho', r'⟩ := hm
    rw [ho] at ho'; cases ho'
    exact ⟨_, es', ep', hL, r'⟩) hok hg
/-- an untracked record of ours (an iterator) has turned -/
theorem Inv.turned {t' : Nat} {it : Addr} (I : Inv X pins σ H s) (k : ∀ b o, b ≠ it → s.heap.get? b = some o → h'.get? b = some o) (hn : H it = none) (hL : it ≠ X.env.locals)
    (h1 : it ∈ X.ex ∨ X.s_0.heap.objs.size ≤ it) (h2 : ∀ x c, X.env.cells.lookup x = some c → c ≠ it) (h3 : ∀ p ∈ X.pn ++ pins, p.1 ≠ it) : Inv X pins σ H { s with heap := h', toks := t' } := by
  have nit : ∀ b u, H b = some u → b ≠ it := fun b u e z => by rw [z, hn] at e; cases e
  refine I.step (g' := s.gens) (d' := s.drawn) (ch := [it]) (fun b hb => ?_) (fun b o _ _ hc e _ => k b o (fun z => hc (by simp [z])) e) (fun b o _ _ hc e _ => ⟨o.slots, k b o (fun z => hc (by simp [z])) e⟩) (fun _ _ _ _ n => n)
    (fun b o hc e => ⟨o, k b o (fun z => hc (by simp [z])) e⟩) (fun _ _ e => e) (fun _ _ _ e => e) (fun b ps e => ⟨#[], by rw [e]; simp⟩) (fun m hm => ?_) (fun b u e => ?_) I.bare
  · have e : b = it := by simpa using hb
    subst e
    exact ⟨h1, hL, h2, h3⟩
  · obtain ⟨o, es, ep, ho, r⟩ := hm
    exact ⟨o, es, ep, k _ o (Ne.symm hL) ho, r⟩
  · refine (I.hok b u e).stay (fun c v hc q => k c v ?_ q) (fun _ q => q) fun _ _ q => q
    rcases hc with z | z
    · rw [z]; exact nit b u e
    · exact nit c _ z
theorem Inv.tok (I : Inv X pins σ H s) (t : Nat) : Inv X pins σ H { s with toks := t } := I.un (h' := s.heap) (t' := t) Un.refl I.hok
/-- all objects kept -/
theorem Inv.kept {t' : Nat} (I : Inv X pins σ H s) (k : ∀ b u, s.heap.get? b = some u → h'.get? b = some u) : Inv X pins σ H { s with heap := h', toks := t' } := I.un (Un.kept k) (I.hok.kept k)
/-- a new object laid and tracked -/
theorem Inv.laid {a : Addr} {o : HO} {t' : Nat} (I : Inv X pins σ H s) (k : ∀ b u, s.heap.get? b = some u → h'.get? b = some u) (hp : s.heap.objs.size ≤ a) (new : ObjOk X.prog X.w (upd H a o) h' a o) :
    Inv X pins σ (upd H a o) { s with heap := h', toks := t' } := I.un (Un.laid k hp (I.hok.fresh hp)) (I.hok.laid k hp new)
/-- an object written -/
theorem Inv.write {x e : Addr} {o : HO} {t' : Nat} (I : Inv X pins σ H s) (mu : Mut (H x)) (he : e = x ∨ H e = some (.own x)) (k : ∀ b u, b ≠ e → s.heap.get? b = some u → h'.get? b = some u) (heo : ∃ u, h'.get? e = some u)
    (new : ObjOk X.prog X.w (upd H x o) h' x o) : Inv X pins σ (upd H x o) { s with heap := h', toks := t' } := I.un (Un.write mu he k heo) (I.hok.write mu he k heo new)
/-- forgetting slots, pins -/
theorem Inv.weak {σ' : List (Option V)} (I : Inv X pins σ H s) (hl : σ'.length = σ.length) (w : ∀ (i : Nat) v, σ'[i]? = some (some v) → σ[i]? = some (some v)) : Inv X pins σ' H s :=
  ⟨I.ok, I.os, I.bare, I.base, let ⟨m, hn, hl'⟩ := I.loc; ⟨m, hn, fun i x v e1 e2 e3 => hl' i x v e1 (w i v e2) e3⟩, I.cell, I.free, I.freeC, I.pin, I.hok, hl.trans I.len⟩
theorem Inv.pins_of {pins' : List (Addr × Obj)} (I : Inv X pins σ H s) (h : ∀ p ∈ pins', s.heap.get? p.1 = some p.2 ∧ H p.1 = none ∧ p.1 ≠ X.env.locals ∧ p.1 ∉ X.fs ∧ ∀ v, p.2.data ≠ .cell v) : Inv X pins' σ H s :=
  ⟨I.ok, I.os, I.bare, I.base, I.loc, I.cell, I.free, I.freeC, fun p hp => (List.mem_append.mp hp).elim (fun z => I.pin p (List.mem_append_left _ z)) (h p), I.hok, I.len⟩
theorem nodup_ix {N : List Str} (hN : N.Nodup) {i j : Nat} {x : Str} (a : N[i]? = some x) (b : N[j]? = some x) : i = j := by
  obtain ⟨h1, e1⟩ := List.getElem?_eq_some_iff.mp a
  obtain ⟨h2, e2⟩ := List.getElem?_eq_some_iff.mp b
  exact (List.getElem_inj hN).mp (e1.trans e2.symm)
/-- a name is stored; what changed -/
theorem store_ok2 {M : Model} {A : Around} {E : Value → Shared → Prop} {i : Nat} {x : Str} {v : V} {u : Value} {Q : Unit → Shared → Prop} (I : Inv X pins σ H s) (hN : X.N.Nodup) (hi : X.N[i]? = some x) (hx : Loc X.env.scope x) (r : RelV v u)
    (h : ∀ s', Inv X pins (σ.set i (some v)) H s' → (∃ a, Heap.SameBut a s.heap s'.heap ∧ (a = X.env.locals ∨ X.env.cells.lookup x = some a)) → Q () s') (hf : X.fn x = true ∨ X.env.scope.names.lookup x = some .local := by first | exact .inl rfl | exact .inr rfl | assumption) : wpAny M A (storeName X.env x u) Q E s := by
  obtain ⟨m, hn, hl⟩ := id I.loc
  have hcls : (X.env.scope.kind == .class || (X.env.scope.kind == .module && X.env.locals != X.env.globals)) = false := by rw [I.ok.kind]; rfl
  have hiσ : i < σ.length := by rw [I.len]; exact (List.getElem?_eq_some_iff.mp hi).1
  have cne := I.cne
  have tracked : ∀ {a : Addr} {h' : Heap}, (∃ o, s.heap.get? a = some o ∧ H a = none) → Heap.SameBut a s.heap h' → HOk X.prog X.w H h' := fun {a h'} ha hs b ob e => by
    obtain ⟨_, _, hfree⟩ := ha
    refine (I.hok b ob e).stay (fun c w' hc q => (hs.2 c ?_).trans q) (fun _ q => q) fun _ _ q => q
    rintro rfl
    rcases hc with rfl | hc
    · rw [hfree] at e; cases e
    · rw [hfree] at hc; cases hc
  rcases hx with hk | hk
  · refine wpAny_storeName_local hk hn (fun h' hn' hs => ?_) hcls
    obtain ⟨oL, _, _, hoL, _⟩ := id hn
    refine h _ ⟨I.ok, I.os, I.bare, ⟨fun b o e n hb hx => ?_, fun b o e n hb hx => ?_, I.base.free, fun b o e hx => ?_, I.base.tups, I.base.frzs, I.base.tbls⟩, ⟨_, hn', fun j y v' e1 e2 e3 => ?_⟩, fun y c e => ?_, I.free, I.freeC, fun p hp => ?_, tracked ⟨oL, hoL, I.free⟩ hs, by simpa using I.len⟩ ⟨_, hs, .inl rfl⟩
    · exact (hs.2 b (Nat.ne_of_lt (Nat.lt_of_lt_of_le (Heap.lt_size e) I.ok.above))).trans (I.base.keep b o e n hb hx)
    · obtain ⟨sl, e1⟩ := I.base.slot b o e n hb hx
      exact ⟨sl, (hs.2 b (Nat.ne_of_lt (Nat.lt_of_lt_of_le (Heap.lt_size e) I.ok.above))).trans e1⟩
    · obtain ⟨o', e1⟩ := I.base.there b o e hx
      exact ⟨o', (hs.2 b (Nat.ne_of_lt (Nat.lt_of_lt_of_le (Heap.lt_size e) I.ok.above))).trans e1⟩
    · by_cases hj : j = i
      · subst hj
        rw [hi] at e1; cases e1
        rw [List.getElem?_set_self hiσ] at e2
        cases e2
        exact ⟨u, r, .inl ⟨hk, by simp⟩⟩
      · rw [List.getElem?_set_ne (Ne.symm hj)] at e2
        obtain ⟨u', r', q⟩ := hl j y v' e1 e2 e3
        refine ⟨u', r', ?_⟩
        rcases q with ⟨k, e⟩ | ⟨k, c, e, z⟩
        · refine .inl ⟨k, ?_⟩
          have : y ≠ x := fun e => hj (nodup_ix hN e1 (e ▸ hi))
          simp [this, e]
        · exact .inr ⟨k, c, e, z.sameBut hs (cne y c e)⟩
    · obtain ⟨w', z⟩ := I.cell y c e
      exact ⟨w', z.sameBut hs (cne y c e)⟩
    · obtain ⟨e, n, ne, nf, d⟩ := I.pin p hp
      exact ⟨(hs.2 p.1 ne).trans e, n, ne, nf, d⟩
  · have hfn : X.fn x = true := by
      rcases hf with z | z
      · exact z
      · rw [z] at hk; cases hk
    obtain ⟨c, hc⟩ := I.ok.has x (.inl hk)
    obtain ⟨w', z⟩ := I.cell x c hc
    refine wpAny_storeName_cell I.ok.kind hk hc z (fun h' hc' hs => ?_)
    obtain ⟨oc, hoc, hocd⟩ := id z
    refine h { s with heap := h' } ⟨I.ok, I.os, I.bare, ⟨fun b o e n hb hx => ?_, fun b o e n hb hx => ?_, I.base.free, fun b o e hx => ?_, I.base.tups, I.base.frzs, I.base.tbls⟩, ⟨m, hn.sameBut hs (Ne.symm (cne x c hc)), fun j y v' e1 e2 e3 => ?_⟩, fun y c' e => ?_, I.free, I.freeC, fun p hp => ?_, tracked ⟨oc, hoc, I.freeC x c hc⟩ hs, by simpa using I.len⟩ ⟨c, hs, .inr hc⟩
    · exact (hs.2 b (Nat.ne_of_lt (Nat.lt_of_lt_of_le (Heap.lt_size e) (I.ok.cab x c hfn hc)))).trans (I.base.keep b o e n hb hx)
    · obtain ⟨sl, e1⟩ := I.base.slot b o e n hb hx
      exact ⟨sl, (hs.2 b (Nat.ne_of_lt (Nat.lt_of_lt_of_le (Heap.lt_size e) (I.ok.cab x c hfn hc)))).trans e1⟩
    · obtain ⟨o', e1⟩ := I.base.there b o e hx
      exact ⟨o', (hs.2 b (Nat.ne_of_lt (Nat.lt_of_lt_of_le (Heap.lt_size e) (I.ok.cab x c hfn hc)))).trans e1⟩
    · by_cases hj : j = i
      · subst hj
        rw [hi] at e1; cases e1
        rw [List.getElem?_set_self hiσ] at e2
        cases e2
        exact ⟨u, r, .inr ⟨.inl hk, c, hc, hc'⟩⟩
      · rw [List.getElem?_set_ne (Ne.symm hj)] at e2
        obtain ⟨u', r', q⟩ := hl j y v' e1 e2 e3
        refine ⟨u', r', ?_⟩
        rcases q with q | ⟨k, c', e, z'⟩
        · exact .inl q
        · refine .inr ⟨k, c', e, z'.sameBut hs ?_⟩
          rintro rfl
          exact hj (nodup_ix hN e1 (I.ok.inj _ _ _ e hc ▸ hi))
    · by_cases hcc : c' = c
      · subst hcc; exact ⟨_, hc'⟩
      · obtain ⟨w2, z2⟩ := I.cell y c' e
        exact ⟨w2, z2.sameBut hs hcc⟩
    · obtain ⟨e, n, ne, nf, d⟩ := I.pin p hp
      refine ⟨(hs.2 p.1 ?_).trans e, n, ne, nf, d⟩
      intro q
      rw [q, hoc] at e
      have q' : oc = p.2 := Option.some.inj e
      exact d w' (by rw [← q']; exact hocd)
theorem store_ok {M : Model} {A : Around} {E : Value → Shared → Prop} {i : Nat} {x : Str} {v : V} {u : Value} {Q : Unit → Shared → Prop} (I : Inv X pins σ H s) (hN : X.N.Nodup) (hi : X.N[i]? = some x) (hx : Loc X.env.scope x) (r : RelV v u)
    (h : ∀ s', Inv X pins (σ.set i (some v)) H s' → Q () s') (hf : X.fn x = true ∨ X.env.scope.names.lookup x = some .local := by first | exact .inl rfl | exact .inr rfl | assumption) : wpAny M A (storeName X.env x u) Q E s :=
  store_ok2 I hN hi hx r (fun s' I' _ => h s' I') hf
/-- behind a call or a block, the state as it is -/
theorem Inv.call' {s' : Shared} {ch : List Addr} (I : Inv X pins σ H s) (ho : s'.os = s.os) (u : Un (frs X.stack) ch H H' s.heap s'.heap) (hok : HOk X.prog X.w H' s'.heap) (hg : AllBare s'.gens)
    (hch : ∀ b ∈ ch, (b ∈ X.ex ∨ X.s_0.heap.objs.size ≤ b) ∧ b ≠ X.env.locals ∧ (∀ x c, X.env.cells.lookup x = some c → c ≠ b) ∧ ∀ p ∈ X.pn ++ pins, p.1 ≠ b) : Inv X pins σ H' s' := by
  obtain ⟨h', g', d', t', o'⟩ := s'
  have e : o' = s.os := ho
  subst e
  exact I.call (g' := g') (t' := t') (d' := d') u hok hg hch
end
/-- an exception: its class, its own dict's address (where it has one), the abstract heap behind it -/
abbrev XK := Value → Option Addr → Hp → Prop
abbrev St := List (Option V)
abbrev VK := V → Hp → Prop
/-- an expression's reading; a test's; an argument list's -/
abbrev TE := St → Hp → VK → Prop
abbrev TT := St → Hp → (Bool → Hp → Prop) → Prop
abbrev TA := St → Hp → (List V → Hp → Prop) → Prop
/-- what is wanted behind a statement -/
structure Ends where
  nx : St → Hp → Prop
  rt : VK
  bk : St → Hp → Prop := fun _ _ => False
  ct : St → Hp → Prop := fun _ _ => False
abbrev TS := Ends → St → Hp → Prop
def EP (X : Cx) (pins : List (Addr × Obj)) (σ : St) (Q : VK) (u : Value) (s' : Shared) : Prop := ∃ v H', Inv X pins σ H' s' ∧ RelV v u ∧ Q v H'
def TP (X : Cx) (pins : List (Addr × Obj)) (σ : St) (Q : Bool → Hp → Prop) (b : Bool) (s' : Shared) : Prop := ∃ H', Inv X pins σ H' s' ∧ Q b H'
def AP (X : Cx) (pins : List (Addr × Obj)) (σ : St) (Q : List V → Hp → Prop) (us : List Value) (s' : Shared) : Prop := ∃ vs H', Inv X pins σ H' s' ∧ Vals vs us ∧ Q vs H'
def SP (X : Cx) (pins : List (Addr × Obj)) (D : Ends) (f : Flow) (s' : Shared) : Prop :=
  match f with
  | .next => ∃ σ' H', Inv X pins σ' H' s' ∧ D.nx σ' H'
  | .brk => ∃ σ' H', Inv X pins σ' H' s' ∧ D.bk σ' H'
  | .cont => ∃ σ' H', Inv X pins σ' H' s' ∧ D.ct σ' H'
  | .ret u => ∃ v σ' H', Inv X pins σ' H' s' ∧ RelV v u ∧ D.rt v H'
def PE (X : Cx) (e : Expr) (t : TE) : Prop :=
  ∀ (pins : List (Addr × Obj)) (s : Shared) (σ : St) (H : Hp) (Q : VK), Inv X pins σ H s → t σ H Q → wpAny (model X.prog X.w) X.A (eval e X.env) (EP X pins σ Q) X.xe s
def PT (X : Cx) (e : Expr) (t : TT) : Prop :=
  ∀ (pins : List (Addr × Obj)) (s : Shared) (σ : St) (H : Hp) (Q : Bool → Hp → Prop), Inv X pins σ H s → t σ H Q → wpAny (model X.prog X.w) X.A (isTrue e X.env (eval e X.env)) (TP X pins σ Q) X.xe s
/-- a test whatever its 'whole' is (and, or) -/
def PW (X : Cx) (e : Expr) (t : TT) : Prop :=
  ∀ (whole : Sem Value) (pins : List (Addr × Obj)) (s : Shared) (σ : St) (H : Hp) (Q : Bool → Hp → Prop), Inv X pins σ H s → t σ H Q → wpAny (model X.prog X.w) X.A (isTrue e X.env whole) (TP X pins σ Q) X.xe s
theorem PW.pt {X : Cx} {e : Expr} {t : TT} (h : PW X e t) : PT X e t := h _
/-- an argument list (no star), from the left -/
def PA (X : Cx) (es : List Expr) (t : TA) : Prop :=
  ∀ (pos : Pos) (pins : List (Addr × Obj)) (s : Shared) (σ : St) (H : Hp) (Q : List V → Hp → Prop), Inv X pins σ H s → t σ H Q → wpAny (model X.prog X.w) X.A (spliced (backTo pos (starEach es X.env))) (AP X pins σ Q) X.xe s
def PS (X : Cx) (st : Stmt) (t : TS) : Prop :=
  ∀ (pins : List (Addr × Obj)) (s : Shared) (σ : St) (H : Hp) (D : Ends), Inv X pins σ H s → t D σ H → wpAny (model X.prog X.w) X.A (exec st X.env) (SP X pins D) X.xe s
def PSs (X : Cx) (st : List Stmt) (t : TS) : Prop :=
  ∀ (pins : List (Addr × Obj)) (s : Shared) (σ : St) (H : Hp) (D : Ends), Inv X pins σ H s → t D σ H → wpAny (model X.prog X.w) X.A (execs st X.env) (SP X pins D) X.xe s
/-- weaken the end -/
theorem thn {α : Type} {t : Sem α} {Q Q' : α → Shared → Prop} {M : Model} {A : Around} {E : Value → Shared → Prop} {s : Shared} (h : wpAny M A t Q E s) (hQ : ∀ a s, Q a s → Q' a s) : wpAny M A t Q' E s := wpAny_mono h hQ fun _ _ x => x
end L2
namespace L2
open PySem PySem.Spec PyProof.Rows
section
variable {X : Cx}
def tVar (i : Nat) : TE := fun σ H Q => ∃ v, σ[i]? = some (some v) ∧ Q v H
def tC (v : V) : TE := fun _ H Q => Q v H
theorem pe_var {i : Nat} {x : Str} {pos : Pos} (hN : X.N[i]? = some x) (hv : Vis X.env.scope x) (hd : (x == ("__debug__" : Str)) = false := by decide) (hcd : (x == ("__classdict__" : Str)) = false := by decide) : PE X (.Name x pos) (tVar i) := by
  intro pins s σ H Q I h
  obtain ⟨v, e, h⟩ := h
  obtain ⟨m, hn, hl⟩ := I.loc
  obtain ⟨u, r, l⟩ := hl i x v hN e hv
  have fin : EP X pins σ Q u s := ⟨v, H, I, r, h⟩
  rcases l with ⟨hk, hm⟩ | ⟨hk, c, hc, hcell⟩
  · exact wpAny_Name (wpAny_loadName_local I.ok.kind hk hn hm fin) hd
  · rcases hk with hk | hk
    · exact wpAny_Name (wpAny_loadName_cell I.ok.kind hk hc hcell fin) hd
    · exact wpAny_Name (wpAny_loadName_free I.ok.kind hk hc hcell fin hcd) hd
theorem pe_int {i j pos} : PE X (.Constant (.int i) j pos) (tC (.int i)) := fun _ _ _ H _ I h => wpAny_Constant_int ⟨.int i, H, I.tok _, ⟨_, rfl⟩, h⟩
theorem pe_non {j pos} : PE X (.Constant .none j pos) (tC .non) := fun _ _ _ H _ I h => Constant_none ⟨.non, H, I, rfl, h⟩
/-- a global name of the def -/
def Gl (X : Cx) (x : Str) : Prop := X.env.kindOf x = some .globalImplicit
theorem ld_glob {E : Value → Shared → Prop} {pins : List (Addr × Obj)} {s : Shared} {σ : St} {H : Hp} {x : Str} {u : Value} {pos : Pos} {Q : Value → Shared → Prop} (I : Inv X pins σ H s) (hg : Gl X x) (hm : X.mg x = some u) (h : Q u s)
    (hd : (x == ("__debug__" : Str)) = false := by decide) : wpAny (model X.prog X.w) X.A (eval (.Name x pos) X.env) Q E s :=
  Calls.Name_function_global I.ok.kind hg (Calls.loadGlobal_global (by rw [I.ok.glob]; exact I.mod.glob.keeps I.bk) hm h) hd
theorem ld_blt {E : Value → Shared → Prop} {pins : List (Addr × Obj)} {s : Shared} {σ : St} {H : Hp} {x : Str} {u : Value} {pos : Pos} {Q : Value → Shared → Prop} (I : Inv X pins σ H s) (hg : Gl X x) (hm : X.mg x = none) (hv : bootBuiltins x = some u) (h : Q u s)
    (hn : x ≠ "__name__" := by decide) (hd : (x == ("__debug__" : Str)) = false := by decide) : wpAny (model X.prog X.w) X.A (eval (.Name x pos) X.env) Q E s := by
  obtain ⟨mb, h1, h2⟩ := I.mod.blt
  exact Calls.Name_function_global I.ok.kind hg (Calls.loadGlobal_builtin (by rw [I.ok.glob]; exact I.mod.glob.keeps I.bk) hm (by rw [I.ok.blt]; exact h1.keeps I.bk) ((h2 x hn).trans hv) h) hd
/-- a module's constant, a class, a function, as a value -/
theorem pe_glob {x : Str} {v : V} {u : Value} {pos : Pos} (hg : Gl X x) (hm : X.mg x = some u) (r : RelV v u) (hd : (x == ("__debug__" : Str)) = false := by decide) : PE X (.Name x pos) (tC v) :=
  fun _ _ _ H _ I h => ld_glob I hg hm ⟨v, H, I, r, h⟩ hd
variable {a b : Expr} {ta tb : TE} {pos : Pos}
def PC (X : Cx) (op : CmpOp) (a b : Expr) (t : TE) : Prop :=
  ∀ (pins : List (Addr × Obj)) (s : Shared) (σ : St) (H : Hp) (Q : VK), Inv X pins σ H s → t σ H Q →
    wpAny (model X.prog X.w) X.A (eval a X.env) (fun v s₁ => wpAny (model X.prog X.w) X.A (eval b X.env) (fun u s₂ => wpAny (model X.prog X.w) X.A (compareOp op v u) (EP X pins σ Q) X.xe s₂) X.xe s₁) X.xe s
/-- a comparison as a value, as a test -/
def tB (t : TE) : TT := fun σ H Q => t σ H fun x H1 => ∃ c, x = .bl c ∧ Q c H1
theorem pt_cmp {op : CmpOp} {t : TE} (h : PC X op a b t) (h1 : behindInMarks op b = false := by first | exact nobehind _ (by decide) (by decide) | rfl) : PT X (.Compare a [op] [b] pos) (tB t) := by
  intro pins s σ H Q I hw
  refine wpAny_isTrue_Compare1 (thn (h pins s σ H _ I hw) fun v s1 h1 => thn h1 fun u s2 h2 => thn h2 fun c s3 ⟨x, H1, I1, r1, q1⟩ => ?_) h1
  obtain ⟨d, rfl, q⟩ := q1
  cases r1
  exact wpAny_truthy_bool ⟨H1, I1, q⟩
/-- an expression whose value is a bool, as a test -/
theorem pt_val {e : Expr} {t : TE} (h : PE X e t) (he : ∀ whole, isTrue e X.env whole = (do let v ← whole; standAt e.pos; holding [v] (truthy v)) := by intro _; rfl) : PT X e (tB t) := by
  intro pins s σ H Q I hw
  refine isTrue_plain (thn (h pins s σ H _ I hw) fun v s1 ⟨x, H1, I1, r1, q1⟩ => ?_) (he _)
  obtain ⟨d, rfl, q⟩ := q1
  cases r1
  exact wpAny_truthy_bool ⟨H1, I1, q⟩
variable {tA tB' : TT} {rest : List Expr}
def tAnd (t u : TT) : TT := fun σ H Q => t σ H fun c H1 => if c = true then u σ H1 Q else Q false H1
def tNot (t : TT) : TT := fun σ H Q => t σ H fun c H1 => Q (!c) H1
theorem pw_and1 (ha : PT X a tA) : PW X (.BoolOp .And [a] pos) tA := by
  intro wh pins s σ H Q I h
  refine isTrue_and (thn (ha pins s σ H Q I h) fun c s1 e => ?_)
  cases c with
  | true => exact isTrue_and_nil e
  | false => exact e
theorem pw_and (ha : PT X a tA) (hb : PW X (.BoolOp .And (b :: rest) pos) tB') : PW X (.BoolOp .And (a :: b :: rest) pos) (tAnd tA tB') := by
  intro wh pins s σ H Q I h
  refine isTrue_and (thn (ha pins s σ H _ I h) fun c s1 ⟨H1, I1, q1⟩ => ?_)
  cases c with
  | true => exact hb wh pins s1 σ H1 Q I1 q1
  | false => exact ⟨H1, I1, q1⟩
theorem pt_not (ha : PT X a tA) : PT X (.UnaryOp .Not a pos) (tNot tA) := by
  intro pins s σ H Q I h
  exact isTrue_not (ha pins s σ H (fun c H1 => Q (!c) H1) I h)
/-- .. as values (bools) -/
def tAndV (ta tb : TE) : TE := fun σ H Q => ta σ H fun x H1 => ∃ c, x = .bl c ∧ if c = true then tb σ H1 Q else Q (.bl false) H1
theorem pe_one {op} {t : TE} (h : PE X a t) : PE X (.BoolOp op [a] pos) t := fun pins s σ H Q I hw => BoolOp_one (h pins s σ H Q I hw)
theorem pe_and (ha : PE X a ta) (hb : PE X (.BoolOp .And (b :: rest) pos) tb) : PE X (.BoolOp .And (a :: b :: rest) pos) (tAndV ta tb) := by
  intro pins s σ H Q I h
  refine BoolOp_and (thn (ha pins s σ H _ I h) fun v s1 ⟨x, H1, I1, r1, q1⟩ => ?_)
  obtain ⟨c, rfl, q1⟩ := q1
  cases r1
  refine wpAny_truthy_bool ?_
  cases c with
  | true => exact hb pins s1 σ H1 Q I1 q1
  | false => exact ⟨.bl false, H1, I1, rfl, q1⟩
end
end L2
namespace L2
open PySem PySem.Spec PyProof.Rows
def SqL (K : PySem.W.Frag) (H : Hp) (a : Addr) (xs : List V) : Prop :=
  Rd H a (.lst xs) ∨
    ∃ (o : Obj) (its : Array Value) (n : Nat), K.lookup a = some o ∧ o.cls = .type "list" ∧ o.dict = none ∧ o.data = .seq its n ∧ its.size ≤ sizeLine ∧ Vals xs its.toList
def SqT (K : PySem.W.Frag) (H : Hp) (a : Addr) (xs : List V) : Prop :=
  Rd H a (.tup xs) ∨
    ∃ (o : Obj) (its : Array Value) (n : Nat), K.lookup a = some o ∧ o.cls = .type "tuple" ∧ o.data = .seq its n ∧ its.size ≤ sizeLine ∧ Vals xs its.toList
def absV : Value → Option V
  | .none => some .non
  | .bool b => some (.bl b)
  | .int i _ => some (.int i)
  | .str x _ => some (.str x)
  | .bytes b _ => some (.byt b)
  | .float b _ => some (.flt b)
  | .ref a => some (.ref a)
  | .type n => some (.ty n)
  | _ => none
theorem RelV.abs {x : V} {u : Value} (r : RelV x u) : absV u = some x := by
  cases x with
  | non => cases r; rfl
  | bl _ => cases r; rfl
  | int _ => obtain ⟨t, rfl⟩ := r; rfl
  | str _ => obtain ⟨t, rfl⟩ := r; rfl
  | byt _ => obtain ⟨t, rfl⟩ := r; rfl
  | flt _ => obtain ⟨t, rfl⟩ := r; rfl
  | ref _ => cases r; rfl
  | ty _ => cases r; rfl
theorem RelV.inj {x y : V} {u : Value} (r : RelV x u) (q : RelV y u) : x = y := Option.some.inj (r.abs.symm.trans q.abs)
theorem Vals.inj : ∀ {xs ys : List V} {us : List Value}, Vals xs us → Vals ys us → xs = ys
  | _, _, _, .nil, .nil => rfl
  | _, _, _, .cons r t, .cons r' t' => by rw [r.inj r', Vals.inj t t']
section
variable {X : Cx} {pins : List (Addr × Obj)} {σ : St} {H : Hp} {s : Shared} {a : Addr} {xs ys : List V}
theorem SqL.of {K : PySem.W.Frag} (h : H a = some (.lst xs)) : SqL K H a xs := .inl (.inl h)
theorem SqT.of {K : PySem.W.Frag} (h : H a = some (.tup xs)) : SqT K H a xs := .inl (.inl h)
theorem Inv.list (I : Inv X pins σ H s) (h : SqL X.K H a xs) : ∃ its : List Value, Vals xs its ∧ PlainL s.heap a its.toArray ∧ xs.length ≤ sizeLine := by
  rcases h with h | ⟨o, its, n, hk, hc, hd, hs, hz, r⟩
  · obtain ⟨z, its, n, r, e⟩ := h.ok I.hok
    exact ⟨its, r, ⟨_, n, e, rfl, rfl, rfl⟩, z⟩
  · refine ⟨its.toList, r, ⟨o, n, I.kIn a o hk, hc, hd, by simpa using hs⟩, ?_⟩
    have e := r.length
    simp only [Array.length_toList] at e
    omega
theorem Inv.tuple (I : Inv X pins σ H s) (h : SqT X.K H a xs) : ∃ its : List Value, Vals xs its ∧ IsTup s.heap a its.toArray ∧ xs.length ≤ sizeLine := by
  rcases h with h | ⟨o, its, n, hk, hc, hs, hz, r⟩
  · obtain ⟨z, its, r, p⟩ := h.ok I.hok
    exact ⟨its, r, p, z⟩
  · refine ⟨its.toList, r, ⟨o, I.kIn a o hk, hc, n, by simpa using hs⟩, ?_⟩
    have e := r.length
    simp only [Array.length_toList] at e
    omega
theorem Inv.list_inj (I : Inv X pins σ H s) (h : SqL X.K H a xs) (h' : SqL X.K H a ys) : xs = ys := by
  obtain ⟨its, r, ⟨o, n, e, _, _, d⟩, _⟩ := I.list h
  obtain ⟨its', r', ⟨o', n', e', _, _, d'⟩, _⟩ := I.list h'
  rw [e] at e'; cases e'
  rw [d] at d'
  injection d' with d1 _
  have : its = its' := by simpa using congrArg Array.toList d1
  subst this
  exact r.inj r'
theorem Inv.tuple_inj (I : Inv X pins σ H s) (h : SqT X.K H a xs) (h' : SqT X.K H a ys) : xs = ys := by
  obtain ⟨its, r, ⟨o, e, _, n, d⟩, _⟩ := I.tuple h
  obtain ⟨its', r', ⟨o', e', _, n', d'⟩, _⟩ := I.tuple h'
  rw [e] at e'; cases e'
  rw [d] at d'
  injection d' with d1 _
  have : its = its' := by simpa using congrArg Array.toList d1
  subst this
  exact r.inj r'
end
abbrev Cx.wish (X : Cx) (E : Value → Shared → Prop) : Cx := { X with xe := E }
/-- no exception leaves -/
abbrev Cx.nox (X : Cx) : Cx := X.wish fun _ _ => False
theorem Cx.Ok.wish {X : Cx} (ok : X.Ok) (E : Value → Shared → Prop) : (X.wish E).Ok :=
  ⟨ok.mod, ok.kind, ok.glob, ok.blt, ok.above, ok.inj, ok.has, ok.cab, ok.hd, ok.frames, ok.stk, ok.exf, ok.bs, ok.bsz, ok.noex, ok.exfs, ok.funs, ok.frf⟩
theorem Cx.Ok.unwish {X : Cx} {E : Value → Shared → Prop} (ok : (X.wish E).Ok) : X.Ok :=
  ⟨ok.mod, ok.kind, ok.glob, ok.blt, ok.above, ok.inj, ok.has, ok.cab, ok.hd, ok.frames, ok.stk, ok.exf, ok.bs, ok.bsz, ok.noex, ok.exfs, ok.funs, ok.frf⟩
section
variable {X : Cx} {pins : List (Addr × Obj)} {σ : St} {H : Hp} {s : Shared} {E : Value → Shared → Prop}
theorem Inv.wish (I : Inv X pins σ H s) (E : Value → Shared → Prop) : Inv (X.wish E) pins σ H s := ⟨I.ok.wish E, I.os, I.bare, I.base, I.loc, I.cell, I.free, I.freeC, I.pin, I.hok, I.len⟩
theorem Inv.unwish (I : Inv (X.wish E) pins σ H s) : Inv X pins σ H s := ⟨I.ok.unwish, I.os, I.bare, I.base, I.loc, I.cell, I.free, I.freeC, I.pin, I.hok, I.len⟩
theorem SP.unwish {D : Ends} {f : Flow} {s' : Shared} (h : SP (X.wish E) pins D f s') : SP X pins D f s' := by
  cases f with
  | next => obtain ⟨σ', H', I, q⟩ := h; exact ⟨σ', H', I.unwish, q⟩
  | brk => obtain ⟨σ', H', I, q⟩ := h; exact ⟨σ', H', I.unwish, q⟩
  | cont => obtain ⟨σ', H', I, q⟩ := h; exact ⟨σ', H', I.unwish, q⟩
  | ret u => obtain ⟨v, σ', H', I, r, q⟩ := h; exact ⟨v, σ', H', I.unwish, r, q⟩
theorem PSs.nox {st : List Stmt} {t : TS} (h : PSs X.nox st t) : PSs X st t := fun pins s σ H D I hw =>
  wpAny_mono (h pins s σ H D (I.wish _) hw) (fun _ _ q => q.unwish) fun _ _ z => False.elim z
end
section
variable {X : Cx} {st : Stmt} {rest : List Stmt} {t u : TS} {e : Expr} {te : TE} {pos : Pos}
def tNext : TS := fun D σ H => D.nx σ H
def tSeq (t u : TS) : TS := fun D σ H => t { D with nx := u D } σ H
theorem pss_nil : PSs X [] tNext := fun _ _ σ H _ I h => wpAny_execs_nil ⟨σ, H, I, h⟩
theorem pss_cons (h1 : PS X st t) (h2 : PSs X rest u) : PSs X (st :: rest) (tSeq t u) := by
  intro pins s σ H D I h
  refine wpAny_execs_cons (thn (h1 pins s σ H { D with nx := u D } I h) fun f s1 q => ?_)
  cases f with
  | next =>
    obtain ⟨σ', H', I', q⟩ := q
    exact h2 pins s1 σ' H' D I' q
  | ret v => exact q
  | brk => exact q
  | cont => exact q
theorem pss_one (h1 : PS X st t) : PSs X [st] t := by
  intro pins s σ H D I h
  refine wpAny_execs_cons (thn (h1 pins s σ H D I h) fun f s1 q => ?_)
  cases f with
  | next => exact wpAny_execs_nil q
  | ret v => exact q
  | brk => exact q
  | cont => exact q
/-- in a def's body nothing is shown -/
theorem Inv.quiet {pins : List (Addr × Obj)} {σ : St} {H : Hp} {s : Shared} (I : Inv X pins σ H s) : interactive X.env = false := by simp [interactive, I.ok.kind]
/-- an expression whose value is dropped -/
def tDrop (te : TE) : TS := fun D σ H => te σ H fun _ H1 => D.nx σ H1
theorem ps_expr (he : PE X e te) (hs : swapsWith e none pos.line X.env = pure false := by rfl) : PS X (.Expr e pos) (tDrop te) := by
  intro pins s σ H D I h
  exact wpAny_Expr_any (thn (he pins s σ H _ I h) fun v s1 ⟨x, H1, I1, r1, q1⟩ => ⟨σ, H1, I1, q1⟩) I.quiet hs
def tRet (te : TE) : TS := fun D σ H => te σ H D.rt
theorem ps_ret (he : PE X e te) : PS X (.Return (some e) pos) (tRet te) := by
  intro pins s σ H D I h
  exact wpAny_Return_some (thn (he pins s σ H _ I h) fun v s1 ⟨x, H1, I1, r1, q1⟩ => ⟨x, σ, H1, I1, r1, q1⟩)
def tIfS (c : TT) (t u : TS) : TS := fun D σ H => c σ H fun b H1 => if b = true then t D σ H1 else u D σ H1
theorem ps_if {c : Expr} {a b : List Stmt} {tc : TT} (hc : PT X c tc) (ha : PSs X a t) (hb : PSs X b u) : PS X (.If c a b pos) (tIfS tc t u) := by
  intro pins s σ H D I h
  refine wpAny_If (thn (hc pins s σ H _ I h) fun d s1 ⟨H1, I1, q1⟩ => ?_)
  cases d with
  | true => exact ha pins s1 σ H1 D I1 q1
  | false => exact hb pins s1 σ H1 D I1 q1
end
abbrev TG := V → St → Hp → (St → Hp → Prop) → Prop
abbrev TGs := List V → St → Hp → (St → Hp → Prop) → Prop
def PG (X : Cx) (target : Expr) (t : TG) : Prop :=
  ∀ (pins : List (Addr × Obj)) (s : Shared) (σ : St) (H : Hp) (v : V) (u : Value) (Q : St → Hp → Prop), Inv X pins σ H s → RelV v u → t v σ H Q →
    wpAny (model X.prog X.w) X.A (assign target X.env u) (fun _ s' => ∃ σ' H', Inv X pins σ' H' s' ∧ Q σ' H') X.xe s
/-- several targets, one after another -/
def PGs (X : Cx) (ts : List Expr) (t : TGs) : Prop :=
  ∀ (pins : List (Addr × Obj)) (s : Shared) (σ : St) (H : Hp) (vs : List V) (us : List Value) (Q : St → Hp → Prop), Inv X pins σ H s → Vals vs us → t vs σ H Q →
    wpAny (model X.prog X.w) X.A (assignInOrder ((assignEach ts X.env).map (·.2)) us) (fun _ s' => ∃ σ' H', Inv X pins σ' H' s' ∧ Q σ' H') X.xe s
/-- a op= b, by values -/
abbrev TIp := V → V → Hp → VK → Prop
def PIp (X : Cx) (op : Operator) (t : TIp) : Prop :=
  ∀ (pins : List (Addr × Obj)) (s : Shared) (σ : St) (H : Hp) (x y : V) (v u : Value) (Q : VK), Inv X pins σ H s → RelV x v → RelV y u → t x y H Q →
    wpAny (model X.prog X.w) X.A (inplaceOp op v u) (EP X pins σ Q) X.xe s
section
variable {X : Cx} {pos : Pos}
def gName (i : Nat) : TG := fun v σ H Q => Q (σ.set i (some v)) H
theorem pg_name {i : Nat} {x : Str} (hN : X.N.Nodup) (hi : X.N[i]? = some x) (hx : Loc X.env.scope x) (hf : X.fn x = true ∨ X.env.scope.names.lookup x = some .local := by first | exact .inl rfl | exact .inr rfl | assumption) : PG X (.Name x pos) (gName i) := by
  intro pins s σ H v u Q I r h
  exact wpAny_assign_Name (store_ok I hN hi hx r (fun s' I' => ⟨_, H, I', h⟩) hf)
def gNil : TGs := fun vs σ H Q => vs = [] ∧ Q σ H
def gCons (t : TG) (u : TGs) : TGs := fun vs σ H Q => ∃ v r, vs = v :: r ∧ t v σ H fun σ' H' => u r σ' H' Q
theorem pgs_nil : PGs X [] gNil := by
  intro pins s σ H vs us Q I r h
  obtain ⟨e, h⟩ := h
  subst e
  cases r
  exact assignInOrder_nil ⟨σ, H, I, h⟩
theorem pgs_cons {e : Expr} {es : List Expr} {t : TG} {u : TGs} (h1 : PG X e t) (h2 : PGs X es u)
    (hs : (assignEach (e :: es) X.env).map (·.2) = assign e X.env :: (assignEach es X.env).map (·.2) := by rfl) : PGs X (e :: es) (gCons t u) := by
  intro pins s σ H vs us Q I r h
  obtain ⟨v, vr, e1, h⟩ := h
  subst e1
  cases r with
  | cons r rr =>
    rw [hs]
    refine assignInOrder_cons (thn (h1 pins s σ H _ _ _ I r h) fun _ s1 ⟨σ1, H1, I1, q1⟩ => ?_)
    exact h2 pins s1 σ1 H1 _ _ Q I1 rr q1
/-- (a, b, ..) = a tuple of that length -/
def gTup (K : PySem.W.Frag) (n : Nat) (t : TGs) : TG := fun v σ H Q => ∃ a xs, v = .ref a ∧ SqT K H a xs ∧ xs.length = n ∧ t xs σ H Q
theorem pg_tup {es : List Expr} {k : Nat} {t : TGs} {n : Nat} (hc : X.calm = true) (h : PGs X es t)
    (hn : (assignEach es X.env).length = n := by rfl) (hst : (assignEach es X.env).findIdx? (·.1) = none := by rfl) : PG X (.Tuple es k pos) (gTup X.K n t) := by
  intro pins s σ H v u Q I r hw
  obtain ⟨a, xs, e1, hq, hl, hw⟩ := hw
  subst e1
  cases r
  obtain ⟨its, rv, ht, hz⟩ := I.tuple hq
  refine assign_Tuple_tuple (I.ok.hd hc) ht (by simp [hn, ← hl, rv.length]) hst fun h' hx => ?_
  have I1 : Inv X pins σ H { s with heap := h' } := I.kept (t' := s.toks) fun b o e => hx b o (Nat.ne_of_lt (Heap.lt_size e)) e
  exact h pins _ σ H xs _ Q I1 (by simpa using rv) hw
/-- target = value -/
def tAsg (te : TE) (g : TG) : TS := fun D σ H => te σ H fun x H1 => g x σ H1 D.nx
/-- name = value -/
theorem ps_set {i : Nat} {x : Str} {e : Expr} {te : TE} {pos' : Pos} (hN : X.N.Nodup) (hi : X.N[i]? = some x) (hx : Loc X.env.scope x) (he : PE X e te) (hs : swapsWith e (some (.Name x pos')) pos.line X.env = pure false := by rfl) (hf : X.fn x = true ∨ X.env.scope.names.lookup x = some .local := by first | exact .inl rfl | exact .inr rfl | assumption) :
    PS X (.Assign [.Name x pos'] e pos) (tAsg te (gName i)) := by
  intro pins s σ H D I h
  refine wpAny_Assign_Name (thn (he pins s σ H _ I h) fun v s1 ⟨y, H1, I1, r1, q1⟩ => ?_) hs
  exact store_ok I1 hN hi hx r1 (fun s2 I2 => ⟨_, H1, I2, q1⟩) hf
/-- name op= e -/
def tAug (i : Nat) (te : TE) (ti : TIp) : TS := fun D σ H => ∃ x, σ[i]? = some (some x) ∧ te σ H fun y H1 => ti x y H1 fun z H2 => D.nx (σ.set i (some z)) H2
theorem ps_aug {i : Nat} {x : Str} {e : Expr} {te : TE} {op : Operator} {ti : TIp} {pos' : Pos} (hN : X.N.Nodup) (hi : X.N[i]? = some x) (hx : Loc X.env.scope x) (he : PE X e te) (ho : PIp X op ti) (hf : X.fn x = true ∨ X.env.scope.names.lookup x = some .local := by first | exact .inl rfl | exact .inr rfl | assumption) :
    PS X (.AugAssign (.Name x pos') op e pos) (tAug i te ti) := by
  intro pins s σ H D I h
  obtain ⟨v, e1, h⟩ := h
  obtain ⟨m, hn, hl⟩ := I.loc
  have vis : Vis X.env.scope x := by rcases hx with k | k; exact .inl k; exact .inr (.inl k)
  obtain ⟨u, r, l⟩ := hl i x v hi e1 vis
  refine wpAny_AugAssign_Name ?_
  have go : wpAny (model X.prog X.w) X.A (eval e X.env) (fun w s₂ => wpAny (model X.prog X.w) X.A (inplaceOp op u w) (fun r s₃ => wpAny (model X.prog X.w) X.A (storeName X.env x r) (fun _ => SP X pins D .next) X.xe s₃) X.xe s₂) X.xe s := by
    refine thn (he pins s σ H _ I h) fun w s1 ⟨y, H1, I1, r1, q1⟩ => ?_
    refine thn (ho pins s1 σ H1 v y u w _ I1 r r1 q1) fun z s2 ⟨zv, H2, I2, r2, q2⟩ => ?_
    exact store_ok I2 hN hi hx r2 (fun s3 I3 => ⟨_, H2, I3, q2⟩) hf
  rcases l with ⟨hk, hm⟩ | ⟨hk, c, hc, hcell⟩
  · exact wpAny_loadName_local I.ok.kind hk hn hm go
  · rcases hk with hk | hk
    · exact wpAny_loadName_cell I.ok.kind hk hc hcell go
    · rcases hx with k | k
      · have : X.env.scope.names.lookup x = some .free := hk
        rw [k] at this; cases this
      · have : X.env.scope.names.lookup x = some .free := hk
        rw [k] at this; cases this
/-- ints -/
def ipI (f : Int → Int → Int) : TIp := fun x y H Q => ∃ i j, x = .int i ∧ y = .int j ∧ Q (.int (f i j)) H
theorem ip_add : PIp X .Add (ipI fun i j => i + j) := by
  intro pins s σ H x y v u Q I r1 r2 h
  obtain ⟨i, j, e1, e2, q⟩ := h
  subst e1; subst e2
  obtain ⟨t, rfl⟩ := r1
  obtain ⟨t', rfl⟩ := r2
  exact iadd_int ⟨.int _, H, I.tok _, ⟨_, rfl⟩, q⟩
end
section
variable {X : Cx} {pos : Pos}
/-- the invariant W with its measure -/
def tWhile (c : TT) (tb : TS) : TS := fun D σ H => ∃ W : Nat → St → Hp → Prop, (∃ m, W m σ H) ∧ ∀ m σ H, W m σ H →
  c σ H fun b H1 => if b = true then ∃ N : St → Hp → Prop, (∀ σ' H', N σ' H' → ∃ m', m' < m ∧ W m' σ' H') ∧ tb { D with nx := N, ct := N, bk := D.nx } σ H1 else D.nx σ H1
theorem ps_while {c : Expr} {body : List Stmt} {tc : TT} {tb : TS} (hp : PassesOwn (model X.prog X.w) X.A X.env X.xe) (hc : PT X c tc) (hb : PSs X body tb) : PS X (.While c body [] pos) (tWhile tc tb) := by
  intro pins s σ H D I h
  obtain ⟨W, ⟨m0, w0⟩, turn⟩ := h
  refine wpAny_While (codeAny_whileLoop (fun n s' => ∃ σ' H', Inv X pins σ' H' s' ∧ W n σ' H') ?_ m0 ⟨σ, H, I, w0⟩)
  rintro n s1 ⟨σ1, H1, I1, w1⟩
  refine wpAny_passesOwn hp (thn (hc pins s1 σ1 H1 _ I1 (turn n σ1 H1 w1)) fun b s2 ⟨H2, I2, q2⟩ => ?_)
  cases b with
  | true =>
    obtain ⟨N, hN, q2⟩ := q2
    rw [if_pos rfl]
    refine wpAny_passesOwn hp (thn (hb pins s2 σ1 H2 _ I2 q2) fun f s3 q3 => ?_)
    cases f with
    | next =>
      obtain ⟨σ3, H3, I3, n3⟩ := q3
      obtain ⟨m', hm, w3⟩ := hN σ3 H3 n3
      exact ⟨m', hm, σ3, H3, I3, w3⟩
    | cont =>
      obtain ⟨σ3, H3, I3, n3⟩ := q3
      obtain ⟨m', hm, w3⟩ := hN σ3 H3 n3
      exact ⟨m', hm, σ3, H3, I3, w3⟩
    | brk => exact q3
    | ret v => exact q3
  | false =>
    rw [if_neg Bool.false_ne_true]
    exact wpAny_execs_nil ⟨σ1, H2, I2, q2⟩
end
/-- at turn i: it yields x (the heap may grow), or it stops -/
structure It where
  go : Nat → Hp → Prop
  yld : Nat → Hp → V → Hp → Prop
  stop : Nat → Hp → Prop
/-- the iterator's own objects may turn: they are not the frame's, not pinned, younger than the entry (or a comprehension's own) -/
def FpOk (X : Cx) (pins : List (Addr × Obj)) (H : Hp) (b : Addr) : Prop :=
  H b = none ∧ b ≠ X.env.locals ∧ b ∉ X.fs ∧ (b ∈ X.ex ∨ X.s_0.heap.objs.size ≤ b) ∧ (∀ x c, X.env.cells.lookup x = some c → c ≠ b) ∧ ∀ p ∈ X.pn ++ pins, p.1 ≠ b
theorem Inv.fpOk {X : Cx} {pins : List (Addr × Obj)} {σ : St} {H H' : Hp} {s : Shared} {b : Addr} (I : Inv X pins σ H s) (hb : s.heap.objs.size ≤ b) (hn : H' b = none) : FpOk X pins H' b := by
  refine ⟨hn, Nat.ne_of_gt (Nat.lt_of_lt_of_le I.lt hb), I.nofs hb, .inr (Nat.le_trans I.sz hb), fun x c e z => ?_, fun p hp z => ?_⟩
  · obtain ⟨v, q⟩ := I.cell x c e
    exact absurd (Nat.lt_of_lt_of_le q.lt (by rw [z]; exact hb)) (Nat.lt_irrefl _)
  · exact absurd (Nat.lt_of_lt_of_le (Heap.lt_size (I.pin p hp).1) (by rw [z]; exact hb)) (Nat.lt_irrefl _)
structure Turn (P : Program) (w : World) (K : PySem.W.Frag) (tg : Expr) (J : It) (fp : List Addr) (it : Addr) (tn : Nat → Heap → Prop) : Prop where
  mem : it ∈ fp
  obj : ∀ i h, tn i h → ∀ b ∈ fp, ∃ o, h.get? b = some o ∧ ∀ v, o.data ≠ .cell v
  keep : ∀ i h h', tn i h → (∀ b ∈ fp, ∀ o, h.get? b = some o → h'.get? b = some o) → tn i h'
  item : ∀ (X : Cx), X.prog = P → X.w = w → X.K = K → X.calm = true → ∀ (i : Nat) (pins : List (Addr × Obj)) (s : Shared) (σ : St) (H : Hp) (E : Value → Shared → Prop), Inv X pins σ H s → (∀ b ∈ fp, FpOk X pins H b) → tn i s.heap → J.go i H →
    wpAny (model P w) X.A (pyNext (.ref it)) (fun r s1 => ∃ u, r = some u ∧
      wpAny (model P w) X.A (letOwnedTupleGo tg (.ref it) u) (fun _ s2 => ∃ x H', Inv X pins σ H' s2 ∧ RelV x u ∧ J.yld i H x H' ∧ tn (i + 1) s2.heap ∧ ∀ b ∈ fp, H' b = none) E s1) E s
  done : ∀ (X : Cx), X.prog = P → X.w = w → X.K = K → X.calm = true → ∀ (i : Nat) (pins : List (Addr × Obj)) (s : Shared) (σ : St) (H : Hp) (E : Value → Shared → Prop), Inv X pins σ H s → (∀ b ∈ fp, FpOk X pins H b) → tn i s.heap → J.stop i H →
    wpAny (model P w) X.A (pyNext (.ref it)) (fun r s1 => r = none ∧ Inv X pins σ H s1) E s
  self : ∀ (A : Around) (i : Nat) (s : Shared) (Q : Value → Shared → Prop) (E : Value → Shared → Prop), tn i s.heap → Q (.ref it) s → wpAny (model P w) A (pyIter (.ref it)) Q E s
abbrev TI := St → Hp → (It → Hp → Prop) → Prop
/-- an iterator has come -/
def PIE (X : Cx) (pins : List (Addr × Obj)) (σ : St) (tg : Expr) (R : It → Hp → Prop) (itv : Value) (s2 : Shared) : Prop :=
  ∃ (it : Addr) (fp : List Addr) (tn : Nat → Heap → Prop) (J : It) (H' : Hp), itv = .ref it ∧ Inv X pins σ H' s2 ∧ Turn X.prog X.w X.K tg J fp it tn ∧ tn 0 s2.heap ∧ (∀ b ∈ fp, FpOk X pins H' b) ∧ R J H'
def PI (X : Cx) (tg iter : Expr) (wi : TI) : Prop :=
  ∀ (pins : List (Addr × Obj)) (s : Shared) (σ : St) (H : Hp) (R : It → Hp → Prop), Inv X pins σ H s → wi σ H R →
    wpAny (model X.prog X.w) X.A (eval iter X.env) (fun v s1 => wpAny (model X.prog X.w) X.A (pyIter v) (PIE X pins σ tg R) X.xe s1) X.xe s
/-- the step ahead of the store is nothing for an iterator that keeps no tuple -/
theorem go_of {M : Model} {A : Around} {E : Value → Shared → Prop} {s : Shared} {tg : Expr} {it : Addr} {u : Value} {o : Obj} {n : String} {vs : Array Value} {Q : Unit → Shared → Prop} (ho : s.heap.get? it = some o) (hc : o.cls = .type n) (hd : o.data = .fields vs)
    (hn : ["enumerate", "zip", "dict_itemiterator", "dict_reverseitemiterator", "odict_iterator", "itertools.zip_longest", "itertools.pairwise"].contains n = false) (hQ : Q () s) : wpAny M A (letOwnedTupleGo tg (.ref it) u) Q E s := by
  unfold letOwnedTupleGo
  cases tg <;> first
    | exact wpAny_pure hQ
    | (cases u <;> first
        | exact wpAny_pure hQ
        | (refine wpAny_bind (wpAny_load ho ?_)
           rw [hc, hd]
           show wpAny M A (if (["enumerate", "zip", "dict_itemiterator", "dict_reverseitemiterator", "odict_iterator", "itertools.zip_longest", "itertools.pairwise"].contains n && vs[0]? == some (rawInt _)) = true then _ else _) Q E s
           rw [if_neg (by intro h; rw [hn, Bool.false_and] at h; cases h)]
           exact wpAny_pure hQ))
/-- the list at a, as it stands at each turn (a loop may append to it) -/
def Itl (K : PySem.W.Frag) (a : Addr) : It :=
  ⟨fun i H => ∃ xs x, SqL K H a xs ∧ xs[i]? = some x, fun i H x H' => H' = H ∧ ∀ xs, SqL K H a xs → xs[i]? = some x, fun i H => ∃ xs, SqL K H a xs ∧ xs.length ≤ i⟩
def Itt (K : PySem.W.Frag) (a : Addr) : It :=
  ⟨fun i H => ∃ xs x, SqT K H a xs ∧ xs[i]? = some x, fun i H x H' => H' = H ∧ ∀ xs, SqT K H a xs → xs[i]? = some x, fun i H => ∃ xs, SqT K H a xs ∧ xs.length ≤ i⟩
/-- lo, lo + 1, .. (n of them) -/
def Itr (lo : Int) (n : Nat) : It := ⟨fun i _ => i < n, fun i H x H' => H' = H ∧ x = .int (lo + i), fun i _ => n ≤ i⟩
theorem turn_list {P : Program} {w : World} {K : PySem.W.Frag} {tg : Expr} (a it : Addr) : Turn P w K tg (Itl K a) [it] it (fun i h => h.IsListIter it a i) where
  mem := by simp
  obj := fun i h st b hb => by
    have e : b = it := by simpa using hb
    subst e
    obtain ⟨o, e, c, d⟩ := st
    exact ⟨o, e, fun v z => by rw [d] at z; cases z⟩
  keep := fun i h h' st k => st.at fun o e => k it (by simp) o e
  item := by
    intro X hP hw hK hc i pins s σ H E I hf st hg
    subst hP hw hK
    obtain ⟨xs, x, hq, hx⟩ := hg
    obtain ⟨its, rv, p, hz⟩ := I.list hq
    obtain ⟨u, hu, ru⟩ := rv.get hx
    obtain ⟨f0, f1, f2, f3, f4, f5⟩ := hf it (by simp)
    refine wpAny_pyNext_list_item st p.isList (x := u) (by simpa using hu) fun h' st' sb => ?_
    have I1 : Inv X pins σ H { s with heap := h' } := I.turned (t' := s.toks) (fun b o hb e => (sb.2 b hb).trans e) f0 f1 f3 f4 f5
    obtain ⟨o, e, c, d⟩ := id st'
    exact ⟨u, rfl, go_of (s := { s with heap := h' }) e c d (by decide) ⟨x, H, I1, ru, ⟨rfl, fun ys hy => by rw [I.list_inj hy hq]; exact hx⟩, st', fun b hb => (hf b hb).1⟩⟩
  done := by
    intro X hP hw hK hc i pins s σ H E I hf st hg
    subst hP hw hK
    obtain ⟨xs, hq, hx⟩ := hg
    obtain ⟨its, rv, p, hz⟩ := I.list hq
    obtain ⟨f0, f1, f2, f3, f4, f5⟩ := hf it (by simp)
    have hl := rv.length
    exact wpAny_pyNext_list_end (I.ok.hd hc) st p.isList (by simp; omega) fun h' eb => ⟨rfl, I.turned (t' := s.toks) (fun b o hb e => eb b o hb e) f0 f1 f3 f4 f5⟩
  self := fun _ _ _ _ _ st h => wpAny_pyIter_listiter st h
theorem turn_tuple {P : Program} {w : World} {K : PySem.W.Frag} {tg : Expr} (a it : Addr) : Turn P w K tg (Itt K a) [it] it (fun i h => h.IsTupleIter it a i) where
  mem := by simp
  obj := fun i h st b hb => by
    have e : b = it := by simpa using hb
    subst e
    obtain ⟨o, e, c, d⟩ := st
    exact ⟨o, e, fun v z => by rw [d] at z; cases z⟩
  keep := fun i h h' st k => st.at fun o e => k it (by simp) o e
  item := by
    intro X hP hw hK hc i pins s σ H E I hf st hg
    subst hP hw hK
    obtain ⟨xs, x, hq, hx⟩ := hg
    obtain ⟨its, rv, p, hz⟩ := I.tuple hq
    obtain ⟨u, hu, ru⟩ := rv.get hx
    obtain ⟨f0, f1, f2, f3, f4, f5⟩ := hf it (by simp)
    refine wpAny_pyNext_tuple_item st (show s.heap.IsTuple a its.toArray from p) (x := u) (by simpa using hu) fun h' st' sb => ?_
    have I1 : Inv X pins σ H { s with heap := h' } := I.turned (t' := s.toks) (fun b o hb e => (sb.2 b hb).trans e) f0 f1 f3 f4 f5
    obtain ⟨o, e, c, d⟩ := id st'
    exact ⟨u, rfl, go_of (s := { s with heap := h' }) e c d (by decide) ⟨x, H, I1, ru, ⟨rfl, fun ys hy => by rw [I.tuple_inj hy hq]; exact hx⟩, st', fun b hb => (hf b hb).1⟩⟩
  done := by
    intro X hP hw hK hc i pins s σ H E I hf st hg
    subst hP hw hK
    obtain ⟨xs, hq, hx⟩ := hg
    obtain ⟨its, rv, p, hz⟩ := I.tuple hq
    obtain ⟨f0, f1, f2, f3, f4, f5⟩ := hf it (by simp)
    have hl := rv.length
    exact wpAny_pyNext_tuple_end (I.ok.hd hc) st (show s.heap.IsTuple a its.toArray from p) (by simp; omega) fun h' eb => ⟨rfl, I.turned (t' := s.toks) (fun b o hb e => eb b o hb e) f0 f1 f3 f4 f5⟩
  self := fun _ _ _ _ _ st h => wpAny_pyIter_tupleiter st h
theorem turn_range {P : Program} {w : World} {K : PySem.W.Frag} {tg : Expr} (it : Addr) (lo : Int) (n : Nat) : Turn P w K tg (Itr lo n) [it] it (fun i h => IsRangeIter h it (lo + (i : Nat) * 1) ((n : Int) - (i : Nat)) 1) where
  mem := by simp
  obj := fun i h st b hb => by
    have e : b = it := by simpa using hb
    subst e
    exact ⟨_, st, fun v z => by
      have z' : Data.fields _ = Data.cell v := z
      cases z'⟩
  keep := fun i h h' st k => k it (by simp) _ st
  item := by
    intro X hP hw hK hc i pins s σ H E I hf st hg
    subst hP hw hK
    obtain ⟨f0, f1, f2, f3, f4, f5⟩ := hf it (by simp)
    have W := Walks.range (prog := X.prog) (w := X.w) (I.ok.hd hc) it lo 1 n
    refine W.item i s _ _ hg st fun v h' tk hv st' kk => ?_
    obtain ⟨t, rfl⟩ := hv
    have I1 : Inv X pins σ H { s with heap := h', toks := tk } := I.turned (fun b o hb e => kk b o (by simpa using hb) e) f0 f1 f3 f4 f5
    refine ⟨_, rfl, go_of (s := { s with heap := h', toks := tk }) (n := "range_iterator") st' rfl rfl (by decide) ⟨.int (lo + i), H, I1, ⟨t, ?_⟩, ⟨rfl, rfl⟩, st', fun b hb => (hf b hb).1⟩⟩
    rw [Int.mul_one]
  done := by
    intro X hP hw hK hc i pins s σ H E I hf st hg
    subst hP hw hK
    obtain ⟨f0, f1, f2, f3, f4, f5⟩ := hf it (by simp)
    exact wpAny_pyNext_range_end (I.ok.hd hc) st (by have : n ≤ i := hg; omega) fun h' eb => ⟨rfl, I.turned (t' := s.toks) (fun b o hb e => eb b o hb e) f0 f1 f3 f4 f5⟩
  self := fun _ _ _ _ _ st h => wpAny_pyIter_rangeiter st h
end L2
namespace L2
open PySem PySem.Spec PyProof.Rows
section
variable {X : Cx} {tg : Expr}
def iList (K : PySem.W.Frag) (tl : TE) : TI := fun σ H R => tl σ H fun x H1 => ∃ a, x = .ref a ∧ (∃ xs, SqL K H1 a xs) ∧ R (Itl K a) H1
def iTup (K : PySem.W.Frag) (tl : TE) : TI := fun σ H R => tl σ H fun x H1 => ∃ a, x = .ref a ∧ (∃ xs, SqT K H1 a xs) ∧ R (Itt K a) H1
theorem pi_list {l : Expr} {tl : TE} (hl : PE X l tl) : PI X tg l (iList X.K tl) := by
  intro pins s σ H R I h
  refine thn (hl pins s σ H _ I h) fun v s1 ⟨x, H1, I1, r1, q1⟩ => ?_
  obtain ⟨a, e, ⟨xs, hq⟩, q⟩ := q1
  subst e
  cases r1
  obtain ⟨its, rv, p, hz⟩ := I1.list hq
  refine wpAny_pyIter_list p.isList ?_
  refine ⟨s1.heap.objs.size, [s1.heap.objs.size], _, _, H1, rfl, I1.kept (t' := s1.toks) fun b o e => Heap.get?_push_of_some _ e, turn_list a _, ⟨_, Heap.get?_push_size _ rfl, rfl, rfl⟩, fun b hb => ?_, q⟩
  have e : b = s1.heap.objs.size := by simpa using hb
  subst e
  exact I1.fpOk (Nat.le_refl _) (I1.hok.fresh (Nat.le_refl _))
theorem pi_tup {l : Expr} {tl : TE} (hl : PE X l tl) : PI X tg l (iTup X.K tl) := by
  intro pins s σ H R I h
  refine thn (hl pins s σ H _ I h) fun v s1 ⟨x, H1, I1, r1, q1⟩ => ?_
  obtain ⟨a, e, ⟨xs, hq⟩, q⟩ := q1
  subst e
  cases r1
  obtain ⟨its, rv, p, hz⟩ := I1.tuple hq
  refine wpAny_pyIter_tuple (show s1.heap.IsTuple a its.toArray from p) ?_
  refine ⟨s1.heap.objs.size, [s1.heap.objs.size], _, _, H1, rfl, I1.kept (t' := s1.toks) fun b o e => Heap.get?_push_of_some _ e, turn_tuple a _, ⟨_, Heap.get?_push_size _ rfl, rfl, rfl⟩, fun b hb => ?_, q⟩
  have e : b = s1.heap.objs.size := by simpa using hb
  subst e
  exact I1.fpOk (Nat.le_refl _) (I1.hok.fresh (Nat.le_refl _))
/-- a range object just made, walked -/
theorem range_it {pins : List (Addr × Obj)} {σ : St} {H : Hp} {s : Shared} {R : It → Hp → Prop} {E : Value → Shared → Prop} {lo hi : Int} {t u v : Tok} {tk : Nat} (I : Inv X pins σ H s) (h1 : -(2 ^ 62) ≤ lo) (h2 : lo < 2 ^ 62) (h3 : -(2 ^ 62) ≤ hi) (h4 : hi < 2 ^ 62)
    (q : R (Itr lo (hi - lo).toNat) H) : wpAny (model X.prog X.w) X.A (pyIter (.ref s.heap.objs.size)) (PIE X pins σ tg R) E { s with heap := s.heap.push { cls := .type "range", data := .fields #[.int lo t, .int hi u, .int 1 v] }, toks := tk } := by
  refine wpAny_pyIter_range (IsRange.new ..) (small_one h1 h2 h3 h4) ?_
  have I1 : Inv X pins σ H { s with heap := s.heap.push { cls := .type "range", data := .fields #[.int lo t, .int hi u, .int 1 v] }, toks := tk } := I.kept fun b o e => Heap.get?_push_of_some _ e
  refine ⟨(s.heap.push { cls := .type "range", data := .fields #[.int lo t, .int hi u, .int 1 v] }).objs.size, [(s.heap.push { cls := .type "range", data := .fields #[.int lo t, .int hi u, .int 1 v] }).objs.size], _, _, H, rfl,
    I1.kept (t' := tk) fun b o e => Heap.get?_push_of_some _ e, turn_range _ lo (hi - lo).toNat, ?_, fun b hb => ?_, q⟩
  · have e1 : lo + ((0 : Nat) : Int) * 1 = lo := by simp
    have e2 : (((hi - lo).toNat : Nat) : Int) - ((0 : Nat) : Int) = Builtin.Range.rangeSize lo hi 1 := by rw [rangeSize_one]; split <;> omega
    show IsRangeIter _ _ (lo + ((0 : Nat) : Int) * 1) ((((hi - lo).toNat : Nat) : Int) - ((0 : Nat) : Int)) 1
    rw [e1, e2]
    exact Heap.get?_push_size _ rfl
  · have e : b = (s.heap.push { cls := .type "range", data := .fields #[.int lo t, .int hi u, .int 1 v] }).objs.size := by simpa using hb
    subst e
    exact I1.fpOk (Nat.le_refl _) (I1.hok.fresh (Nat.le_refl _))
def iRng1 (ta : TA) : TI := fun σ H R => ta σ H fun vs H1 => ∃ j : Int, vs = [.int j] ∧ -(2 ^ 62) ≤ j ∧ j < 2 ^ 62 ∧ R (Itr 0 j.toNat) H1
theorem pi_range1 {a : Expr} {ta : TA} {p pos : Pos} (hg : Gl X "range") (hm : X.mg "range" = none) (ha : PA X [a] ta) (hs : starEach [a] X.env = [(false, eval a X.env)] := by rfl) : PI X tg (.Call (.Name "range" p) [a] [] pos) (iRng1 ta) := by
  intro pins s σ H R I h
  refine Call_ (ld_blt I hg hm boot_range (PyProof.Rows.callWith_type1 (thn (ha pos pins s σ H _ I h) fun us s1 ⟨vs, H1, I1, r1, q1⟩ => ?_) hs rfl))
  obtain ⟨j, e, q1, q2, q⟩ := q1
  subst e
  cases r1 with
  | cons r rr =>
    cases rr
    obtain ⟨t, rfl⟩ := r
    exact call_range_1 (range_it I1 (by omega) (by omega) q1 q2 (by simpa using q))
/-- W: the invariant by the turn and a measure; N: what the body is to reach -/
def tFor (wi : TI) (g : TG) (tb : TS) : TS := fun D σ H => wi σ H fun J H1 => ∃ W : Nat → Nat → St → Hp → Prop, (∃ m, W 0 m σ H1) ∧ ∀ i m σ H, W i m σ H →
  (J.stop i H ∧ D.nx σ H) ∨ (J.go i H ∧ ∃ N : St → Hp → Prop, (∀ σ' H', N σ' H' → ∃ m', m' < m ∧ W (i + 1) m' σ' H') ∧ ∀ x H', J.yld i H x H' → g x σ H' fun σ2 H2 => tb { D with nx := N, ct := N, bk := D.nx } σ2 H2)
/-- the records at fp as they stand -/
def pinsAt (fp : List Addr) (h : Heap) : List (Addr × Obj) := fp.filterMap fun b => (h.get? b).map fun o => (b, o)
theorem mem_pinsAt {fp : List Addr} {h : Heap} {b : Addr} {o : Obj} (hb : b ∈ fp) (e : h.get? b = some o) : (b, o) ∈ pinsAt fp h := List.mem_filterMap.mpr ⟨b, hb, by rw [e]; rfl⟩
theorem of_pinsAt {fp : List Addr} {h : Heap} {p : Addr × Obj} (hp : p ∈ pinsAt fp h) : p.1 ∈ fp ∧ h.get? p.1 = some p.2 := by
  obtain ⟨b, hb, e⟩ := List.mem_filterMap.mp hp
  cases q : h.get? b with
  | none => rw [q] at e; cases e
  | some o =>
    rw [q] at e
    have e' : (b, o) = p := Option.some.inj e
    subst e'
    exact ⟨hb, q⟩
theorem Inv.pinned {pins : List (Addr × Obj)} {σ : St} {H : Hp} {s : Shared} {fp : List Addr} (I : Inv X pins σ H s) (hf : ∀ b ∈ fp, FpOk X pins H b) (ho : ∀ b ∈ fp, ∃ o, s.heap.get? b = some o ∧ ∀ v, o.data ≠ .cell v) : Inv X (pins ++ pinsAt fp s.heap) σ H s :=
  I.pins_of fun p hp => (List.mem_append.mp hp).elim (fun z => I.pin p (List.mem_append_right _ z)) fun z => by
    obtain ⟨hb, e⟩ := of_pinsAt z
    obtain ⟨f0, f1, f2, _⟩ := hf p.1 hb
    obtain ⟨o, e', d⟩ := ho p.1 hb
    rw [e] at e'; cases e'
    exact ⟨e, f0, f1, f2, d⟩
theorem Inv.unpinned {pins pl : List (Addr × Obj)} {σ : St} {H : Hp} {s : Shared} (I : Inv X (pins ++ pl) σ H s) : Inv X pins σ H s := I.pins_of fun p hp => I.pin p (List.mem_append_right _ (List.mem_append_left _ hp))
theorem ps_for {iter : Expr} {body : List Stmt} {wi : TI} {g : TG} {tb : TS} {pos : Pos} (hp : PassesOwn (model X.prog X.w) X.A X.env X.xe) (hc : X.calm = true) (hi : PI X tg iter wi) (hg : PG X tg g) (hb : PSs X body tb)
    (hs : ∀ x, foldedSetIterable iter X.env x = pure x := by intro _; rfl) : PS X (.For tg iter body [] pos) (tFor wi g tb) := by
  intro pins s σ H D I h
  refine wpAny_For (thn (hi pins s σ H _ I h) fun v s1 h1 => thn h1 fun itv s2 h2 => ?_) hs
  obtain ⟨it, fp, tn, J, H2, e, I2, T, st2, f2, W, ⟨m0, w0⟩, turn⟩ := h2
  subst e
  -- what stays true of the iterator's objects through the loop
  have stat : ∀ {H' : Hp}, (∀ b ∈ fp, H' b = none) → ∀ b ∈ fp, FpOk X pins H' b := fun hn b hb => ⟨hn b hb, (f2 b hb).2⟩
  refine codeAny_forLoop_any (fun n s' => ∃ i σ' H', Inv X pins σ' H' s' ∧ tn i s'.heap ∧ (∀ b ∈ fp, H' b = none) ∧ W i n σ' H') ?_ m0 ⟨0, σ, H2, I2, st2, fun b hb => (f2 b hb).1, w0⟩
  rintro n s3 ⟨i, σ3, H3, I3, st3, fr3, w3⟩
  rcases turn i n σ3 H3 w3 with ⟨stop, qn⟩ | ⟨go, N, hN, step⟩
  · refine wpAny_passesOwn hp (thn (T.done X rfl rfl rfl hc i pins s3 σ3 H3 X.xe I3 (stat fr3) st3 stop) fun r s4 ⟨hr, I4⟩ => ?_)
    subst hr
    exact wpAny_execs_nil ⟨σ3, H3, I4, qn⟩
  · refine wpAny_passesOwn hp (thn (T.item X rfl rfl rfl hc i pins s3 σ3 H3 X.xe I3 (stat fr3) st3 go) fun r s4 ⟨u, hr, h4⟩ => ?_)
    subst hr
    refine wpAny_passesOwn hp (thn h4 fun _ s5 ⟨x, H5, I5, r5, y5, st5, fr5⟩ => ?_)
    have I5' := I5.pinned (stat fr5) (T.obj _ _ st5)
    refine wpAny_passesOwn hp (thn (hg _ s5 σ3 H5 x u _ I5' r5 (step x H5 y5)) fun _ s6 ⟨σ6, H6, I6, q6⟩ => ?_)
    refine wpAny_passesOwn hp (thn (hb _ s6 σ6 H6 _ I6 q6) fun f s7 q7 => ?_)
    have again : ∀ {σ7 : St} {H7 : Hp}, Inv X (pins ++ pinsAt fp s5.heap) σ7 H7 s7 → N σ7 H7 → ∃ m, m < n ∧ ∃ i σ' H', Inv X pins σ' H' s7 ∧ tn i s7.heap ∧ (∀ b ∈ fp, H' b = none) ∧ W i m σ' H' := fun {σ7 H7} I7 n7 => by
      obtain ⟨m', hm, w7⟩ := hN σ7 H7 n7
      refine ⟨m', hm, i + 1, σ7, H7, I7.unpinned, T.keep _ _ _ st5 fun b hb o e => (I7.pin (b, o) (List.mem_append_right _ (List.mem_append_right _ (mem_pinsAt hb e)))).1, fun b hb => ?_, w7⟩
      obtain ⟨o, e, d⟩ := T.obj _ _ st5 b hb
      exact (I7.pin (b, o) (List.mem_append_right _ (List.mem_append_right _ (mem_pinsAt hb e)))).2.1
    cases f with
    | next => obtain ⟨σ7, H7, I7, n7⟩ := q7; exact again I7 n7
    | cont => obtain ⟨σ7, H7, I7, n7⟩ := q7; exact again I7 n7
    | brk => obtain ⟨σ7, H7, I7, q7⟩ := q7; exact ⟨σ7, H7, I7.unpinned, q7⟩
    | ret v => obtain ⟨x7, σ7, H7, I7, r7, q7⟩ := q7; exact ⟨x7, σ7, H7, I7.unpinned, r7, q7⟩
end
/-- over a list that the body leaves as it is -/
theorem for_list {K : PySem.W.Frag} {a : Addr} {xs : List V} {g : TG} {tb : TS} {D : Ends} {σ : St} {H : Hp} (Pv : Nat → St → Hp → Prop) (h0 : Pv 0 σ H) (hl : ∀ i σ H, i ≤ xs.length → Pv i σ H → SqL K H a xs)
    (hs : ∀ i x σ H, xs[i]? = some x → Pv i σ H → g x σ H fun σ2 H2 => tb { D with nx := Pv (i + 1), ct := Pv (i + 1), bk := D.nx } σ2 H2) (hd : ∀ σ H, Pv xs.length σ H → D.nx σ H) :
    ∃ W : Nat → Nat → St → Hp → Prop, (∃ m, W 0 m σ H) ∧ ∀ i m σ H, W i m σ H →
      ((Itl K a).stop i H ∧ D.nx σ H) ∨ ((Itl K a).go i H ∧ ∃ N : St → Hp → Prop, (∀ σ' H', N σ' H' → ∃ m', m' < m ∧ W (i + 1) m' σ' H') ∧ ∀ x H', (Itl K a).yld i H x H' → g x σ H' fun σ2 H2 => tb { D with nx := N, ct := N, bk := D.nx } σ2 H2) := by
  refine ⟨fun i m σ H => m = xs.length - i ∧ i ≤ xs.length ∧ Pv i σ H, ⟨xs.length, by simp, Nat.zero_le _, h0⟩, ?_⟩
  rintro i m σ H ⟨rfl, hi, p⟩
  have q := hl i σ H hi p
  by_cases hlt : i < xs.length
  · refine .inr ⟨⟨xs, xs[i], q, by simp [hlt]⟩, Pv (i + 1), fun σ' H' p' => ⟨xs.length - (i + 1), by omega, rfl, hlt, p'⟩, fun x H' y => ?_⟩
    obtain ⟨e, y⟩ := y
    subst e
    exact hs i x σ _ (y xs q) p
  · have e : i = xs.length := by omega
    subst e
    exact .inl ⟨⟨xs, q, Nat.le_refl _⟩, hd σ H p⟩
theorem for_tup {K : PySem.W.Frag} {a : Addr} {xs : List V} {g : TG} {tb : TS} {D : Ends} {σ : St} {H : Hp} (Pv : Nat → St → Hp → Prop) (h0 : Pv 0 σ H) (hl : ∀ i σ H, i ≤ xs.length → Pv i σ H → SqT K H a xs)
    (hs : ∀ i x σ H, xs[i]? = some x → Pv i σ H → g x σ H fun σ2 H2 => tb { D with nx := Pv (i + 1), ct := Pv (i + 1), bk := D.nx } σ2 H2) (hd : ∀ σ H, Pv xs.length σ H → D.nx σ H) :
    ∃ W : Nat → Nat → St → Hp → Prop, (∃ m, W 0 m σ H) ∧ ∀ i m σ H, W i m σ H →
      ((Itt K a).stop i H ∧ D.nx σ H) ∨ ((Itt K a).go i H ∧ ∃ N : St → Hp → Prop, (∀ σ' H', N σ' H' → ∃ m', m' < m ∧ W (i + 1) m' σ' H') ∧ ∀ x H', (Itt K a).yld i H x H' → g x σ H' fun σ2 H2 => tb { D with nx := N, ct := N, bk := D.nx } σ2 H2) := by
  refine ⟨fun i m σ H => m = xs.length - i ∧ i ≤ xs.length ∧ Pv i σ H, ⟨xs.length, by simp, Nat.zero_le _, h0⟩, ?_⟩
  rintro i m σ H ⟨rfl, hi, p⟩
  have q := hl i σ H hi p
  by_cases hlt : i < xs.length
  · refine .inr ⟨⟨xs, xs[i], q, by simp [hlt]⟩, Pv (i + 1), fun σ' H' p' => ⟨xs.length - (i + 1), by omega, rfl, hlt, p'⟩, fun x H' y => ?_⟩
    obtain ⟨e, y⟩ := y
    subst e
    exact hs i x σ _ (y xs q) p
  · have e : i = xs.length := by omega
    subst e
    exact .inl ⟨⟨xs, q, Nat.le_refl _⟩, hd σ H p⟩
theorem for_range {lo : Int} {n : Nat} {g : TG} {tb : TS} {D : Ends} {σ : St} {H : Hp} (Pv : Nat → St → Hp → Prop) (h0 : Pv 0 σ H)
    (hs : ∀ i σ H, i < n → Pv i σ H → g (.int (lo + i)) σ H fun σ2 H2 => tb { D with nx := Pv (i + 1), ct := Pv (i + 1), bk := D.nx } σ2 H2) (hd : ∀ σ H, Pv n σ H → D.nx σ H) :
    ∃ W : Nat → Nat → St → Hp → Prop, (∃ m, W 0 m σ H) ∧ ∀ i m σ H, W i m σ H →
      ((Itr lo n).stop i H ∧ D.nx σ H) ∨ ((Itr lo n).go i H ∧ ∃ N : St → Hp → Prop, (∀ σ' H', N σ' H' → ∃ m', m' < m ∧ W (i + 1) m' σ' H') ∧ ∀ x H', (Itr lo n).yld i H x H' → g x σ H' fun σ2 H2 => tb { D with nx := N, ct := N, bk := D.nx } σ2 H2) := by
  refine ⟨fun i m σ H => m = n - i ∧ i ≤ n ∧ Pv i σ H, ⟨n, by simp, Nat.zero_le _, h0⟩, ?_⟩
  rintro i m σ H ⟨rfl, hi, p⟩
  by_cases hlt : i < n
  · refine .inr ⟨hlt, Pv (i + 1), fun σ' H' p' => ⟨n - (i + 1), by omega, rfl, hlt, p'⟩, fun x H' y => ?_⟩
    obtain ⟨e, y⟩ := y
    subst e y
    exact hs i σ _ hlt p
  · have e : i = n := by omega
    subst e
    exact .inl ⟨Nat.le_refl _, hd σ H p⟩
end L2
namespace L2
open PySem PySem.Spec PyProof.Rows
abbrev R2 := V → V → Hp → VK → Prop
/-- a two-place operation on values: f is binaryOp op, inplaceOp op or compareOp op -/
def OpR (X : Cx) (f : Value → Value → Sem Value) (r : R2) : Prop :=
  ∀ (pins : List (Addr × Obj)) (s : Shared) (σ : St) (H : Hp) (x y : V) (v u : Value) (Q : VK), Inv X pins σ H s → RelV x v → RelV y u → r x y H Q →
    wpAny (model X.prog X.w) X.A (f v u) (EP X pins σ Q) X.xe s
/-- a one-place operation -/
def UnR (X : Cx) (f : Value → Sem Value) (r : V → Hp → VK → Prop) : Prop :=
  ∀ (pins : List (Addr × Obj)) (s : Shared) (σ : St) (H : Hp) (x : V) (v : Value) (Q : VK), Inv X pins σ H s → RelV x v → r x H Q →
    wpAny (model X.prog X.w) X.A (f v) (EP X pins σ Q) X.xe s
/-- a call of a value that is known (a builtin, a type) with values -/
def CallR (X : Cx) (f : Value) (r : List V → Hp → VK → Prop) : Prop :=
  ∀ (pins : List (Addr × Obj)) (s : Shared) (σ : St) (H : Hp) (xs : List V) (us : List Value) (Q : VK), Inv X pins σ H s → Vals xs us → r xs H Q →
    wpAny (model X.prog X.w) X.A (call f us) (EP X pins σ Q) X.xe s
def tOp (r : R2) (ta tb : TE) : TE := fun σ H Q => ta σ H fun x H1 => tb σ H1 fun y H2 => r x y H2 Q
def tUn (r : V → Hp → VK → Prop) (ta : TE) : TE := fun σ H Q => ta σ H fun x H1 => r x H1 Q
/-- ints in, under C, and a value out -/
def rI (C : Int → Int → Prop) (g : Int → Int → V) : R2 := fun x y H Q => ∃ i j, x = .int i ∧ y = .int j ∧ C i j ∧ Q (g i j) H
def rI0 (g : Int → Int → V) : R2 := fun x y H Q => ∃ i j, x = .int i ∧ y = .int j ∧ Q (g i j) H
def rU (g : Int → V) : V → Hp → VK → Prop := fun x H Q => ∃ i, x = .int i ∧ Q (g i) H
section
variable {X : Cx} {a b c : Expr} {ta tb tc : TE} {pos : Pos}
theorem binT (ha : PE X a ta) (hb : PE X b tb) {pins : List (Addr × Obj)} {s : Shared} {σ : St} {H : Hp} {R : V → V → Hp → Prop} (I : Inv X pins σ H s)
    (h : ta σ H fun x H1 => tb σ H1 fun y H2 => R x y H2) {Q : Value → Shared → Prop} {f : Value → Value → Sem Value}
    (hf : ∀ v u s2 x y H2, Inv X pins σ H2 s2 → RelV x v → RelV y u → R x y H2 → wpAny (model X.prog X.w) X.A (f v u) Q X.xe s2) :
    wpAny (model X.prog X.w) X.A (eval a X.env) (fun v s₁ => wpAny (model X.prog X.w) X.A (eval b X.env) (fun u s₂ => wpAny (model X.prog X.w) X.A (f v u) Q X.xe s₂) X.xe s₁) X.xe s := by
  refine thn (ha pins s σ H _ I h) fun v s1 ⟨x, H1, I1, r1, q1⟩ => ?_
  refine thn (hb pins s1 σ H1 _ I1 q1) fun u s2 ⟨y, H2, I2, r2, q2⟩ => ?_
  exact hf v u s2 x y H2 I2 r1 r2 q2
theorem pe_op {op : Operator} {r : R2} (ho : OpR X (binaryOp op) r) (ha : PE X a ta) (hb : PE X b tb) : PE X (.BinOp a op b pos) (tOp r ta tb) := by
  intro pins s σ H Q I h
  exact wpAny_BinOp (binT ha hb I h fun v u s2 x y H2 I2 rx ry q => ho pins s2 σ H2 x y v u Q I2 rx ry q)
theorem pe_un {op : UnaryOp} {r : V → Hp → VK → Prop} (ho : UnR X (unaryOp op) r) (ha : PE X a ta) : PE X (.UnaryOp op a pos) (tUn r ta) := by
  intro pins s σ H Q I h
  exact UnaryOp_ (thn (ha pins s σ H _ I h) fun v s1 ⟨x, H1, I1, r1, q1⟩ => ho pins s1 σ H1 x v Q I1 r1 q1)
theorem opI {f : Value → Value → Sem Value} {C : Int → Int → Prop} {g : Int → Int → Int}
    (rule : ∀ (i j : Int) (t u : Tok) (s : Shared) (Q : Value → Shared → Prop) (E : Value → Shared → Prop), C i j → Q (.int (g i j) s.toks) { s with toks := s.toks + 1 } → wpAny (model X.prog X.w) X.A (f (.int i t) (.int j u)) Q E s) :
    OpR X f (rI C fun i j => .int (g i j)) := by
  intro pins s σ H x y v u Q I rx ry h
  obtain ⟨i, j, rfl, rfl, hc, q⟩ := h
  obtain ⟨t, rfl⟩ := rx
  obtain ⟨t', rfl⟩ := ry
  exact rule i j t t' s _ _ hc ⟨.int (g i j), H, I.tok _, ⟨_, rfl⟩, q⟩
theorem opI0 {f : Value → Value → Sem Value} {g : Int → Int → Int}
    (rule : ∀ (i j : Int) (t u : Tok) (s : Shared) (Q : Value → Shared → Prop) (E : Value → Shared → Prop), Q (.int (g i j) s.toks) { s with toks := s.toks + 1 } → wpAny (model X.prog X.w) X.A (f (.int i t) (.int j u)) Q E s) :
    OpR X f (rI0 fun i j => .int (g i j)) := by
  intro pins s σ H x y v u Q I rx ry h
  obtain ⟨i, j, rfl, rfl, q⟩ := h
  obtain ⟨t, rfl⟩ := rx
  obtain ⟨t', rfl⟩ := ry
  exact rule i j t t' s _ _ ⟨.int (g i j), H, I.tok _, ⟨_, rfl⟩, q⟩
theorem opB0 {f : Value → Value → Sem Value} {g : Int → Int → Bool}
    (rule : ∀ (i j : Int) (t u : Tok) (s : Shared) (Q : Value → Shared → Prop) (E : Value → Shared → Prop), Q (.bool (g i j)) s → wpAny (model X.prog X.w) X.A (f (.int i t) (.int j u)) Q E s) :
    OpR X f (rI0 fun i j => .bl (g i j)) := by
  intro pins s σ H x y v u Q I rx ry h
  obtain ⟨i, j, rfl, rfl, q⟩ := h
  obtain ⟨t, rfl⟩ := rx
  obtain ⟨t', rfl⟩ := ry
  exact rule i j t t' s _ _ ⟨.bl (g i j), H, I, rfl, q⟩
def CDiv (i j : Int) : Prop := 0 < j ∧ j < 1073741824
def CMul (i j : Int) : Prop := (-(2 ^ 64) < i ∧ i < 2 ^ 64) ∨ (-(2 ^ 64) < j ∧ j < 2 ^ 64)
theorem CMul.ok {i j : Int} (h : CMul i j) : IntMulOk i j := by
  rcases h with ⟨h1, h2⟩ | ⟨h1, h2⟩
  · exact .of_left (intBits_le_64 h1 h2)
  · exact .of_right (intBits_le_64 h1 h2)
theorem op_add : OpR X (binaryOp .Add) (rI0 fun i j => .int (i + j)) := opI0 fun _ _ _ _ _ _ _ q => add_int q
theorem op_sub : OpR X (binaryOp .Sub) (rI0 fun i j => .int (i - j)) := opI0 fun _ _ _ _ _ _ _ q => sub_int q
theorem op_mul : OpR X (binaryOp .Mult) (rI CMul fun i j => .int (i * j)) := opI fun _ _ _ _ _ _ _ hc q => mul_int q hc.ok
/-- // by a positive divisor -/
theorem op_fdiv : OpR X (binaryOp .FloorDiv) (rI CDiv fun i j => .int (i / j)) := opI fun i j _ _ _ _ _ hc q => by
  have h1 : (0 : Int) < j := hc.1
  have h2 : j < 1073741824 := hc.2
  exact floordiv_int (by omega) (by rw [Int.fdiv_eq_ediv_of_nonneg i (by omega)]; exact q) (.inl (PyProof.noPylong_small (by omega)))
theorem unI {f : Value → Sem Value} {g : Int → Int}
    (rule : ∀ (i : Int) (t : Tok) (s : Shared) (Q : Value → Shared → Prop) (E : Value → Shared → Prop), Q (.int (g i) s.toks) { s with toks := s.toks + 1 } → wpAny (model X.prog X.w) X.A (f (.int i t)) Q E s) :
    UnR X f (rU fun i => .int (g i)) := by
  intro pins s σ H x v Q I rx h
  obtain ⟨i, rfl, q⟩ := h
  obtain ⟨t, rfl⟩ := rx
  exact rule i t s _ _ ⟨.int (g i), H, I.tok _, ⟨_, rfl⟩, q⟩
theorem un_neg : UnR X (unaryOp .USub) (rU fun i => .int (-i)) := unI fun _ _ _ _ _ q => neg_int q
end
/-- the scalars that == tells apart as data does -/
def scal : V → V → Bool
  | .non, .non => true | .non, .int _ => true | .int _, .non => true | .non, .bl _ => true | .bl _, .non => true | .non, .str _ => true | .str _, .non => true
  | .int _, .int _ => true | .bl _, .bl _ => true | .str _, .str _ => true | .byt _, .byt _ => true
  | .int _, .str _ => true | .str _, .int _ => true | .bl _, .str _ => true | .str _, .bl _ => true
  | _, _ => false
def rEq : R2 := fun x y H Q => scal x y = true ∧ Q (.bl (decide (x = y))) H
def rNe : R2 := fun x y H Q => scal x y = true ∧ Q (.bl (!decide (x = y))) H
theorem dec_int {i j : Int} : decide (V.int i = V.int j) = (i == j) := by
  rw [Bool.eq_iff_iff]
  simp
theorem dec_bl {i j : Bool} : decide (V.bl i = V.bl j) = (i == j) := by
  rw [Bool.eq_iff_iff]
  simp
theorem dec_str {i j : Str} : decide (V.str i = V.str j) = (i == j) := by
  rw [Bool.eq_iff_iff]
  simp
theorem dec_byt {i j : Array UInt8} : decide (V.byt i = V.byt j) = (i.toList == j.toList) := by
  rw [Bool.eq_iff_iff]
  cases i
  cases j
  simp
section
variable {X : Cx} {a b c : Expr} {ta tb tc : TE} {pos : Pos}
theorem fin_bl {pins : List (Addr × Obj)} {σ : St} {H : Hp} {s : Shared} {Q : VK} {k k' : Bool} (I : Inv X pins σ H s) (q : Q (.bl k) H) (e : k = k') : EP X pins σ Q (.bool k') s := by
  subst e
  exact ⟨.bl k, H, I, rfl, q⟩
theorem op_eq : OpR X (compareOp .Eq) rEq := by
  intro pins s σ H x y v u Q I rx ry h
  obtain ⟨hs, q⟩ := h
  cases x with
  | non =>
    cases rx
    cases y with
    | non => cases ry; exact PySem.EqNone.eq_none_none (fin_bl I q (by simp))
    | bl j => cases ry; exact PySem.EqNone.eq_none_bool (fin_bl I q (by simp))
    | int j => obtain ⟨t', rfl⟩ := ry; exact PySem.EqNone.eq_none_int (fin_bl I q (by simp))
    | str j => obtain ⟨t', rfl⟩ := ry; exact PySem.EqNone.eq_none_str (fin_bl I q (by simp))
    | _ => exact absurd (show false = true from hs) Bool.false_ne_true
  | bl i =>
    cases rx
    cases y with
    | non => cases ry; exact PySem.EqNone.eq_bool_none (fin_bl I q (by simp))
    | bl j => cases ry; exact eq_bool (fin_bl I q dec_bl)
    | str j => obtain ⟨t', rfl⟩ := ry; exact PySem.EqMixed.eq_bool_str (fin_bl I q (by simp))
    | _ => exact absurd (show false = true from hs) Bool.false_ne_true
  | int i =>
    obtain ⟨t, rfl⟩ := rx
    cases y with
    | non => cases ry; exact PySem.EqNone.eq_int_none (fin_bl I q (by simp))
    | int j => obtain ⟨t', rfl⟩ := ry; exact eq_int (fin_bl I q dec_int)
    | str j => obtain ⟨t', rfl⟩ := ry; exact PySem.EqMixed.eq_int_str (fin_bl I q (by simp))
    | _ => exact absurd (show false = true from hs) Bool.false_ne_true
  | str i =>
    obtain ⟨t, rfl⟩ := rx
    cases y with
    | non => cases ry; exact PySem.EqNone.eq_str_none (fin_bl I q (by simp))
    | bl j => cases ry; exact PySem.EqMixed.eq_str_bool (fin_bl I q (by simp))
    | int j => obtain ⟨t', rfl⟩ := ry; exact PySem.EqMixed.eq_str_int (fin_bl I q (by simp))
    | str j => obtain ⟨t', rfl⟩ := ry; exact eq_str (fin_bl I q dec_str)
    | _ => exact absurd (show false = true from hs) Bool.false_ne_true
  | byt i =>
    obtain ⟨t, rfl⟩ := rx
    cases y with
    | byt j => obtain ⟨t', rfl⟩ := ry; exact PySem.W.eq_bytes (fin_bl I q dec_byt)
    | _ => exact absurd (show false = true from hs) Bool.false_ne_true
  | _ => cases y <;> exact absurd (show false = true from hs) Bool.false_ne_true
theorem op_ne : OpR X (compareOp .NotEq) rNe := by
  intro pins s σ H x y v u Q I rx ry h
  obtain ⟨hs, q⟩ := h
  cases x with
  | non =>
    cases rx
    cases y with
    | non => cases ry; exact PySem.EqNone.ne_none_none (fin_bl I q (by simp))
    | bl j => cases ry; exact PySem.EqNone.ne_none_bool (fin_bl I q (by simp))
    | int j => obtain ⟨t', rfl⟩ := ry; exact PySem.EqNone.ne_none_int (fin_bl I q (by simp))
    | str j => obtain ⟨t', rfl⟩ := ry; exact PySem.EqNone.ne_none_str (fin_bl I q (by simp))
    | _ => exact absurd (show false = true from hs) Bool.false_ne_true
  | bl i =>
    cases rx
    cases y with
    | non => cases ry; exact PySem.EqNone.ne_bool_none (fin_bl I q (by simp))
    | bl j => cases ry; exact ne_bool (fin_bl I q (congrArg not dec_bl))
    | str j => obtain ⟨t', rfl⟩ := ry; exact PySem.EqMixed.ne_bool_str (fin_bl I q (by simp))
    | _ => exact absurd (show false = true from hs) Bool.false_ne_true
  | int i =>
    obtain ⟨t, rfl⟩ := rx
    cases y with
    | non => cases ry; exact PySem.EqNone.ne_int_none (fin_bl I q (by simp))
    | int j => obtain ⟨t', rfl⟩ := ry; exact ne_int (fin_bl I q (congrArg not dec_int))
    | str j => obtain ⟨t', rfl⟩ := ry; exact PySem.EqMixed.ne_int_str (fin_bl I q (by simp))
    | _ => exact absurd (show false = true from hs) Bool.false_ne_true
  | str i =>
    obtain ⟨t, rfl⟩ := rx
    cases y with
    | non => cases ry; exact PySem.EqNone.ne_str_none (fin_bl I q (by simp))
    | bl j => cases ry; exact PySem.EqMixed.ne_str_bool (fin_bl I q (by simp))
    | int j => obtain ⟨t', rfl⟩ := ry; exact PySem.EqMixed.ne_str_int (fin_bl I q (by simp))
    | str j => obtain ⟨t', rfl⟩ := ry; exact ne_str (fin_bl I q (congrArg not dec_str))
    | _ => exact absurd (show false = true from hs) Bool.false_ne_true
  | byt i =>
    obtain ⟨t, rfl⟩ := rx
    cases y with
    | byt j => obtain ⟨t', rfl⟩ := ry; exact PySem.W.ne_bytes (fin_bl I q (congrArg not dec_byt))
    | _ => exact absurd (show false = true from hs) Bool.false_ne_true
  | _ => cases y <;> exact absurd (show false = true from hs) Bool.false_ne_true
theorem op_lt : OpR X (compareOp .Lt) (rI0 fun i j => .bl (decide (i < j))) := opB0 fun _ _ _ _ _ _ _ q => lt_int q
theorem op_le : OpR X (compareOp .LtE) (rI0 fun i j => .bl (decide (i ≤ j))) := opB0 fun _ _ _ _ _ _ _ q => le_int q
theorem op_gt : OpR X (compareOp .Gt) (rI0 fun i j => .bl (decide (j < i))) := opB0 fun _ _ _ _ _ _ _ q => gt_int q
/-- is None, is not None: the right side a value none -/
theorem op_isN : OpR X (compareOp .Is) (fun x y H Q => y = .non ∧ Q (.bl (decide (x = .non))) H) := by
  intro pins s σ H x y v u Q I rx ry h
  obtain ⟨rfl, q⟩ := h
  cases ry
  refine is_none_gen (fin_bl I q ?_)
  cases x <;> first
    | (cases rx; rfl)
    | (obtain ⟨t, rfl⟩ := rx; rfl)
theorem nomark (b : Expr) {op : CmpOp} (h : op ≠ .In := by decide) (h2 : op ≠ .NotIn := by decide) : behindInMarks op b = false := by
  have e1 : (op == CmpOp.In) = false := by cases op <;> first | rfl | exact absurd rfl h
  have e2 : (op == CmpOp.NotIn) = false := by cases op <;> first | rfl | exact absurd rfl h2
  cases b <;> simp [behindInMarks, e1, e2]
/-- a comparison as a value; hm: nomark b, or (for in, not in) by with_unfolding_all rfl -/
theorem pe_cmpR {op : CmpOp} {r : R2} (ho : OpR X (compareOp op) r) (ha : PE X a ta) (hb : PE X b tb) (hm : behindInMarks op b = false) : PE X (.Compare a [op] [b] pos) (tOp r ta tb) := by
  intro pins s σ H Q I h
  exact wpAny_Compare1 (binT ha hb I h fun v u s2 x y H2 I2 rx ry q => ho pins s2 σ H2 x y v u Q I2 rx ry q) hm
/-- a reading of a value as a test -/
def tTest (t : TE) : TT := fun σ H Q => t σ H fun x H' => ∃ k, x = .bl k ∧ Q k H'
theorem pt_cmpR {op : CmpOp} {r : R2} (ho : OpR X (compareOp op) r) (ha : PE X a ta) (hb : PE X b tb) (hm : behindInMarks op b = false) : PT X (.Compare a [op] [b] pos) (tTest (tOp r ta tb)) := by
  intro pins s σ H Q I h
  refine wpAny_isTrue_Compare1 (thn (ha pins s σ H _ I h) fun v s1 ⟨x, H1, I1, r1, q1⟩ => thn (hb pins s1 σ H1 _ I1 q1) fun u s2 ⟨y, H2, I2, r2, q2⟩ =>
    thn (ho pins s2 σ H2 x y v u _ I2 r1 r2 q2) fun c s3 ⟨z, H3, I3, r3, k, e, q3⟩ => ?_) hm
  subst e
  cases r3
  exact wpAny_truthy_bool ⟨H3, I3, q3⟩
/-- a op1 b op2 c -/
def tChain (r r' : R2) (ta tb tc : TE) : TE := fun σ H Q => ta σ H fun x H1 => tb σ H1 fun y H2 => r x y H2 fun z H3 => ∃ k, z = .bl k ∧
  (if k = true then tc σ H3 fun w' H4 => r' y w' H4 Q else Q (.bl false) H3)
theorem pe_chain {op op' : CmpOp} {r r' : R2} (ho : OpR X (compareOp op) r) (ho' : OpR X (compareOp op') r') (ha : PE X a ta) (hb : PE X b tb) (hc : PE X c tc)
    (hm : lastMarks [op, op'] [b, c] = false := by with_unfolding_all rfl) : PE X (.Compare a [op, op'] [b, c] pos) (tChain r r' ta tb tc) := by
  intro pins s σ H Q I h
  refine Compare_chain (thn (ha pins s σ H _ I h) fun v s1 ⟨x, H1, I1, r1, q1⟩ => chain_link (thn (hb pins s1 σ H1 _ I1 q1) fun u s2 ⟨y, H2, I2, r2, q2⟩ =>
    thn (ho pins s2 σ H2 x y v u _ I2 r1 r2 q2) fun d s3 ⟨z, H3, I3, r3, k, e, q3⟩ => ?_)) hm
  subst e
  cases r3
  refine wpAny_truthy_bool ?_
  cases k with
  | false => exact ite_ff ⟨.bl false, H3, I3, rfl, q3⟩
  | true => exact ite_tt (chain_last (thn (hc pins s3 σ H3 _ I3 q3) fun w' s4 ⟨z', H4, I4, r4, q4⟩ => ho' pins s4 σ H4 y z' u w' Q I4 r2 r4 q4))
theorem pt_chain {op op' : CmpOp} {r r' : R2} (ho : OpR X (compareOp op) r) (ho' : OpR X (compareOp op') r') (ha : PE X a ta) (hb : PE X b tb) (hc : PE X c tc)
    (hm : lastMarks [op, op'] [b, c] = false := by with_unfolding_all rfl) : PT X (.Compare a [op, op'] [b, c] pos) (tTest (tChain r r' ta tb tc)) := by
  intro pins s σ H Q I h
  refine isTrue_chain (thn (ha pins s σ H _ I h) fun v s1 ⟨x, H1, I1, r1, q1⟩ => test_link (thn (hb pins s1 σ H1 _ I1 q1) fun u s2 ⟨y, H2, I2, r2, q2⟩ =>
    thn (ho pins s2 σ H2 x y v u _ I2 r1 r2 q2) fun d s3 ⟨z, H3, I3, r3, k, e, q3⟩ => ?_)) hm
  subst e
  cases r3
  refine wpAny_truthy_bool ?_
  cases k with
  | false =>
    obtain ⟨k', e', q'⟩ := q3
    cases e'
    exact ite_ff ⟨H3, I3, q'⟩
  | true =>
    refine ite_tt (test_last (thn (hc pins s3 σ H3 _ I3 q3) fun w' s4 ⟨z', H4, I4, r4, q4⟩ => thn (ho' pins s4 σ H4 y z' u w' _ I4 r2 r4 q4) fun d' s5 ⟨z2, H5, I5, r5, k2, e2, q5⟩ => ?_))
    subst e2
    cases r5
    exact wpAny_truthy_bool ⟨H5, I5, q5⟩
theorem line63 : (sizeLine : Nat) < 2 ^ 63 := by rw [sizeLine_eq]; decide
theorem vals1 {x : V} {us : List Value} (r : Vals [x] us) : ∃ u, us = [u] ∧ RelV x u := by
  cases r with
  | cons r1 r2 => cases r2; exact ⟨_, rfl, r1⟩
theorem vals2 {x y : V} {us : List Value} (r : Vals [x, y] us) : ∃ u w', us = [u, w'] ∧ RelV x u ∧ RelV y w' := by
  cases r with
  | cons r1 r2 =>
    cases r2 with
    | cons r3 r4 => cases r4; exact ⟨_, _, rfl, r1, r3⟩
theorem call_max2 (hc : X.calm = true) : CallR X (.builtin "max") (fun xs H Q => ∃ i j, xs = [.int i, .int j] ∧ Q (.int (if j > i then j else i)) H) := by
  intro pins s σ H xs us Q I r h
  obtain ⟨i, j, rfl, q⟩ := h
  obtain ⟨u, w', rfl, ⟨t, rfl⟩, ⟨t', rfl⟩⟩ := vals2 r
  refine max_two_ints (I.ok.hd hc) fun h' tk k => ⟨_, H, I.kept k, ?_, q⟩
  by_cases hj : j > i
  · rw [if_pos hj, if_pos hj]; exact ⟨_, rfl⟩
  · rw [if_neg hj, if_neg hj]; exact ⟨_, rfl⟩
theorem call_min2 (hc : X.calm = true) : CallR X (.builtin "min") (fun xs H Q => ∃ i j, xs = [.int i, .int j] ∧ Q (.int (if j < i then j else i)) H) := by
  intro pins s σ H xs us Q I r h
  obtain ⟨i, j, rfl, q⟩ := h
  obtain ⟨u, w', rfl, ⟨t, rfl⟩, ⟨t', rfl⟩⟩ := vals2 r
  refine min_two_ints (I.ok.hd hc) fun h' tk k => ⟨_, H, I.kept k, ?_, q⟩
  by_cases hj : j < i
  · rw [if_pos hj, if_pos hj]; exact ⟨_, rfl⟩
  · rw [if_neg hj, if_neg hj]; exact ⟨_, rfl⟩
end
end L2
namespace L2
open PySem PySem.Spec PyProof.Rows
structure ObjM (h : Heap) (x dx C : Addr) (mA : Str → Option Value) : Prop where
  obj : h.get? x = some (PySem.W.instObj C dx)
  ns : h.Ns1 dx mA
  ne : dx ≠ x
theorem lookIn_ns {h : Heap} {dx : Addr} {mA : Str → Option Value} (n : h.Ns1 dx mA) : ∃ od, h.get? dx = some od ∧ ∀ name, PySem.W.lookIn name od = some (mA name) := by
  obtain ⟨o, es, ep, ho, hd, hk, _, hm⟩ := n
  refine ⟨o, ho, fun name => ?_⟩
  have e := hm name
  unfold nsFind findBy at e
  rw [← Array.find?_toList] at e
  unfold PySem.W.lookIn
  rw [hd]
  dsimp only
  split
  · rename_i y q
    rw [q] at e
    exact congrArg some e
  · rename_i q
    rw [q] at e
    have a : es.toList.any (·.refKey) = false := by
      rw [List.any_eq_false]
      intro y hy
      obtain ⟨z, t, hkey⟩ := hk y (Array.mem_toList_iff.mp hy)
      simp [DictEntry.refKey, hkey]
    have a' : ¬ es.toList.any (·.refKey) = true := by rw [a]; exact Bool.false_ne_true
    rw [if_neg a']
    exact congrArg some e
theorem ObjM.look {h : Heap} {x dx C : Addr} {mA : Str → Option Value} (I : ObjM h x dx C mA) : ∃ od, PySem.W.InstAt h x (PySem.W.instObj C dx) C (some od) ∧ ∀ name, PySem.W.lookIn name od = some (mA name) :=
  let ⟨od, ho, hl⟩ := lookIn_ns I.ns
  ⟨od, ⟨I.obj, rfl, rfl, ho⟩, hl⟩
section
variable {prog : Program} {w : World} {A : Around} {E : Value → Shared → Prop} {s : Shared} {K : PySem.W.Frag} {x dx C f : Addr} {mA : Str → Option Value} {name : Str} {v : Value}
theorem get_map {expr : Bool} {Q : Value → Shared → Prop} (X : K.In s.heap) (I : ObjM s.heap x dx C mA) (hg : PySem.W.plainGet K C name = true) (hh : PySem.W.hasDictIn K C = true)
    (ha : PySem.W.findIn K (.ref C) name = some none) (hv : mA name = some v) (hv' : PySem.W.handedIn v = true) (h : Q v { s with toks := s.toks + 1 }) :
    wpAny (model prog w) A (getAttr (.ref x) name expr) Q E s := by
  obtain ⟨od, J, hl⟩ := I.look
  exact PySem.W.get_value X J (PySem.W.plainGet_of hg).1 (PySem.W.findObj_own hh ha rfl (by rw [hl, hv])) hv' h
theorem get_meth {pl : Sem Bool} {Q : Value × List Value → Shared → Prop} (X : K.In s.heap) (I : ObjM s.heap x dx C mA) (hg : PySem.W.plainGet K C name = true)
    (hf : PySem.W.findIn K (.ref C) name = some (some (.ref f))) (ht : PySem.W.isFn K (.ref f) = true) (hv : mA name = none) (h : Q (.ref f, [.ref x]) s) :
    wpAny (model prog w) A (getMethod (.ref x) name pl) Q E s := by
  obtain ⟨od, J, hl⟩ := I.look
  exact PySem.W.method_fn X J (PySem.W.plainGet_of hg).1 (PySem.W.plainGet_of hg).2 hf (beq_iff_eq.mp ht) (by show (PySem.W.lookIn name od).map (·.isSome) = some false; rw [hl, hv]; rfl) h
theorem set_map {ns : List Str} {Q : Unit → Shared → Prop} (X : K.In s.heap) (I : ObjM s.heap x dx C mA)
    (hs : PySem.W.findIn K (.ref C) "__setattr__" = some (some (.builtin "object.__setattr__"))) (hp : PySem.W.plainOver K C = true) (ht : PySem.W.takerIn K C name = some none) (hh : PySem.W.hasDictIn K C = true)
    (hw : PySem.Within mA ns) (hsz : ns.length ≤ sizeLine)
    (h : ∀ h', ObjM h' x dx C (fun y => if y = name then some v else mA y) → Heap.SameBut dx s.heap h' → Q () { s with heap := h', toks := s.toks + 2 }) :
    wpAny (model prog w) A (setAttr (.ref x) name v) Q E s := by
  obtain ⟨od, J, hl⟩ := I.look
  refine PySem.W.set_plain X J hs (PySem.W.osa_open (s := { s with toks := s.toks + 1 }) (r := none) X J hp ht fun b => ?_)
  obtain ⟨cd, hc, hd'⟩ := PySem.W.any_some hh
  have hx : s.heap.get? x = some ⟨.ref C, some dx, .plain, #[]⟩ := I.obj
  refine wpAny_bind (wpAny_pure (wpAny_bind (wpAny_bind (wpAny_loadPart hx (wpAny_bind (PySem.W.Looks.here (s := { s with toks := s.toks + 1 }) (PySem.W.looks_clsIn X hc) ?_))))))
  rw [hd']
  refine wpAny_pure (a := some dx) (wpAny_bind (wpAny_pure (wpAny_bind ?_)))
  refine wpAny_nsSet1 (s := { s with toks := s.toks + 1 }) I.ns fun h' hn2 hs2 => ?_
  obtain ⟨oD, esD, epD, hoD, hdD, hcD⟩ := hn2.count (PySem.Within.cons name v hw)
  refine wpAny_bind (wpAny_lookBehind hoD (by rw [hdD]; exact pastItsLine_dict (Nat.le_trans hcD (by rw [List.length_cons]; omega))) ?_)
  exact wpAny_pure (h _ ⟨(hs2.2 _ (Ne.symm I.ne)).trans I.obj, hn2, I.ne⟩ hs2)
/-- C(..): the dict at the heap's end, the instance behind it; then its __init__ -/
theorem make_map {R : Result → Shared → Prop} {vs : List Value} {kw : List (Str × Value)} (X : K.In s.heap) (hm : PySem.W.makesIn K C = true)
    (hi : PySem.W.findIn K (.ref C) "__init__" = some (some (.ref f))) (hf : PySem.W.typeIn K (.ref f) = some (.type "function"))
    (h : codeAny (model prog w) (A.under (.builtin "type.__call__" ⟨.ref C :: vs, kw⟩)) (.call (.ref f) ⟨.ref (s.heap.objs.size + 1) :: vs, kw⟩) (PySem.W.InitBack (s.heap.objs.size + 1) R)
      { s with heap := (s.heap.push PySem.W.emptyDict).push (PySem.W.instObj C s.heap.objs.size) }) :
    codeAny (model prog w) A (.call (.ref C) ⟨vs, kw⟩) R s := by
  obtain ⟨hh, g, d, t, os⟩ := s
  exact PySem.W.make_core (PySem.W.makes_of X hm) (PySem.W.looks_findIn X hi) (fun self => PySem.W.bind_fn X self hf) (.inl rfl) h
end
def putF (f : Str) (v : V) : List (Str × V) → List (Str × V)
  | [] => [(f, v)]
  | (g, x) :: r => if g = f then (g, v) :: r else (g, x) :: putF f v r
theorem lookup_putF (f g : Str) (v : V) : ∀ fs : List (Str × V), (putF f v fs).lookup g = if g = f then some v else fs.lookup g
  | [] => by
    show List.lookup g [(f, v)] = _
    by_cases h : g = f
    · have hb : (g == f) = true := beq_iff_eq.mpr h
      simp only [List.lookup, hb, if_pos h]
    · have hb : (g == f) = false := beq_eq_false_iff_ne.mpr h
      simp only [List.lookup, hb, if_neg h]
  | (k, x) :: r => by
    have ih := lookup_putF f g v r
    rw [show putF f v ((k, x) :: r) = (if k = f then (k, v) :: r else (k, x) :: putF f v r) from rfl]
    by_cases hk : k = f
    · rw [if_pos hk]
      by_cases h : g = k
      · have hb : (g == k) = true := beq_iff_eq.mpr h
        simp only [List.lookup, hb, if_pos (h.trans hk)]
      · have hb : (g == k) = false := beq_eq_false_iff_ne.mpr h
        simp only [List.lookup, hb, if_neg (fun e : g = f => h (e.trans hk.symm))]
    · rw [if_neg hk]
      by_cases h : g = k
      · have hb : (g == k) = true := beq_iff_eq.mpr h
        simp only [List.lookup, hb, if_neg (fun e : g = f => hk (h.symm.trans e))]
      · have hb : (g == k) = false := beq_eq_false_iff_ne.mpr h
        simp only [List.lookup, hb]
        exact ih
theorem keys_putF (f : Str) (v : V) : ∀ fs : List (Str × V), f ∈ (putF f v fs).map (·.1) ∧ ∀ g, g ∈ fs.map (·.1) → g ∈ (putF f v fs).map (·.1)
  | [] => ⟨by simp [putF], fun g h => by simp at h⟩
  | (k, x) :: r => by
    obtain ⟨i1, i2⟩ := keys_putF f v r
    rw [show putF f v ((k, x) :: r) = (if k = f then (k, v) :: r else (k, x) :: putF f v r) from rfl]
    by_cases hk : k = f
    · rw [if_pos hk]
      subst hk
      exact ⟨by simp, fun g h => by simpa using h⟩
    · rw [if_neg hk]
      refine ⟨?_, fun g h => ?_⟩
      · rw [List.map_cons]
        exact List.mem_cons_of_mem _ i1
      · rw [List.map_cons] at h ⊢
        rcases List.mem_cons.mp h with e | e
        · exact List.mem_cons.mpr (.inl e)
        · exact List.mem_cons_of_mem _ (i2 g e)
theorem length_putF (f : Str) (v : V) : ∀ fs : List (Str × V), (putF f v fs).length ≤ fs.length + 1
  | [] => by simp [putF]
  | (k, x) :: r => by
    have ih := length_putF f v r
    rw [show putF f v ((k, x) :: r) = (if k = f then (k, v) :: r else (k, x) :: putF f v r) from rfl]
    by_cases hk : k = f
    · rw [if_pos hk, List.length_cons, List.length_cons]; omega
    · rw [if_neg hk, List.length_cons, List.length_cons]; omega
theorem RelO.some_of {v : V} {o : Option Value} (r : RelO (some v) o) : ∃ u, o = some u ∧ RelV v u := by
  cases o with
  | none => exact (show False from r).elim
  | some u => exact ⟨u, rfl, r⟩
theorem RelO.none_of {o : Option Value} (r : RelO none o) : o = none := by
  cases o with
  | none => rfl
  | some u => exact (show False from r).elim
theorem handed_of {v : V} {u : Value} (r : RelV v u) : PySem.W.handedIn u = true := by
  cases v with
  | non => cases (show u = Value.none from r); rfl
  | bl b => cases (show u = Value.bool b from r); rfl
  | int i => obtain ⟨t, e⟩ := (show ∃ t, u = Value.int i t from r); cases e; rfl
  | str x => obtain ⟨t, e⟩ := (show ∃ t, u = Value.str x t from r); cases e; rfl
  | byt b => obtain ⟨t, e⟩ := (show ∃ t, u = Value.bytes b t from r); cases e; rfl
  | flt b => obtain ⟨t, e⟩ := (show ∃ t, u = Value.float b t from r); cases e; rfl
  | ref a => cases (show u = Value.ref a from r); rfl
  | ty n => cases (show u = Value.type n from r); rfl
section
variable {P : Program} {w : World} {H H' : Hp} {h h' : Heap} {a C dx : Addr} {fs fs' : List (Str × V)}
theorem ins_get (hok : HOk P w H h) (e : H a = some (.ins C dx fs)) : ∃ mA, ObjM h a dx C mA ∧ (∀ f, RelO (fs.lookup f) (mA f)) ∧ PySem.Within mA (fs.map (·.1)) ∧ fs.length ≤ 1000 ∧ H dx = some (.own a) := by
  obtain ⟨d, z, ne, ob, mA, n, r, q⟩ := (show ObjOk P w H h a (.ins C dx fs) from hok a _ e)
  exact ⟨mA, ⟨ob, n, ne⟩, r, q, z, d⟩
end
structure Cls (K : PySem.W.Frag) (C : Addr) : Prop where
  pg : PySem.W.plainGet K C Str.empty = true
  hd : PySem.W.hasDictIn K C = true
  po : PySem.W.plainOver K C = true
  sa : PySem.W.findIn K (.ref C) "__setattr__" = some (some (.builtin "object.__setattr__"))
theorem Cls.get {K : PySem.W.Frag} {C : Addr} (c : Cls K C) (f : Str) : PySem.W.plainGet K C f = true := c.pg
/-- no class of it has the name -/
def NoAttr (K : PySem.W.Frag) (C : Addr) (f : Str) : Prop := PySem.W.findIn K (.ref C) f = some none
theorem NoAttr.taker {K : PySem.W.Frag} {C : Addr} {f : Str} (n : NoAttr K C f) : PySem.W.takerIn K C f = some none := by
  unfold PySem.W.takerIn
  rw [show PySem.W.findIn K (.ref C) f = some none from n]
  rfl
/-- a method: a plain def of the class or of one above it -/
structure Meth (K : PySem.W.Frag) (C : Addr) (m : Str) (f : Addr) : Prop where
  at_ : PySem.W.findIn K (.ref C) m = some (some (.ref f))
  fn : PySem.W.isFn K (.ref f) = true
  kp : PySem.W.keepIn K (.ref f) = true
section
variable {X : Cx} {pins : List (Addr × Obj)} {σ : St} {H : Hp} {s : Shared} {a C dx : Addr} {fs : List (Str × V)} {f : Str} {v : V} {A : Around} {E : Value → Shared → Prop}
theorem getattr_ok {b : Bool} {Q : Value → Shared → Prop} (I : Inv X pins σ H s) (e : H a = some (.ins C dx fs)) (c : Cls X.K C) (n : NoAttr X.K C f) (l : fs.lookup f = some v)
    (h : ∀ u s', Inv X pins σ H s' → RelV v u → Q u s') : wpAny (model X.prog X.w) A (getAttr (.ref a) f b) Q E s := by
  obtain ⟨mA, O, r, _, _, _⟩ := ins_get I.hok e
  obtain ⟨u, hu, ru⟩ := RelO.some_of (v := v) (o := mA f) (by rw [← l]; exact r f)
  exact get_map I.kIn O (c.get f) c.hd n hu (handed_of ru) (h u _ (I.tok _) ru)
theorem getmeth_ok {m : Str} {g : Addr} {pl : Sem Bool} {Q : Value × List Value → Shared → Prop} (I : Inv X pins σ H s) (e : H a = some (.ins C dx fs)) (c : Cls X.K C) (k : Meth X.K C m g) (l : fs.lookup m = none)
    (h : Q (.ref g, [.ref a]) s) : wpAny (model X.prog X.w) A (getMethod (.ref a) m pl) Q E s := by
  obtain ⟨mA, O, r, _, _, _⟩ := ins_get I.hok e
  have hn : mA m = none := RelO.none_of (by rw [← l]; exact r m)
  exact get_meth I.kIn O (c.get m) k.at_ k.fn hn h
theorem setattr_ok {y : V} {u : Value} {Q : Unit → Shared → Prop} (I : Inv X pins σ H s) (e : H a = some (.ins C dx fs)) (c : Cls X.K C) (n : NoAttr X.K C f) (hl : fs.length < 1000) (ry : RelV y u)
    (h : ∀ s', Inv X pins σ (upd H a (.ins C dx (putF f y fs))) s' → Q () s') : wpAny (model X.prog X.w) A (setAttr (.ref a) f u) Q E s := by
  obtain ⟨mA, O, r, wi, _, ho⟩ := ins_get I.hok e
  have hz : (fs.map (·.1)).length ≤ sizeLine := by rw [List.length_map, sizeLine_eq]; omega
  refine set_map I.kIn O c.sa c.po n.taker c.hd wi hz fun h' O' sb => h _ ?_
  have hd : ∃ o, h'.get? dx = some o := let ⟨o, _, _, e', _⟩ := O'.ns; ⟨o, e'⟩
  refine I.write (x := a) (e := dx) (by rw [e]; exact True.intro) (.inr ho) (fun b q hb z => (sb.2 b hb).trans z) hd ?_
  refine ⟨by rw [upd_ne O.ne]; exact ho, ?_, O.ne, O'.obj, _, O'.ns, fun g => ?_, fun g hg => ?_⟩
  · have := length_putF f y fs; omega
  · show RelO ((putF f y fs).lookup g) (if g = f then some u else mA g)
    rw [lookup_putF]
    by_cases q : g = f
    · rw [if_pos q, if_pos q]; exact ry
    · rw [if_neg q, if_neg q]; exact r g
  · by_cases q : g = f
    · rw [q]; exact (keys_putF f y fs).1
    · refine (keys_putF f y fs).2 g (wi g fun z => hg ?_)
      show (if g = f then some u else mA g) = none
      rw [if_neg q]; exact z
/-- a new instance, tracked, without attributes -/
theorem Inv.made (I : Inv X pins σ H s) : Inv X pins σ (upd (upd H s.heap.objs.size (.own (s.heap.objs.size + 1))) (s.heap.objs.size + 1) (.ins C s.heap.objs.size []))
    { s with heap := (s.heap.push PySem.W.emptyDict).push (PySem.W.instObj C s.heap.objs.size) } := by
  have e1 : (s.heap.push PySem.W.emptyDict).get? s.heap.objs.size = some PySem.W.emptyDict := Heap.get?_push_size s.heap rfl
  have e2 : ((s.heap.push PySem.W.emptyDict).push (PySem.W.instObj C s.heap.objs.size)).get? (s.heap.objs.size + 1) = some (PySem.W.instObj C s.heap.objs.size) := by
    have := Heap.get?_push_size (s.heap.push PySem.W.emptyDict) (o := PySem.W.instObj C s.heap.objs.size) rfl
    rwa [Heap.size_push] at this
  have e3 : (s.heap.push PySem.W.emptyDict).Ns s.heap.objs.size (fun _ => none) := ⟨PySem.W.emptyDict, #[], _, e1, rfl, (fun e he => absurd he (by simp)), fun _ => rfl⟩
  have I1 := I.laid (a := s.heap.objs.size) (o := .own (s.heap.objs.size + 1)) (h' := s.heap.push PySem.W.emptyDict) (t' := s.toks) (fun b u q => Heap.get?_push_of_some _ q) (Nat.le_refl _) ⟨_, e1⟩
  refine I1.laid (a := s.heap.objs.size + 1) (o := .ins C s.heap.objs.size []) (t' := s.toks) (fun b u q => Heap.get?_push_of_some _ q) (Nat.le_of_eq (Heap.size_push _ _)) ?_
  have ne : s.heap.objs.size ≠ s.heap.objs.size + 1 := Nat.ne_of_lt (Nat.lt_succ_self _)
  refine ⟨by rw [upd_ne ne, upd_same], Nat.zero_le _, ne, e2, fun _ => none, (Heap.Ns1.of_empty e3).at fun o q => Heap.get?_push_of_some _ q, fun _ => True.intro, fun y hy => absurd rfl hy⟩
/-- e.f where nothing but the object is asked: through attributeBase (super) and the last hold -/
theorem attr_of {prog : Program} {w : World} {env : Env} {e : Expr} {f : Str} {pos : Pos} {s : Shared} {Q : Value → Shared → Prop} (hb : attributeBase e f env (eval e env) = eval e env)
    (h : wpAny (model prog w) A (eval e env) (fun o s₁ => wpAny (model prog w) A (getAttr o f true) Q E s₁) E s) : wpAny (model prog w) A (eval (.Attribute e f pos) env) Q E s :=
  Attribute_any_ h (by rw [arm_eval_Attribute, hb])
end
/-- e.f, an attribute of the instance -/
def tFld (K : PySem.W.Frag) (ta : TE) (f : Str) : TE := fun σ H Q => ta σ H fun x H1 => ∃ a C dx fs v, x = .ref a ∧ H1 a = some (.ins C dx fs) ∧ Cls K C ∧ NoAttr K C f ∧ fs.lookup f = some v ∧ Q v H1
/-- e.f = value -/
def sFld (K : PySem.W.Frag) (ta tv : TE) (f : Str) : TS := fun D σ H => tv σ H fun y H1 => ta σ H1 fun x H2 => ∃ a C dx fs, x = .ref a ∧ H2 a = some (.ins C dx fs) ∧ Cls K C ∧ NoAttr K C f ∧ fs.length < 1000 ∧
  D.nx σ (upd H2 a (.ins C dx (putF f y fs)))
section
variable {X : Cx} {o e value : Expr} {f : Str} {pos pos' tpos : Pos} {ta tv : TE}
theorem pe_fld (he : PE X e ta) (hb : attributeBase e f X.env (eval e X.env) = eval e X.env) : PE X (.Attribute e f pos) (tFld X.K ta f) := by
  intro pins s σ H Q I h
  refine attr_of hb (thn (he pins s σ H _ I h) fun u s1 ⟨x, H1, I1, rx, a, C, dx, fs, v, ex, ea, c, n, l, q⟩ => ?_)
  subst ex
  obtain rfl : u = Value.ref a := rx
  exact getattr_ok I1 ea c n l fun u' s2 I2 ru => ⟨v, H1, I2, ru, q⟩
theorem ps_fld (ha : PE X o ta) (hv : PE X value tv) (hs : swapsWith value (some (.Attribute o f pos')) pos.line X.env = pure false) : PS X (.Assign [.Attribute o f pos'] value pos) (sFld X.K ta tv f) := by
  intro pins s σ H D I h
  refine plainObj_wpAny_Assign_Attribute (thn (hv pins s σ H _ I h) fun u s1 ⟨y, H1, I1, ry, q⟩ => thn (ha pins s1 σ H1 _ I1 q) fun ov s2 ⟨x, H2, I2, rx, a, C, dx, fs, ex, ea, c, n, l, q2⟩ => ?_) hs
  subst ex
  obtain rfl : ov = Value.ref a := rx
  exact setattr_ok I2 ea c n l ry fun s3 I3 => ⟨σ, _, I3, q2⟩
end
section
variable {X : Cx} {pins : List (Addr × Obj)} {σ : St} {H : Hp} {s : Shared} {A : Around} {E : Value → Shared → Prop} {Q : Value → Shared → Prop} {c : Value} {b : Bool}
end
end L2
namespace L2
open PySem PySem.Spec PyProof.Rows
structure Room (k : Nat) (A : Around) : Prop where
  hd : A.handled = none
  dp : A.depth + 3 * k + 5 < recursionLimit
  un : A.units + 16 * k + 200 < cLine
theorem Room.mono {j k : Nat} {A : Around} (r : Room k A) (h : j ≤ k) : Room j A := ⟨r.hd, by have := r.dp; omega, by have := r.un; omega⟩
theorem Room.deeper {k : Nat} {A : Around} (r : Room (k + 1) A) (env : Env) : Room k (A.deeper env) :=
  ⟨r.hd, by have := r.dp; show A.depth + 1 + 3 * k + 5 < _; omega, by have := r.un; show A.units + 3 + 16 * k + 200 < _; omega⟩
theorem make_depth {A : Around} {C : Addr} {us : List Value} {kw : List (Str × Value)} : (A.under (.builtin "type.__call__" ⟨.ref C :: us, kw⟩)).depth = A.depth + 1 := by
  first | rfl | simp [Around.under, Code.weight, Code.isCreation, Code.isGuard, Code.isCaller, Code.frames, Code.isFrame, guardIds]
theorem make_units {A : Around} {C : Addr} {us : List Value} {kw : List (Str × Value)} : (A.under (.builtin "type.__call__" ⟨.ref C :: us, kw⟩)).units = A.units + 1 := by
  first | rfl | simp [Around.under, Code.cUnits, Code.frames, Code.isFrame]
theorem Room.make {k : Nat} {A : Around} (r : Room (k + 1) A) (C : Addr) (us : List Value) (kw : List (Str × Value)) : Room k (A.under (.builtin "type.__call__" ⟨.ref C :: us, kw⟩)) :=
  ⟨r.hd, by have := r.dp; rw [make_depth]; omega, by have := r.un; rw [make_units]; omega⟩
theorem Room.depth {k : Nat} {A : Around} (r : Room k A) : A.depth < recursionLimit := by have := r.dp; omega
def tNil : TA := fun _ H Q => Q [] H
def tCons (ta : TE) (tr : TA) : TA := fun σ H Q => ta σ H fun x H1 => tr σ H1 fun xs H2 => Q (x :: xs) H2
section
variable {X : Cx} {e : Expr} {es : List Expr} {te : TE} {t : TA} {pos : Pos}
theorem pa_nil : PA X [] tNil := fun _ _ _ _ H Q I h => Calls.spliced_nil ⟨[], H, I, .nil, h⟩
theorem pa_cons (ha : PE X e te) (hr : PA X es t) (hs : starEach (e :: es) X.env = (false, eval e X.env) :: starEach es X.env := by rfl) : PA X (e :: es) (tCons te t) := by
  intro pos pins s σ H Q I h
  rw [hs]
  show wpAny _ _ (spliced ((false, eval e X.env) :: backTo pos (starEach es X.env))) _ _ s
  refine Calls.spliced_cons (thn (ha pins s σ H _ I h) fun u s1 ⟨x, H1, I1, r1, q1⟩ => ?_)
  exact thn (hr pos pins s1 σ H1 _ I1 q1) fun us s2 ⟨xs, H2, I2, r2, q2⟩ => ⟨x :: xs, H2, I2, .cons r1 r2, q2⟩
/-- a tuple, a list of written items -/
def tTup (t : TA) : TE := fun σ H Q => t σ H fun xs H1 => xs.length ≤ sizeLine ∧ ∀ p, H1 p = none → Q (.ref p) (upd H1 p (.tup xs))
def tLst (t : TA) : TE := fun σ H Q => t σ H fun xs H1 => xs.length ≤ sizeLine ∧ ∀ p, H1 p = none → Q (.ref p) (upd H1 p (.lst xs))
theorem pe_tup {x1} (h : PA X es t) : PE X (.Tuple es x1 pos) (tTup t) := by
  intro pins s σ H Q I hq
  refine wpAny_Tuple_spliced (thn (h pos pins s σ H _ I hq) fun us s1 ⟨xs, H1, I1, r, z, q⟩ => ⟨by rw [← r.length]; exact z, ?_⟩)
  have hf : H1 s1.heap.objs.size = none := I1.hok.fresh (Nat.le_refl _)
  refine ⟨.ref s1.heap.objs.size, upd H1 s1.heap.objs.size (.tup xs), I1.laid (t' := s1.toks) (fun b u e => Heap.get?_push_of_some _ e) (Nat.le_refl _) ?_, rfl, q _ hf⟩
  exact ⟨z, us, r, ⟨_, Heap.get?_push_size _ rfl, rfl, _, rfl⟩⟩
theorem pe_lst (h : PA X es t) : PE X (.List es pos) (tLst t) := by
  intro pins s σ H Q I hq
  refine wpAny_List_spliced (thn (h pos pins s σ H _ I hq) fun us s1 ⟨xs, H1, I1, r, z, q⟩ => ⟨by rw [← r.length]; exact z, ?_⟩)
  have hf : H1 s1.heap.objs.size = none := I1.hok.fresh (Nat.le_refl _)
  refine ⟨.ref s1.heap.objs.size, upd H1 s1.heap.objs.size (.lst xs), I1.laid (t' := s1.toks) (fun b u e => Heap.get?_push_of_some _ e) (Nat.le_refl _) ?_, rfl, q _ hf⟩
  exact ⟨z, us, 0, r, Heap.get?_push_size _ rfl⟩
end
/-- a def's promise: the bound arguments in the parameters' order, the heap, the wanted end, the wanted exception -/
abbrev Sp := List V → Hp → VK → XK → Prop
/-- how an exception lies behind a call (file 08 gives it): the callers' frames, abstract heap and state ahead of the call, the wish, the exception, the state -/
abbrev CXT := List Env → Hp → Shared → XK → Value → Shared → Prop
/-- the state at a call -/
structure Env0 (P : Program) (w : World) (K : PySem.W.Frag) (mg : Str → Option Value) (base : Heap) (A : Around) (outer : List Env) (s : Shared) (H : Hp) : Prop where
  frames : A.frames = some outer
  mod : Mod K mg base
  bs : ∀ b o, base.get? b = some o → s.heap.get? b = some o ∧ H b = none
  bsz : base.objs.size ≤ s.heap.objs.size
  funs : s.heap.FunFrames base outer
  frf : ∀ b ∈ frs outer, H b = none
  hok : HOk P w H s.heap
  bare : AllBare s.gens
/-- a call's end -/
def CE (outer : List Env) (P : Program) (w : World) (H : Hp) (s : Shared) (Q : VK) (u : Value) (s' : Shared) : Prop :=
  ∃ v H', s'.os = s.os ∧ AllBare s'.gens ∧ Un (frs outer) [] H H' s.heap s'.heap ∧ HOk P w H' s'.heap ∧ RelV v u ∧ Q v H'
def CR (CX : CXT) (outer : List Env) (P : Program) (w : World) (H : Hp) (s : Shared) (Q : VK) (E : XK) (r : Result) (s' : Shared) : Prop :=
  match r with
  | .ok (.ret u) => CE outer P w H s Q u s'
  | .ok _ => False
  | .error e => CX outer H s E e s'
structure FnOk (P : Program) (w : World) (K : PySem.W.Frag) (mg : Str → Option Value) (base : Heap) (CX : CXT) (k : Nat) (f : Addr) (fd : FuncData) (ps : List Str) (sp : Sp) : Prop where
  len : ∀ vs H Q E, sp vs H Q E → vs.length = ps.length
  run : ∀ (A : Around) (outer : List Env) (s : Shared) (H : Hp) (args : Args) (us : List Value) (vs : List V) (Q : VK) (E : XK), Room k A → Env0 P w K mg base A outer s H → BindsTo s fd args (ps.zip us) → Vals vs us → sp vs H Q E →
    codeAny (model P w) A (.call (.ref f) args) (CR CX outer P w H s Q E) s
theorem FnOk.mono {P : Program} {w : World} {K : PySem.W.Frag} {mg : Str → Option Value} {base : Heap} {CX : CXT} {j k : Nat} {f : Addr} {fd : FuncData} {ps : List Str} {sp : Sp} (F : FnOk P w K mg base CX j f fd ps sp) (h : j ≤ k) :
    FnOk P w K mg base CX k f fd ps sp := ⟨F.len, fun A outer s H args us vs Q E hr => F.run A outer s H args us vs Q E (hr.mono h)⟩
theorem Env0.make {P : Program} {w : World} {K : PySem.W.Frag} {mg : Str → Option Value} {base : Heap} {A : Around} {outer : List Env} {s : Shared} {H : Hp} (e : Env0 P w K mg base A outer s H) (C : Addr) (us : List Value) (kw : List (Str × Value)) :
    Env0 P w K mg base (A.under (.builtin "type.__call__" ⟨.ref C :: us, kw⟩)) outer s H := ⟨by first | exact e.frames | (simpa [Around.under, Code.envs, Code.isFrame, pushEnvs] using e.frames), e.mod, e.bs, e.bsz, e.funs, e.frf, e.hok, e.bare⟩
section
variable {X : Cx} {pins : List (Addr × Obj)} {σ : St} {H : Hp} {s s' : Shared}
/-- from a body: what a callee wants -/
theorem Inv.env0 (I : Inv X pins σ H s) : Env0 X.prog X.w X.K X.mg X.base X.A X.stack s H :=
  ⟨I.ok.frames, I.ok.mod, I.bs, Nat.le_trans I.ok.bsz I.sz, I.stack, I.stkFree, I.hok, I.bare⟩
/-- behind a call -/
theorem Inv.after {Q : VK} {u : Value} (I : Inv X pins σ H s) (h : CE X.stack X.prog X.w H s Q u s') : EP X pins σ Q u s' := by
  obtain ⟨v, H', os, bare, un, hok, r, q⟩ := h
  obtain ⟨hh, g, d, t, os'⟩ := s'
  obtain rfl : os' = s.os := os
  exact ⟨v, H', I.call (h' := hh) (g' := g) (d' := d) (t' := t) (ch := []) un hok bare (fun b z => absurd z (by simp)), r, q⟩
end
/-- f(..): the written arguments, then the defaults dvs; E: what is wanted of an exception -/
def tCall (sp : Sp) (dvs : List V) (E : XK) (t : TA) : TE := fun σ H Q => t σ H fun vs H1 => sp (vs ++ dvs) H1 Q E
/-- o.m(..) of an instance of the class at C -/
def tMeth (C : Addr) (m : Str) (sp : Sp) (dvs : List V) (E : XK) (ta : TE) (t : TA) : TE := fun σ H Q => ta σ H fun x H1 => ∃ a dx fs, x = .ref a ∧ H1 a = some (.ins C dx fs) ∧ fs.lookup m = none ∧
  t σ H1 fun vs H2 => sp (x :: (vs ++ dvs)) H2 Q E
/-- how the parameters are bound: us the positional arguments, kw the keywords' values by name, ds the defaults that fill up -/
def Binds (K : PySem.W.Frag) (fd : FuncData) (ps : List Str) (ds : List Value) : Prop :=
  ∀ (s : Shared) (us : List Value), K.In s.heap → (us ++ ds).length = ps.length → BindsTo s fd ⟨us, []⟩ (ps.zip (us ++ ds))
/-- every parameter is given -/
theorem Binds.all {K : PySem.W.Frag} {fd : FuncData} {ps : List Str} (h : ∀ us : List Value, us.length = ps.length → bindArgs fd ⟨us, []⟩ = pure (ps.zip us)) : Binds K fd ps [] := fun s us _ hl => by
  rw [List.append_nil] at hl ⊢
  exact .of_eq (h us hl)
/-- an exception of a callee reaches what this body wants of exceptions -/
def Passes (CX : CXT) (X : Cx) (E : XK) : Prop := ∀ (pins : List (Addr × Obj)) (σ : St) (H : Hp) (s : Shared) (e : Value) (s' : Shared), Inv X pins σ H s → CX X.stack H s E e s' → X.xe e s'
section
variable {X : Cx} {CX : CXT} {k : Nat} {f C : Addr} {fd : FuncData} {ps : List Str} {sp : Sp} {dvs : List V} {ds : List Value} {E : XK} {x m : Str} {p pos apos : Pos} {e o : Expr} {es : List Expr} {ta : TE} {t : TA}
/-- the callee runs -/
theorem run_fn {pins : List (Addr × Obj)} {σ : St} {H : Hp} {s : Shared} {Q : VK} {us : List Value} {vs : List V} (F : FnOk X.prog X.w X.K X.mg X.base CX k f fd ps sp) (hr : Room k X.A) (hb : Binds X.K fd ps ds) (hd : Vals dvs ds) (hx : Passes CX X E)
    (I : Inv X pins σ H s) (r : Vals vs us) (h : sp (vs ++ dvs) H Q E) : wpAny (model X.prog X.w) X.A (call (.ref f) us) (EP X pins σ Q) X.xe s := by
  have r2 : Vals (vs ++ dvs) (us ++ ds) := r.append hd
  have hl : (us ++ ds).length = ps.length := by rw [← r2.length]; exact F.len _ _ _ _ h
  refine wpAny_call (codeAny_mono (F.run X.A X.stack s H ⟨us, []⟩ (us ++ ds) (vs ++ dvs) Q E hr I.env0 (hb s us I.kIn hl) r2 h) fun r s' hq => ?_)
  cases r with
  | error e => exact hx pins σ H s e s' I hq
  | ok fl =>
    cases fl with
    | ret u => exact I.after hq
    | next => exact False.elim hq
    | brk => exact False.elim hq
    | cont => exact False.elim hq
theorem pe_call (F : FnOk X.prog X.w X.K X.mg X.base CX k f fd ps sp) (hr : Room k X.A) (hg : Gl X x) (hm : X.mg x = some (.ref f)) (hk : PySem.W.keepIn X.K (.ref f) = true) (hb : Binds X.K fd ps ds) (hd : Vals dvs ds) (hx : Passes CX X E)
    (ha : PA X (e :: es) t) (hdb : (x == ("__debug__" : Str)) = false := by decide) (he : starEach (e :: es) X.env = (false, eval e X.env) :: starEach es X.env := by rfl) (hpl : (backTo pos (starEach es X.env)).any (·.1) = false := by rfl) :
    PE X (.Call (.Name x p) (e :: es) [] pos) (tCall sp dvs E t) := by
  intro pins s σ H Q I h
  refine wpAny_Call_Name_kw (ld_glob I hg hm ?_ hdb)
  refine PySem.W.callWith_K (h₀ := X.base) I.ok.mod.kin hk (thn (ha pos pins s σ H _ I h) fun us s1 ⟨vs, H1, I1, r, q⟩ => ⟨I1.kIn, ?_⟩) he hpl
  exact run_fn F hr hb hd hx I1 r q
theorem pe_call0 (F : FnOk X.prog X.w X.K X.mg X.base CX k f fd ps sp) (hr : Room k X.A) (hg : Gl X x) (hm : X.mg x = some (.ref f)) (hk : PySem.W.keepIn X.K (.ref f) = true) (hb : Binds X.K fd ps ds) (hd : Vals dvs ds) (hx : Passes CX X E)
    (hdb : (x == ("__debug__" : Str)) = false := by decide) : PE X (.Call (.Name x p) [] [] pos) (tCall sp dvs E tNil) := by
  intro pins s σ H Q I h
  refine wpAny_Call_Name_kw (ld_glob I hg hm ?_ hdb)
  exact PySem.W.callWith_K0 I.kIn hk (run_fn (us := []) F hr hb hd hx I .nil h)
/-- o.m(e, ..) -/
theorem pe_meth {pl : Sem Bool} (he : PE X o ta) (c : Cls X.K C) (hm : Meth X.K C m f) (F : FnOk X.prog X.w X.K X.mg X.base CX k f fd ps sp) (hr : Room k X.A) (hb : Binds X.K fd ps ds) (hd : Vals dvs ds) (hx : Passes CX X E) (ha : PA X (e :: es) t)
    (hst : starEach (e :: es) X.env = (false, eval e X.env) :: starEach es X.env := by rfl) (hpl : (backTo pos (starEach es X.env)).any (·.1) = false := by rfl)
    (ht : eval (.Call (.Attribute o m apos) (e :: es) [] pos) X.env = (do
      let ov ← eval o X.env
      standAt apos.atName
      let (f, first) ← holding [ov] (getMethod ov m pl)
      callWith pos f first (backTo pos (starEach (e :: es) X.env)) (backToKw pos (keywordEach [] X.env))) := by rfl) :
    PE X (.Call (.Attribute o m apos) (e :: es) [] pos) (tMeth C m sp dvs E ta t) := by
  intro pins s σ H Q I h
  refine PySem.W.methodCall_KW (pl := pl) (thn (he pins s σ H _ I h) fun u s1 ⟨x, H1, I1, rx, a, dx, fs, ex, ea, l, q⟩ => ?_) ht
  subst ex
  obtain rfl : u = Value.ref a := rx
  refine getmeth_ok I1 ea c hm l ?_
  refine PySem.W.callWith_K (first := [.ref a]) (h₀ := X.base) I.ok.mod.kin hm.kp (thn (ha pos pins s1 σ H1 _ I1 q) fun us s2 ⟨vs, H2, I2, r, q2⟩ => ⟨I2.kIn, ?_⟩) hst hpl
  exact run_fn (us := .ref a :: us) (vs := .ref a :: vs) F hr hb hd hx I2 (.cons rfl r) q2
/-- what a class must have to be made -/
structure Mk (K : PySem.W.Frag) (C f : Addr) : Prop where
  makes : PySem.W.makesIn K C = true
  init : PySem.W.findIn K (.ref C) "__init__" = some (some (.ref f))
  fn : PySem.W.isFn K (.ref f) = true
  kp : PySem.W.keepIn K (.ref C) = true
theorem run_make {pins : List (Addr × Obj)} {σ : St} {H : Hp} {s : Shared} {Q : VK} {us : List Value} {vs : List V} (M : Mk X.K C f) (F : FnOk X.prog X.w X.K X.mg X.base CX k f fd ps sp) (hr : Room (k + 1) X.A) (hb : Binds X.K fd ps ds) (hd : Vals dvs ds)
    (hx : Passes CX X E) (I : Inv X pins σ H s) (r : Vals vs us)
    (h : ∀ x dx, H x = none → H dx = none → dx ≠ x → sp (.ref x :: (vs ++ dvs)) (upd (upd H dx (.own x)) x (.ins C dx [])) (fun v H2 => v = .non ∧ Q (.ref x) H2) E) :
    wpAny (model X.prog X.w) X.A (call (.ref C) us) (EP X pins σ Q) X.xe s := by
  have hq := h (s.heap.objs.size + 1) s.heap.objs.size (I.hok.fresh (Nat.le_succ _)) (I.hok.fresh (Nat.le_refl _)) (Nat.ne_of_lt (Nat.lt_succ_self _))
  have I2 := Inv.made (C := C) I
  have r2 : Vals (V.ref (s.heap.objs.size + 1) :: (vs ++ dvs)) (Value.ref (s.heap.objs.size + 1) :: (us ++ ds)) := .cons rfl (r.append hd)
  have hl : (Value.ref (s.heap.objs.size + 1) :: us ++ ds).length = ps.length := by
    have e := r2.length
    rw [F.len _ _ _ _ hq] at e
    exact e.symm
  refine wpAny_call (make_map (f := f) I.kIn M.makes M.init (beq_iff_eq.mp M.fn) (codeAny_mono (F.run _ X.stack _ _ ⟨Value.ref (s.heap.objs.size + 1) :: us, []⟩ (Value.ref (s.heap.objs.size + 1) :: (us ++ ds)) _ _ E (hr.make C us [])
    (I2.env0.make C us []) (hb _ (Value.ref (s.heap.objs.size + 1) :: us) I2.kIn hl) r2 hq) fun r s' hq' => ?_))
  cases r with
  | error e => exact hx pins σ _ _ e s' I2 hq'
  | ok fl =>
    cases fl with
    | ret u =>
      obtain ⟨v, H', I3, rv, ev, q3⟩ := I2.after hq'
      subst ev
      exact ⟨rv, ⟨V.ref (s.heap.objs.size + 1), H', I3, rfl, q3⟩⟩
    | next => exact False.elim hq'
    | brk => exact False.elim hq'
    | cont => exact False.elim hq'
end
section
variable {X : Cx} {CX : CXT} {k : Nat} {f C : Addr} {fd : FuncData} {ps ks : List Str} {sp : Sp} {E : XK} {x m : Str} {p pos apos kpos : Pos} {e o : Expr} {es : List Expr} {kws : List Keyword} {te ta : TE} {t tk : TA} {nm : Option Str}
variable {g : List Value → List Value → List Value} {gV : List V → List V → List V}
end
/-- names: the parameters first -/
structure FnScope (N P : List Str) (sc : Scope) : Prop where
  kind : sc.kind = .function
  co : sc.isCoroutine = false
  gen : sc.isGenerator = false
  nd : N.Nodup
  pre : N.take P.length = P
  par : ∀ x ∈ P, sc.names.lookup x = some .local ∨ sc.names.lookup x = some .cell
  nofree : ∀ y ∈ sc.names, y.2 ≠ .free
theorem bindL_out {kindOf : Str → Option NameKind} {x : Str} : ∀ {binds : List (Str × Value)} {m : Str → Option Value}, (∀ v, (x, v) ∉ binds) → bindL kindOf binds m x = m x
  | [], _, _ => rfl
  | (n, v) :: r, m, h => by
    unfold bindL
    rw [bindL_out fun w hw => h w (List.mem_cons_of_mem _ hw)]
    split
    · have : x ≠ n := by rintro rfl; exact h v List.mem_cons_self
      simp [this]
    · rfl
theorem bindC_out {kindOf : Str → Option NameKind} {x : Str} : ∀ {binds : List (Str × Value)} {m : Str → Option Value}, (∀ v, (x, v) ∉ binds) → bindC kindOf binds m x = m x
  | [], _, _ => rfl
  | (n, v) :: r, m, h => by
    unfold bindC
    rw [bindC_out fun w hw => h w (List.mem_cons_of_mem _ hw)]
    split
    · rfl
    · have : x ≠ n := by rintro rfl; exact h v List.mem_cons_self
      simp [this]
theorem bindL_get {kindOf : Str → Option NameKind} {x : Str} {v : Value} : ∀ {P : List Str} {vs : List Value} {i : Nat} {m : Str → Option Value}, P.Nodup → P[i]? = some x → vs[i]? = some v → kindOf x = some .local →
    bindL kindOf (P.zip vs) m x = some v
  | [], _, _, _, _, h, _, _ => by simp at h
  | _ :: _, [], _, _, _, _, h, _ => by simp at h
  | p :: P, w :: vs, 0, m, nd, h1, h2, hk => by
    simp at h1 h2; subst h1; subst h2
    show bindL kindOf ((p, w) :: P.zip vs) m p = _
    unfold bindL
    rw [bindL_out fun v hv => (List.nodup_cons.mp nd).1 (List.of_mem_zip hv).1, if_pos hk]
    simp
  | p :: P, w :: vs, i + 1, m, nd, h1, h2, hk => by
    show bindL kindOf ((p, w) :: P.zip vs) m x = _
    unfold bindL
    exact bindL_get (i := i) (List.nodup_cons.mp nd).2 (by simpa using h1) (by simpa using h2) hk
theorem bindC_get {kindOf : Str → Option NameKind} {x : Str} {v : Value} : ∀ {P : List Str} {vs : List Value} {i : Nat} {m : Str → Option Value}, P.Nodup → P[i]? = some x → vs[i]? = some v → kindOf x ≠ some .local →
    bindC kindOf (P.zip vs) m x = some v
  | [], _, _, _, _, h, _, _ => by simp at h
  | _ :: _, [], _, _, _, _, h, _ => by simp at h
  | p :: P, w :: vs, 0, m, nd, h1, h2, hk => by
    simp at h1 h2; subst h1; subst h2
    show bindC kindOf ((p, w) :: P.zip vs) m p = _
    unfold bindC
    rw [bindC_out fun v hv => (List.nodup_cons.mp nd).1 (List.of_mem_zip hv).1, if_neg hk]
    simp
  | p :: P, w :: vs, i + 1, m, nd, h1, h2, hk => by
    show bindC kindOf ((p, w) :: P.zip vs) m x = _
    unfold bindC
    exact bindC_get (i := i) (List.nodup_cons.mp nd).2 (by simpa using h1) (by simpa using h2) hk
/-- the names' values at the entry -/
def start (N : List Str) (vs : List V) : St := vs.map some ++ List.replicate (N.length - vs.length) none
/-- the context of a def's body, at its entry; an exception leaves the frame, then lies as CX says -/
def cxOf (CX : CXT) (P : Program) (w : World) (K : PySem.W.Frag) (mg : Str → Option Value) (base : Heap) (N : List Str) (qual : Str) (scope : Scope) (f : Addr) (cd : Value) (A : Around) (outer : List Env) (s : Shared) (H : Hp) (E : XK) : Cx where
  prog := P
  w := w
  K := K
  mg := mg
  base := base
  A := A.deeper (envOfC qual scope s.heap.objs.size f cd)
  N := N
  s_0 := s
  H_0 := H
  env := envOfC qual scope s.heap.objs.size f cd
  outer := outer
  stack := envOfC qual scope s.heap.objs.size f cd :: outer
  ex := []
  calm := true
  fn := fun _ => true
  pn := []
  xe := fun e s' => wpAny (model P w) (A.deeper (envOfC qual scope s.heap.objs.size f cd)) (leaving (envOfC qual scope s.heap.objs.size f cd) e) (fun _ s'' => CX outer H s E e s'') (fun e' s'' => CX outer H s E e' s'') s'
theorem cell_has {sc : Scope} {n : Nat} {x : Str} (h : sc.names.lookup x = some .cell) : ∃ c, (cellsFrom n sc.names []).lookup x = some c := by
  have q := PySem.W.cellsFrom_some sc.names n [] (.inl h)
  exact Option.isSome_iff_exists.mp q
theorem inv_start {CX : CXT} {P : Program} {w : World} {K : PySem.W.Frag} {mg : Str → Option Value} {base : Heap} {N ps : List Str} {qual : Str} {scope : Scope} {f : Addr} {cd : Value} {A : Around} {outer : List Env} {s s1 : Shared} {H : Hp} {E : XK} {us : List Value} {vs : List V}
    (S : FnScope N ps scope) (hd : A.handled = none) (e0 : Env0 P w K mg base A outer s H) (hl : vs.length = ps.length) (r : Vals vs us)
    (x : InCallC s s.heap.objs.size (bindL (envOfC qual scope s.heap.objs.size f cd).kindOf (ps.zip us) fun _ => none) (cellsFrom (s.heap.objs.size + 1) scope.names []) (bindC (envOfC qual scope s.heap.objs.size f cd).kindOf (ps.zip us) fun _ => none) s1) :
    Inv (cxOf CX P w K mg base N qual scope f cd A outer s H E) [] (start N vs) H s1 := by
  have hpl : ps.length ≤ N.length := by have := congrArg List.length S.pre; rw [List.length_take] at this; omega
  obtain ⟨h1, tk, rfl, hk⟩ := x.done
  have noA : ∀ b : Addr, b ∉ (cxOf CX P w K mg base N qual scope f cd A outer s H E).ex := fun b z => absurd (show b ∈ ([] : List Addr) from z) (by simp)
  refine ⟨⟨e0.mod, S.kind, rfl, rfl, Nat.le_refl _, fun y z c h1 h2 => ?_, fun y hy => ?_, fun y c _ h => ?_, fun _ => hd, Around.frames_deeper e0.frames, .inr ⟨rfl, rfl⟩, fun b z => absurd z (noA b), e0.bs, e0.bsz, fun b _ _ => noA b, fun b z => absurd z (noA b), e0.funs, e0.frf⟩,
    rfl, e0.bare, Un.kept hk, ⟨_, x.toInCall.ns, fun i y v h1 h2 h3 => ?_⟩, fun y c h => ⟨_, x.cell y c h⟩, e0.hok.fresh (Nat.le_refl _), fun y c h => ?_, fun p hp => absurd (show p ∈ ([] : List (Addr × Obj)) from hp) (by simp), e0.hok.kept hk, ?_⟩
  · exact name_of_addr x.apart (PySem.mem_of_lookup h1) (PySem.mem_of_lookup h2)
  · have hy : scope.names.lookup y = some .cell ∨ scope.names.lookup y = some .free := hy
    rcases hy with hy | hy
    · exact cell_has hy
    · exact absurd rfl (S.nofree _ (PySem.mem_of_lookup hy))
  · exact Nat.le_of_lt (x.above y c (PySem.mem_of_lookup h))
  · have hi : i < vs.length := by
      unfold start at h2
      by_cases hi : i < vs.length
      · exact hi
      · rw [List.getElem?_append_right (by simpa using hi)] at h2
        rw [List.getElem?_replicate] at h2
        split at h2 <;> cases h2
    have ha : vs[i]? = some v := by
      unfold start at h2
      rw [List.getElem?_append_left (by simpa using hi), List.getElem?_map] at h2
      cases e : vs[i]? with
      | none => rw [e] at h2; cases h2
      | some a => rw [e] at h2; cases h2; rfl
    obtain ⟨u, hu, rv⟩ := r.get ha
    have hp : ps[i]? = some y := by
      rw [← S.pre, List.getElem?_take_of_lt (by omega)]; exact h1
    have ndP : ps.Nodup := by rw [← S.pre]; exact S.nd.sublist (List.take_sublist _ _)
    refine ⟨u, rv, ?_⟩
    rcases S.par y (List.mem_of_getElem? hp) with k | k
    · exact .inl ⟨k, bindL_get ndP hp hu k⟩
    · obtain ⟨c, e⟩ := cell_has (n := s.heap.objs.size + 1) k
      refine .inr ⟨.inl k, c, e, ?_⟩
      have q := x.cell y c e
      rw [bindC_get ndP hp hu (by show scope.names.lookup y ≠ _; rw [k]; decide)] at q
      exact q
  · exact e0.hok.fresh (Nat.le_of_lt (x.above y c (PySem.mem_of_lookup h)))
  · unfold start
    show _ = N.length
    rw [List.length_append, List.length_map, List.length_replicate]
    omega
/-- THE RULE: a def (or a method) of the text, by its body. The body's reading t is chosen for each entry; it is run at the parameters' values -/
theorem fn_of {CX : CXT} {P : Program} {w : World} {K : PySem.W.Frag} {mg : Str → Option Value} {base : Heap} {k : Nat} {f : Addr} {name qual : Str} {params : Arguments} {body : List Stmt} {scope : Scope} {dV kV doc pm cdv ct oc : Value} {an od : Option Addr}
    {osl : Array (Option Value)} {N ps : List Str} {sp : Sp} (lk : K.lookup f = some ⟨oc, od, .func (PySem.W.fnOf name qual params body scope dV kV doc pm an cdv ct), osl⟩) (hcd : PySem.W.codeIn K cdv qual = true) (S : FnScope N ps scope)
    (len : ∀ vs H Q E, sp vs H Q E → vs.length = ps.length)
    (hbody : ∀ (A : Around) (outer : List Env) (s : Shared) (H : Hp) (vs : List V) (Q : VK) (E : XK), Room k (A.deeper (envOfC qual scope s.heap.objs.size f cdv)) → sp vs H Q E →
      ∃ t, PSs (cxOf CX P w K mg base N qual scope f cdv A outer s H E) body t ∧ t { nx := fun _ H' => Q .non H', rt := Q } (start N vs) H) :
    FnOk P w K mg base CX (k + 1) f (PySem.W.fnOf name qual params body scope dV kV doc pm an cdv ct) ps sp := by
  refine ⟨len, fun A outer s H args us vs Q E hr e0 hb r hsp => ?_⟩
  have hl := len _ _ _ _ hsp
  have KX : K.In s.heap := e0.mod.kin.keeps fun b o e => (e0.bs b o e).1
  have lim : s.heap.NoLimit := e0.mod.nolimit.keeps fun b o e => (e0.bs b o e).1
  have hkind : ∀ y ∈ ps.zip us, scope.names.lookup y.1 = some .local ∨ (scope.names.lookup y.1 = some .cell ∧ ((cellsFrom (s.heap.objs.size + 1) scope.names []).lookup y.1).isSome = true) := fun ⟨n, v⟩ hy => by
    rcases S.par n (List.of_mem_zip hy).1 with q | q
    · exact .inl q
    · exact .inr ⟨q, PySem.W.cellsFrom_some _ _ _ (.inl q)⟩
  refine codeAny_call_function hr.depth (KX _ _ lk) rfl S.co S.gen rfl (PySem.W.codeRec_of KX hcd) (hb _ _ _ _ ?_)
  refine wpAny_newFunctionEnv_cells S.kind hkind fun env he s1 x => ?_
  subst he
  refine ⟨lim.keeps x.toInCall.keep, codeAny_func ?_⟩
  obtain ⟨t, ht, hq⟩ := hbody A outer s H vs Q E (hr.deeper _) hsp
  have I : Inv (cxOf CX P w K mg base N qual scope f cdv A outer s H E) [] (start N vs) H s1 := inv_start S hr.hd e0 hl r x
  refine wpAny_mono (ht [] s1 (start N vs) H _ I hq) (fun fl s' hs => ?_) fun e s' hs => hs
  have fin : ∀ {σ' : St} {H' : Hp} {v : V} {u : Value}, Inv (cxOf CX P w K mg base N qual scope f cdv A outer s H E) [] σ' H' s' → RelV v u → Q v H' → CE outer P w H s Q u s' :=
    fun {σ' H' v u} J rv q => ⟨v, H', J.os, J.bare, J.base, J.hok, rv, q⟩
  cases fl with
  | ret u =>
    obtain ⟨v, σ', H', J, rv, q⟩ := hs
    exact fin J rv q
  | next =>
    obtain ⟨σ', H', J, q⟩ := hs
    exact fin (v := V.non) (u := Value.none) J rfl q
  | brk =>
    obtain ⟨_, _, _, q⟩ := hs
    exact False.elim q
  | cont =>
    obtain ⟨_, _, _, q⟩ := hs
    exact False.elim q
end L2
namespace L2
open PySem PySem.Spec PyProof.Rows
section
variable {X : Cx} {x : Str} {p pos : Pos} {e : Expr} {es : List Expr} {t : TA} {id T : String} {r : List V → Hp → VK → Prop}
def tCB (r : List V → Hp → VK → Prop) (t : TA) : TE := fun σ H Q => t σ H fun vs H1 => r vs H1 Q
/-- f(e, ..), f a built-in function -/
theorem pe_callB (hc : CallR X (.builtin id) r) (hg : Gl X x) (hm : X.mg x = none) (hv : bootBuiltins x = some (.builtin id)) (ha : PA X (e :: es) t) (hn : x ≠ "__name__" := by decide) (hdb : (x == ("__debug__" : Str)) = false := by decide)
    (he : starEach (e :: es) X.env = (false, eval e X.env) :: starEach es X.env := by rfl) (hpl : (backTo pos (starEach es X.env)).any (·.1) = false := by rfl) : PE X (.Call (.Name x p) (e :: es) [] pos) (tCB r t) := by
  intro pins s σ H Q I h
  refine wpAny_Call_Name_kw (ld_blt I hg hm hv ?_ hn hdb)
  exact PyProof.Rows.callWith_builtin1 (thn (ha pos pins s σ H _ I h) fun us s1 ⟨vs, H1, I1, r1, q1⟩ => hc pins s1 σ H1 vs us Q I1 r1 q1) he hpl
/-- T(e, ..), T a built-in type -/
theorem pe_callTy (hc : CallR X (.type T) r) (hg : Gl X x) (hm : X.mg x = none) (hv : bootBuiltins x = some (.type T)) (ha : PA X (e :: es) t) (hn : x ≠ "__name__" := by decide) (hdb : (x == ("__debug__" : Str)) = false := by decide)
    (he : starEach (e :: es) X.env = (false, eval e X.env) :: starEach es X.env := by rfl) (hpl : (backTo pos (starEach es X.env)).any (·.1) = false := by rfl) : PE X (.Call (.Name x p) (e :: es) [] pos) (tCB r t) := by
  intro pins s σ H Q I h
  refine wpAny_Call_Name_kw (ld_blt I hg hm hv ?_ hn hdb)
  exact PyProof.Rows.callWith_type1 (thn (ha pos pins s σ H _ I h) fun us s1 ⟨vs, H1, I1, r1, q1⟩ => hc pins s1 σ H1 vs us Q I1 r1 q1) he hpl
end
end L2
namespace HT
open PySem PyProof.Rows
section
open PySem.SeqAt
open PySem.AutoSeq1 (wpAny_loadPart')
open PySem.MeetsSeq PySem.MeetsSeq2 PySem.MeetsSeq3
end
section
variable {prog : Program} {w : World} {A : Around} {E : Value → Shared → Prop} {s : Shared}
/-- t + u, t not empty -/
theorem cat_tup {t b : Addr} {vs ws : List Value} {Q : Value → Shared → Prop} (ht : IsTup s.heap t vs.toArray) (hb : IsTup s.heap b ws.toArray) (hv : vs ≠ [])
    (h1 : ws = [] → Q (.ref t) s) (h2 : ws ≠ [] → Q (.ref s.heap.objs.size) { s with heap := s.heap.push { cls := .type "tuple", data := .seq (vs ++ ws).toArray } })
    (hsz : vs.length + ws.length ≤ sizeLine) : wpAny (model prog w) A (binaryOp .Add (.ref t) (.ref b)) Q E s := by
  obtain ⟨⟨cls, dd, data, sl⟩, ho, hc, n, hd⟩ := id ht
  obtain ⟨⟨cls2, dd2, data2, sl2⟩, ho2, hc2, n2, hd2⟩ := id hb
  simp only at hc hd hc2 hd2
  subst hc hd hc2 hd2
  have e : vs.toArray ++ ws.toArray = (vs ++ ws).toArray := by simp
  by_cases hw : ws = []
  · exact concat_meets ⟨_, ho, rfl⟩ ⟨_, ho2, rfl⟩ noFill_tuple_add seq_tuple_add PySem.F.slot_tuple_add PySem.F.entry_tuple_add (PySem.F.args_tuple_add_2 _ _)
      (tuple_addW1 t b vs.toArray ws.toArray n n2 dd dd2 sl sl2 (by simpa using hv) (by simp [hw])) ⟨ho, ho2, h1 hw⟩
  · refine concat_meets ⟨_, ho, rfl⟩ ⟨_, ho2, rfl⟩ noFill_tuple_add seq_tuple_add PySem.F.slot_tuple_add PySem.F.entry_tuple_add (PySem.F.args_tuple_add_2 _ _)
      (tuple_addW2 t b vs.toArray ws.toArray n n2 dd dd2 sl sl2 (by simpa using hv) (by simpa using hw) (by rw [List.size_toArray, List.size_toArray]; exact hsz)) ⟨ho, ho2, ?_⟩
    rw [e]
    exact h2 hw
/-- a slice's bound as a place among n (d where it is left out) -/
def sIx (n d : Nat) : Option Int → Nat
  | none => d
  | some v => if v < 0 then (v + (n : Int)).toNat else min v.toNat n
theorem sIx_none (n d : Nat) : sIx n d none = d := rfl
theorem sIx_nat (n d k : Nat) : sIx n d (some (k : Int)) = min k n := by
  show (if (k : Int) < 0 then ((k : Int) + (n : Int)).toNat else min (k : Int).toNat n) = min k n
  rw [if_neg (by omega), Int.toNat_natCast]
theorem sIx_le (n d : Nat) (hd : d ≤ n) (o : Option Int) : sIx n d o ≤ n := by
  cases o with
  | none => exact hd
  | some v =>
    show (if v < 0 then (v + (n : Int)).toNat else min v.toNat n) ≤ n
    by_cases hv : v < 0
    · rw [if_pos hv]; omega
    · rw [if_neg hv]; exact Nat.min_le_right _ _
theorem clip_eq (v : Int) (n d : Nat) : (if v < 0 then max (v + (n : Int)) 0 else min v (n : Int)) = ((sIx n d (some v) : Nat) : Int) := by
  show (if v < 0 then max (v + (n : Int)) 0 else min v (n : Int)) = (((if v < 0 then (v + (n : Int)).toNat else min v.toNat n) : Nat) : Int)
  by_cases hv : v < 0
  · simp only [if_pos hv]; omega
  · simp only [if_neg hv]; omega
theorem adjust_gen (lo hi : Option Int) (n : Nat) : Builtin.Slice.sliceAdjust lo hi 1 (n : Int) = (((sIx n 0 lo : Nat) : Int), ((sIx n n hi : Nat) : Int)) := by
  have h1 : ¬ ((1 : Int) < 0) := by omega
  unfold Builtin.Slice.sliceAdjust
  simp only [h1, if_false]
  refine Prod.ext ?_ ?_
  · cases lo with
    | none => rfl
    | some v => exact clip_eq v n 0
  · cases hi with
    | none => rfl
    | some v => exact clip_eq v n n
theorem places_gen (i j : Nat) : Builtin.Slice.slicePlaces (i : Int) (j : Int) 1 = j - i := by
  unfold Builtin.Slice.slicePlaces
  have h1 : (1 : Int) > 0 := by omega
  simp only [h1, if_true, Int.ediv_one]
  split <;> omega
theorem slicePart_ {v : Value} {o : Option Int} {Q : Option Int → Shared → Prop} (p : IsPart v o) (h : Q o s) : wpAny (model prog w) A (Builtin.Slice.slicePartIndex v) Q E s := by
  cases p with
  | none => exact slicePart_none h
  | int i t => exact slicePart_int h
theorem sliceApplied_gen {sl : Addr} {vl vu : Value} {lo hi : Option Int} {n : Nat} {Q : Int × Int × Nat → Shared → Prop} (hs : s.heap.IsSliceOf sl vl vu .none) (pl : IsPart vl lo) (pu : IsPart vu hi)
    (h : Q (((sIx n 0 lo : Nat) : Int), 1, sIx n n hi - sIx n 0 lo) s) : wpAny (model prog w) A (Builtin.Slice.sliceApplied (.ref sl) (pure (n : Int))) Q E s := by
  obtain ⟨os, hos, hcs, hds⟩ := id hs
  unfold Builtin.Slice.sliceApplied Builtin.Slice.sliceFields
  refine wpAny_bind (wpAny_bind (wpAny_field hos hds (x := vl) rfl (wpAny_bind (wpAny_field hos hds (x := vu) rfl (wpAny_bind (wpAny_field hos hds (x := .none) rfl (wpAny_pure ?_)))))))
  refine wpAny_bind (slicePart_none ?_)
  show wpAny _ _ (if ((1 : Int) == 0) = true then _ else _) _ _ s
  rw [if_neg (by decide)]
  refine wpAny_bind (slicePart_ pl (wpAny_bind (slicePart_ pu (wpAny_bind (wpAny_pure ?_)))))
  show wpAny _ _ (match Builtin.Slice.sliceAdjust lo hi 1 (n : Int) with | (lo, hi) => pure (lo, (1 : Int), Builtin.Slice.slicePlaces lo hi 1)) _ _ s
  rw [adjust_gen lo hi n]
  show wpAny _ _ (pure (((sIx n 0 lo : Nat) : Int), (1 : Int), Builtin.Slice.slicePlaces ((sIx n 0 lo : Nat) : Int) ((sIx n n hi : Nat) : Int) 1)) _ _ s
  rw [places_gen]
  exact wpAny_pure h
theorem pick_gen (xs : Array Value) (i k : Nat) : ((List.range k).filterMap fun (m : Nat) => xs[((i : Int) + (m : Int) * 1).toNat]?).toArray = ((xs.toList.drop i).take k).toArray := by
  have e : (fun (m : Nat) => xs[((i : Int) + (m : Int) * 1).toNat]?) = fun m => xs[i + m]? := by
    funext m
    have : ((i : Int) + (m : Int) * 1).toNat = i + m := by omega
    rw [this]
  rw [e]
  have := pick_run xs i k
  rw [List.filterMap_map] at this
  have e2 : ((fun x => xs[x]?) ∘ fun x => i + x) = fun m => xs[i + m]? := rfl
  rw [e2] at this
  rw [this]
theorem getItem_tuple_cut {t sl : Addr} {items : Array Value} {vl vu : Value} {lo hi : Option Int} {Q : Value → Shared → Prop} (ht : IsTup s.heap t items) (hs : s.heap.IsSliceOf sl vl vu .none) (pl : IsPart vl lo) (pu : IsPart vu hi)
    (hw : ¬ (sIx items.size 0 lo = 0 ∧ sIx items.size items.size hi = items.size))
    (h : Q (.ref s.heap.objs.size) { s with heap := s.heap.push { cls := .type "tuple", data := .seq ((items.toList.drop (sIx items.size 0 lo)).take (sIx items.size items.size hi - sIx items.size 0 lo)).toArray } })
    (hsz : items.size ≤ sizeLine) : wpAny (model prog w) A (getItem (.ref t) (.ref sl)) Q E s := by
  have htake : sizeOk (.seq ((items.toList.drop (sIx items.size 0 lo)).take (sIx items.size items.size hi - sIx items.size 0 lo)).toArray) := by
    show ((items.toList.drop (sIx items.size 0 lo)).take (sIx items.size items.size hi - sIx items.size 0 lo)).toArray.size ≤ sizeLine
    rw [List.size_toArray, List.length_take, List.length_drop, Array.length_toList]
    omega
  have hj : sIx items.size items.size hi ≤ items.size := sIx_le _ _ (Nat.le_refl _) hi
  obtain ⟨os, hos, hcs, hds⟩ := id hs
  have hTs : s.TypeIs (.ref sl) "slice" := ⟨os, hos, hcs⟩
  unfold getItem
  try with_reducible refine wpAny_holding ?_
  first | refine wpAny_bind (wpAny_pure ?_) | skip
  refine wpAny_bind (wpAny_sequenceKey ht.typeIs (by decide) ?_)
  refine wpAny_bind (wpAny_callSpecial?_slot (name := Str.ofString "__getitem__") ht.typeIs PyProof.Rows.slot_tuple_getitem
    (wpAny_call_entry PyProof.Rows.slot_tuple_getitem ht.typeIs entry_tuple_getitem ?_ (args_tuple_getitem _ _)))
  show wpAny _ _ (Builtin.Tuple.tupleItemsOf (.ref t) >>= _) _ _ s
  refine wpAny_bind (tupleItemsOf_ ht ?_)
  refine wpAny_bind (wpAny_typeOf hTs ?_)
  rw [if_pos (by decide)]
  refine wpAny_bind (sliceApplied_gen hs pl pu ?_)
  have hno : ¬ ((((sIx items.size 0 lo : Nat) : Int) == 0 && (1 : Int) == 1 && (sIx items.size items.size hi - sIx items.size 0 lo) == items.size) = true) := by
    intro q
    rw [Bool.and_eq_true, Bool.and_eq_true] at q
    have q1 : ((sIx items.size 0 lo : Nat) : Int) = 0 := eq_of_beq q.1.1
    have q2 : sIx items.size items.size hi - sIx items.size 0 lo = items.size := eq_of_beq q.2
    exact hw ⟨by omega, by omega⟩
  show wpAny _ _ (if (((sIx items.size 0 lo : Nat) : Int) == 0 && (1 : Int) == 1 && (sIx items.size items.size hi - sIx items.size 0 lo) == items.size) = true then _ else _) _ _ s
  rw [if_neg hno, pick_gen]
  first
    | exact wpAny_bind (m := Builtin.Tuple.tupleExact _) (wpAny_newObj_type (wpAny_pure ⟨_, rfl, wpAny_pure h⟩) htake)
    | exact wpAny_bind (m := Builtin.Tuple.tupleExact _) (wpAny_newObj_type (wpAny_bind (wpAny_pure (wpAny_pure ⟨_, rfl, wpAny_pure h⟩))) htake)
    | exact wpAny_bind (wpAny_bind (m := Builtin.Tuple.tupleExact _) (wpAny_newObj_type (wpAny_pure (wpAny_pure ⟨_, rfl, wpAny_pure h⟩)) htake))
    | exact wpAny_bind (wpAny_bind (m := Builtin.Tuple.tupleExact _) (wpAny_newObj_type (wpAny_pure ⟨_, rfl, wpAny_pure h⟩) htake))
end
end HT
namespace L2
open PySem PySem.Spec PyProof.Rows
abbrev TO := St → Hp → (Option Int → Hp → Prop) → Prop
/-- a slice's part (left out, or an int) -/
def PO (X : Cx) (e : Option Expr) (t : TO) : Prop :=
  ∀ (pins : List (Addr × Obj)) (s : Shared) (σ : St) (H : Hp) (Q : Option Int → Hp → Prop), Inv X pins σ H s → t σ H Q →
    wpAny (model X.prog X.w) X.A (evalPart e X.env) (fun u s' => ∃ o H', Inv X pins σ H' s' ∧ IsPart u o ∧ Q o H') X.xe s
def tNoPart : TO := fun _ H Q => Q none H
def tPart (t : TE) : TO := fun σ H Q => t σ H fun x H1 => ∃ i, x = .int i ∧ Q (some i) H1
section
variable {X : Cx} {e : Expr} {te : TE} {lo hi : Option Expr} {tl th : TO} {pos p2 : Pos}
theorem po_none : PO X none tNoPart := by
  intro pins s σ H Q I h
  rw [evalPart_none]
  exact wpAny_pure ⟨none, H, I, .none, h⟩
theorem po_some (h : PE X e te) : PO X (some e) (tPart te) := by
  intro pins s σ H Q I hw
  rw [evalPart_some]
  refine thn (h pins s σ H _ I hw) fun u s1 ⟨x, H1, I1, r1, q1⟩ => ?_
  obtain ⟨i, rfl, q⟩ := q1
  obtain ⟨t, rfl⟩ := r1
  exact ⟨some i, H1, I1, .int i t, q⟩
/-- what a slice of a value is, by values: the slice object stands at sl -/
def SlR (X : Cx) (r : V → Option Int → Option Int → Hp → VK → Prop) : Prop :=
  ∀ (pins : List (Addr × Obj)) (s : Shared) (σ : St) (H : Hp) (x : V) (v vl vu : Value) (lo hi : Option Int) (sl : Addr) (Q : VK), Inv X pins σ H s → RelV x v → s.heap.IsSliceOf sl vl vu .none → IsPart vl lo → IsPart vu hi → r x lo hi H Q →
    ∃ T id, typeLookup (.type T) "__getitem__" = pure (some (.builtin id)) ∧ s.TypeIs v T ∧ wpAny (model X.prog X.w) X.A (getItem v (.ref sl)) (EP X pins σ Q) X.xe s
def tSl (r : V → Option Int → Option Int → Hp → VK → Prop) (te : TE) (tl th : TO) : TE := fun σ H Q => te σ H fun x H1 => tl σ H1 fun l H2 => th σ H2 fun u H3 => r x l u H3 Q
/-- a[lo:hi], any a -/
theorem pe_slice {r : V → Option Int → Option Int → Hp → VK → Prop} (hr : SlR X r) (he : PE X e te) (hl : PO X lo tl) (hu : PO X hi th) : PE X (.Subscript e (.Slice lo hi none p2) pos) (tSl r te tl th) := by
  intro pins s σ H Q I h
  refine Subscript_ (thn (he pins s σ H _ I h) fun v s1 ⟨x, H1, I1, r1, q1⟩ => ?_)
  refine wpAny_Slice (thn (hl pins s1 σ H1 _ I1 q1) fun vl s2 ⟨l, H2, I2, pl, q2⟩ => thn (hu pins s2 σ H2 _ I2 q2) fun vu s3 ⟨u, H3, I3, pu, q3⟩ => ?_)
  rw [evalPart_none]
  refine wpAny_pure ?_
  have I4 : Inv X pins σ H3 { s3 with heap := s3.heap.push { cls := .type "slice", data := .fields #[vl, vu, .none] } } := I3.kept (t' := s3.toks) fun b ob q => Heap.get?_push_of_some _ q
  obtain ⟨T, id, hT, ht, hg⟩ := hr pins { s3 with heap := s3.heap.push { cls := .type "slice", data := .fields #[vl, vu, .none] } } σ H3 x v vl vu l u s3.heap.objs.size Q I4 r1 (Heap.IsSliceOf.new ..) pl pu q3
  show wpAny (model X.prog X.w) X.A (subscriptTail e (.Slice lo hi none p2) v (.ref s3.heap.objs.size)) (EP X pins σ Q) X.xe { s3 with heap := s3.heap.push { cls := .type "slice", data := .fields #[vl, vu, .none] } }
  exact tail_any (ops := [.ref s3.heap.objs.size, v]) ht hT hg (by with_unfolding_all rfl)
/-- the items of xs[lo:hi] -/
def cutV (xs : List V) (lo hi : Option Int) : List V := (xs.drop (HT.sIx xs.length 0 lo)).take (HT.sIx xs.length xs.length hi - HT.sIx xs.length 0 lo)
theorem cutV_length (xs : List V) (lo hi : Option Int) : (cutV xs lo hi).length ≤ xs.length := by
  unfold cutV
  rw [List.length_take, List.length_drop]
  omega
/-- t[lo:hi], not the whole of it (the whole would be t itself) -/
def rSlT (K : PySem.W.Frag) : V → Option Int → Option Int → Hp → VK → Prop := fun x lo hi H Q => ∃ a xs, x = .ref a ∧ SqT K H a xs ∧
  ¬ (HT.sIx xs.length 0 lo = 0 ∧ HT.sIx xs.length xs.length hi = xs.length) ∧ ∀ p, H p = none → Q (.ref p) (upd H p (.tup (cutV xs lo hi)))
theorem sl_tup : SlR X (rSlT X.K) := by
  intro pins s σ H x v vl vu lo hi sl Q I rx hs pl pu h
  obtain ⟨a, xs, rfl, hx, hw, q⟩ := h
  cases rx
  obtain ⟨its, r, ht, hz⟩ := I.tuple hx
  have hlen : its.toArray.size = xs.length := by rw [List.size_toArray]; exact r.length.symm
  refine ⟨"tuple", _, PyProof.Rows.slot_tuple_getitem.lookup, ht.typeIs, ?_⟩
  refine HT.getItem_tuple_cut ht hs pl pu (by rw [hlen]; exact hw) ?_ (by rw [hlen]; exact hz)
  rw [hlen]
  refine ⟨.ref s.heap.objs.size, _, I.laid (t' := s.toks) (o := .tup (cutV xs lo hi)) (fun b ob q => Heap.get?_push_of_some _ q) (Nat.le_refl _) ?_, rfl, q _ (I.hok.fresh (Nat.le_refl _))⟩
  exact ⟨Nat.le_trans (cutV_length xs lo hi) hz, _, (r.drop (HT.sIx xs.length 0 lo)).take (HT.sIx xs.length xs.length hi - HT.sIx xs.length 0 lo), IsTup.new _ _⟩
/-- t + u, t not empty: u empty gives t itself -/
def rCatT (K : PySem.W.Frag) : R2 := fun x y H Q => ∃ a b xs ys, x = .ref a ∧ y = .ref b ∧ SqT K H a xs ∧ SqT K H b ys ∧ xs ≠ [] ∧ xs.length + ys.length ≤ sizeLine ∧
  (ys = [] → Q (.ref a) H) ∧ (ys ≠ [] → ∀ p, H p = none → Q (.ref p) (upd H p (.tup (xs ++ ys))))
theorem Vals.nil_iff {xs : List V} {us : List Value} (r : Vals xs us) : us = [] ↔ xs = [] := by
  cases r with
  | nil => simp
  | cons _ _ => simp
theorem op_catT : OpR X (binaryOp .Add) (rCatT X.K) := by
  intro pins s σ H x y v u Q I rx ry h
  obtain ⟨a, b, xs, ys, rfl, rfl, ha, hb, hx, hz, q1, q2⟩ := h
  cases rx
  cases ry
  obtain ⟨its, r1, p1, _⟩ := I.tuple ha
  obtain ⟨its2, r2, p2, _⟩ := I.tuple hb
  refine HT.cat_tup p1 p2 (fun z => hx (r1.nil_iff.mp z)) (fun z => ⟨.ref a, H, I, rfl, q1 (r2.nil_iff.mp z)⟩) (fun z => ?_) (by rw [← r1.length, ← r2.length]; exact hz)
  refine ⟨.ref s.heap.objs.size, _, I.laid (t' := s.toks) (o := .tup (xs ++ ys)) (fun b ob q => Heap.get?_push_of_some _ q) (Nat.le_refl _) ?_, rfl, q2 (fun w => z (r2.nil_iff.mpr w)) _ (I.hok.fresh (Nat.le_refl _))⟩
  exact ⟨by rw [List.length_append]; exact hz, _, r1.append r2, IsTup.new _ _⟩
end
end L2
namespace L2
open PySem PySem.Spec PyProof.Rows
/-- the place that an index of any sign means -/
def ixN (n : Nat) (i : Int) : Option Nat := if 0 ≤ i then (if i < n then some i.toNat else none) else if -(n : Int) ≤ i then some (i + n).toNat else none
def atI {α : Type} (xs : List α) (i : Int) : Option α := (ixN xs.length i).bind fun j => xs[j]?
theorem ixN_seq {n : Nat} {i : Int} {j : Nat} (h : ixN n i = some j) : seqIndex? i n = some j ∧ j < n ∧ -(n : Int) ≤ i ∧ i < n := by
  unfold ixN at h
  by_cases h0 : 0 ≤ i
  · rw [if_pos h0] at h
    by_cases h1 : i < n
    · rw [if_pos h1] at h
      have e : i.toNat = j := Option.some.inj h
      exact ⟨by rw [seqIndex_of h0 h1, e], by omega, by omega, h1⟩
    · rw [if_neg h1] at h; cases h
  · rw [if_neg h0] at h
    by_cases h1 : -(n : Int) ≤ i
    · rw [if_pos h1] at h
      have e : (i + n).toNat = j := Option.some.inj h
      exact ⟨by rw [seqIndex_neg (by omega) h1, e], by omega, h1, by omega⟩
    · rw [if_neg h1] at h; cases h
theorem atI_get {α : Type} {xs : List α} {i : Int} {v : α} (h : atI xs i = some v) : ∃ j, seqIndex? i xs.length = some j ∧ xs[j]? = some v ∧ j < xs.length ∧ -(xs.length : Int) ≤ i ∧ i < xs.length := by
  unfold atI at h
  cases e : ixN xs.length i with
  | none => rw [e] at h; cases h
  | some j =>
    rw [e] at h
    obtain ⟨h1, h2, h3, h4⟩ := ixN_seq e
    exact ⟨j, h1, h, h2, h3, h4⟩
theorem atI_nat {α : Type} {xs : List α} {j : Nat} {v : α} (h : xs[j]? = some v) : atI xs (j : Int) = some v := by
  have hj : j < xs.length := (List.getElem?_eq_some_iff.mp h).1
  have e : ixN xs.length (j : Int) = some j := by
    unfold ixN
    rw [if_pos (by omega), if_pos (by omega)]; simp
  unfold atI; rw [e]; exact h
/-- what stands as an index of a plain subscript -/
def PlainIx (b : Expr) : Prop := ∀ o i, subscripted b false o i = operate [o, i] (getItem o i)
/-- a subscript by values -/
def IxR (X : Cx) (r : R2) : Prop :=
  ∀ (value slice : Expr) (pins : List (Addr × Obj)) (s : Shared) (σ : St) (H : Hp) (x y : V) (v u : Value) (Q : VK), Inv X pins σ H s → RelV x v → RelV y u → r x y H Q →
    subscripted slice false v u = operate [v, u] (getItem v u) → wpAny (model X.prog X.w) X.A (subscriptTail value slice v u) (EP X pins σ Q) X.xe s
/-- a call of a builtin's method by values: the receiver, the arguments -/
def MtR (X : Cx) (id : String) (r : V → List V → Hp → VK → Prop) : Prop :=
  ∀ (pins : List (Addr × Obj)) (s : Shared) (σ : St) (H : Hp) (x : V) (xs : List V) (v : Value) (us : List Value) (Q : VK), Inv X pins σ H s → RelV x v → Vals xs us → r x xs H Q →
    wpAny (model X.prog X.w) X.A (call (.builtin id) (v :: us)) (EP X pins σ Q) X.xe s
section
variable {X : Cx} {a b : Expr} {ta tb : TE} {pos : Pos}
/-- a[b] -/
theorem pe_ix {r : R2} (hr : IxR X r) (ha : PE X a ta) (hb : PE X b tb) (hs : PlainIx b) : PE X (.Subscript a b pos) (tOp r ta tb) := by
  intro pins s σ H Q I h
  exact Subscript_ (binT ha hb I h fun v u s2 x y H2 I2 rx ry q => hr a b pins s2 σ H2 x y v u Q I2 rx ry q (hs _ _))
def rIxL (K : PySem.W.Frag) : R2 := fun x y H Q => ∃ p xs i v, x = .ref p ∧ y = .int i ∧ SqL K H p xs ∧ atI xs i = some v ∧ Q v H
def rIxT (K : PySem.W.Frag) : R2 := fun x y H Q => ∃ p xs i v, x = .ref p ∧ y = .int i ∧ SqT K H p xs ∧ atI xs i = some v ∧ Q v H
theorem ix_list : IxR X (rIxL X.K) := by
  intro value slice pins s σ H x y v u Q I rx ry h hs
  obtain ⟨p, xs, i, z, rfl, rfl, hq, he, q⟩ := h
  cases rx
  obtain ⟨t, rfl⟩ := ry
  obtain ⟨its, r, pl, hz⟩ := I.list hq
  obtain ⟨j, h1, h2, h3, h4, h5⟩ := atI_get he
  obtain ⟨w, ew, rw'⟩ := r.get h2
  have hl := r.length
  have hn := line63
  have fin : EP X pins σ Q w s := ⟨z, H, I, rw', q⟩
  by_cases h0 : 0 ≤ i
  · have hj : i.toNat = j := by
      rw [seqIndex_of h0 h5] at h1
      exact Option.some.inj h1
    exact item_listR pl.isList h0 (by omega) (by rw [hj]; simpa using ew) fin hs
  · have hj : (i + (its.toArray.size : Int)).toNat = j := by
      rw [seqIndex_neg (by omega) h4] at h1
      rw [List.size_toArray, ← hl]
      exact Option.some.inj h1
    exact subscriptTail_builtinR (x := w) pl.isList.typeIs slot_list_getitem.lookup
      (wpAny_getItem_list_neg (Q := fun r s' => r = w ∧ EP X pins σ Q r s') pl.isList (by omega) (by rw [List.size_toArray] <;> omega) (by omega) (by rw [hj]; simpa using ew) ⟨rfl, fin⟩) hs
theorem ix_tup : IxR X (rIxT X.K) := by
  intro value slice pins s σ H x y v u Q I rx ry h hs
  obtain ⟨p, xs, i, z, rfl, rfl, hq, he, q⟩ := h
  cases rx
  obtain ⟨t, rfl⟩ := ry
  obtain ⟨its, r, pl, hz⟩ := I.tuple hq
  obtain ⟨j, h1, h2, h3, h4, h5⟩ := atI_get he
  obtain ⟨w, ew, rw'⟩ := r.get h2
  have hl := r.length
  have hn := line63
  have fin : EP X pins σ Q w s := ⟨z, H, I, rw', q⟩
  exact subscriptTail_builtinR (x := w) pl.typeIs slot_tuple_getitem.lookup
    (getItem_tuple (j := j) (Q := fun r s' => r = w ∧ EP X pins σ Q r s') pl (by omega) (by omega) (by rw [List.size_toArray, ← hl]; exact h1) (by simpa using ew) ⟨rfl, fin⟩) hs
theorem slice_bounds (lo hi : Option Int) (n : Nat) : (sliceBounds lo hi none n).1 = ((HT.sIx n 0 lo : Nat) : Int) ∧ (sliceBounds lo hi none n).2.1 = ((HT.sIx n n hi : Nat) : Int) ∧ (sliceBounds lo hi none n).2.2 = 1 := by
  refine ⟨?_, ?_, rfl⟩
  · cases lo with
    | none => simp [sliceBounds, HT.sIx]
    | some i =>
      simp only [sliceBounds, HT.sIx, Option.getD_none, show (1 : Int) > 0 by decide, if_true]
      by_cases h : i < 0
      · simp only [h, if_true] <;> omega
      · simp only [h, if_false] <;> omega
  · cases hi with
    | none => simp [sliceBounds, HT.sIx]
    | some i =>
      simp only [sliceBounds, HT.sIx, Option.getD_none, show (1 : Int) > 0 by decide, if_true]
      by_cases h : i < 0
      · simp only [h, if_true] <;> omega
      · simp only [h, if_false] <;> omega
theorem slicePick_cut (its : List Value) (lo hi : Option Int) : slicePick its.toArray lo hi none = ((its.drop (HT.sIx its.length 0 lo)).take (HT.sIx its.length its.length hi - HT.sIx its.length 0 lo)).toArray := by
  obtain ⟨h1, h2, h3⟩ := slice_bounds lo hi its.toArray.size
  unfold slicePick
  rw [h1, h2, h3]
  simp only [sliceRange_one, pick_run, List.size_toArray] <;> rfl
/-- xs[lo:hi] of a list: a new list -/
def rSlL (K : PySem.W.Frag) : V → Option Int → Option Int → Hp → VK → Prop := fun x lo hi H Q => ∃ a xs, x = .ref a ∧ SqL K H a xs ∧ ∀ p, H p = none → Q (.ref p) (upd H p (.lst (cutV xs lo hi)))
theorem sl_list : SlR X (rSlL X.K) := by
  intro pins s σ H x v vl vu lo hi sl Q I rx hs pl pu h
  obtain ⟨a, xs, rfl, hx, q⟩ := h
  cases rx
  obtain ⟨its, r, ht, hz⟩ := I.list hx
  have hlen := r.length
  refine ⟨"list", _, slot_list_getitem.lookup, ht.isList.typeIs, ?_⟩
  refine wpAny_getItem_list_slice ht.isList hs pl pu .none (by simp) ?_ (by rw [List.size_toArray] <;> omega)
  rw [slicePick_cut, ← hlen]
  refine ⟨.ref s.heap.objs.size, _, I.laid (t' := s.toks) (o := .lst (cutV xs lo hi)) (fun b ob q => Heap.get?_push_of_some _ q) (Nat.le_refl _) ?_, rfl, q _ (I.hok.fresh (Nat.le_refl _))⟩
  exact ⟨Nat.le_trans (cutV_length xs lo hi) hz, _, 0, (r.drop (HT.sIx xs.length 0 lo)).take (HT.sIx xs.length xs.length hi - HT.sIx xs.length 0 lo), Heap.get?_push_size _ rfl⟩
def flatV : V → Bool
  | .non => true
  | .bl _ => true
  | .int _ => true
  | .str _ => true
  | _ => false
/-- == of flat values -/
def eqV : V → V → Bool
  | .non, .non => true
  | .bl a, .bl b => a == b
  | .bl a, .int b => (if a then 1 else 0) == b
  | .int a, .bl b => a == (if b then 1 else 0)
  | .int a, .int b => a == b
  | .str a, .str b => a == b
  | _, _ => false
theorem eqAt_V {A : Around} {s : Shared} {y x : V} {u v : Value} (ry : RelV y u) (rx : RelV x v) (fy : flatV y = true) (fx : flatV x = true) : SeqAt.EqAt A s u v (eqV y x) := by
  cases y with
  | non =>
    cases ry
    cases x with
    | non => cases rx; exact SeqAt.EqAt.same _
    | bl b => cases rx; exact SeqAt.EqAt.none_bool b
    | int b => obtain ⟨t, rfl⟩ := rx; exact SeqAt.EqAt.none_int b t
    | str b => obtain ⟨t, rfl⟩ := rx; exact SeqAt.EqAt.none_str b t
    | _ => exact absurd (show false = true from fx) Bool.false_ne_true
  | bl a =>
    cases ry
    cases x with
    | non => cases rx; exact SeqAt.EqAt.bool_none a
    | bl b => cases rx; exact SeqAt.EqAt.bool_bool a b
    | int b => obtain ⟨t, rfl⟩ := rx; exact SeqAt.EqAt.bool_int a b t
    | str b => obtain ⟨t, rfl⟩ := rx; exact SeqAt.EqAt.bool_str a b t
    | _ => exact absurd (show false = true from fx) Bool.false_ne_true
  | int a =>
    obtain ⟨t', rfl⟩ := ry
    cases x with
    | non => cases rx; exact SeqAt.EqAt.int_none a t'
    | bl b => cases rx; exact SeqAt.EqAt.int_bool a t' b
    | int b => obtain ⟨t, rfl⟩ := rx; exact SeqAt.EqAt.int_int a t' b t
    | str b => obtain ⟨t, rfl⟩ := rx; exact SeqAt.EqAt.int_str a t' b t
    | _ => exact absurd (show false = true from fx) Bool.false_ne_true
  | str a =>
    obtain ⟨t', rfl⟩ := ry
    cases x with
    | non => cases rx; exact SeqAt.EqAt.str_none a t'
    | bl b => cases rx; exact SeqAt.EqAt.str_bool a t' b
    | int b => obtain ⟨t, rfl⟩ := rx; exact SeqAt.EqAt.str_int a t' b t
    | str b => obtain ⟨t, rfl⟩ := rx; exact SeqAt.EqAt.str_str a t' b t
    | _ => exact absurd (show false = true from fx) Bool.false_ne_true
  | _ => exact absurd (show false = true from fy) Bool.false_ne_true
/-- the items' answers, read off the values (a value's own answer does not lean on its token) -/
def eqU (x : V) (u : Value) : Bool := match u with
  | .none => eqV .non x
  | .bool b => eqV (.bl b) x
  | .int i _ => eqV (.int i) x
  | .str z _ => eqV (.str z) x
  | _ => false
theorem eqU_of {x y : V} {u : Value} (r : RelV y u) (f : flatV y = true) : eqU x u = eqV y x := by
  cases y with
  | non => cases r; rfl
  | bl b => cases r; rfl
  | int i => obtain ⟨t, rfl⟩ := r; rfl
  | str z => obtain ⟨t, rfl⟩ := r; rfl
  | _ => exact absurd (show false = true from f) Bool.false_ne_true
theorem any_eqU {x : V} : ∀ {xs : List V} {us : List Value}, Vals xs us → xs.all flatV = true → us.any (eqU x) = xs.any fun y => eqV y x
  | _, _, .nil, _ => rfl
  | y :: xs, u :: us, .cons r t, f => by
    rw [List.all_cons, Bool.and_eq_true] at f
    rw [List.any_cons, List.any_cons, eqU_of r f.1, any_eqU t f.2]
theorem mem_eqAt {A : Around} {s : Shared} {x : V} {v : Value} (rx : RelV x v) (fx : flatV x = true) : ∀ {xs : List V} {us : List Value}, Vals xs us → xs.all flatV = true → ∀ u ∈ us, SeqAt.EqAt A s u v (eqU x u)
  | _, _, .nil, _ => fun u hu => by cases hu
  | y :: xs, u :: us, .cons r t, f => fun u' hu => by
    rw [List.all_cons, Bool.and_eq_true] at f
    rcases List.mem_cons.mp hu with rfl | hu
    · rw [eqU_of r f.1]; exact eqAt_V r rx f.1 fx
    · exact mem_eqAt rx fx t f.2 u' hu
def inV (x : V) (xs : List V) : Bool := xs.any fun y => eqV y x
/-- x in a list or tuple of flat items -/
def rIn (K : PySem.W.Frag) (neg : Bool) : R2 := fun x y H Q => ∃ p xs, y = .ref p ∧ (SqL K H p xs ∨ SqT K H p xs) ∧ flatV x = true ∧ xs.all flatV = true ∧ Q (.bl (if neg then !inV x xs else inV x xs)) H
theorem op_in_seq : OpR X (compareOp .In) (rIn X.K false) := by
  intro pins s σ H x y v u Q I rx ry h
  obtain ⟨p, xs, rfl, hq, fx, fs, q⟩ := h
  cases ry
  rcases hq with hq | hq
  · obtain ⟨its, r, pl, hz⟩ := I.list hq
    refine SeqAt.in_listAt (eqU x) pl.isList (fun w hw => mem_eqAt rx fx r fs w (by simpa using hw)) ⟨.bl _, H, I, rfl, ?_⟩
    rw [show its.toArray.any (eqU x) = its.any (eqU x) by simp, any_eqU r fs]
    exact q
  · obtain ⟨its, r, pl, hz⟩ := I.tuple hq
    refine SeqAt.in_tupleAt (eqU x) pl (fun w hw => mem_eqAt rx fx r fs w (by simpa using hw)) ⟨.bl _, H, I, rfl, ?_⟩
    rw [show its.toArray.any (eqU x) = its.any (eqU x) by simp, any_eqU r fs]
    exact q
theorem op_notIn_seq : OpR X (compareOp .NotIn) (rIn X.K true) := by
  intro pins s σ H x y v u Q I rx ry h
  obtain ⟨p, xs, rfl, hq, fx, fs, q⟩ := h
  cases ry
  rcases hq with hq | hq
  · obtain ⟨its, r, pl, hz⟩ := I.list hq
    refine SeqAt.notIn_listAt (eqU x) pl.isList (fun w hw => mem_eqAt rx fx r fs w (by simpa using hw)) ⟨.bl _, H, I, rfl, ?_⟩
    rw [show its.toArray.any (eqU x) = its.any (eqU x) by simp, any_eqU r fs]
    exact q
  · obtain ⟨its, r, pl, hz⟩ := I.tuple hq
    refine SeqAt.notIn_tupleAt (eqU x) pl (fun w hw => mem_eqAt rx fx r fs w (by simpa using hw)) ⟨.bl _, H, I, rfl, ?_⟩
    rw [show its.toArray.any (eqU x) = its.any (eqU x) by simp, any_eqU r fs]
    exact q
theorem call_len_seq : CallR X (.builtin "len") (fun xs H Q => ∃ p ys, xs = [.ref p] ∧ (SqL X.K H p ys ∨ SqT X.K H p ys) ∧ Q (.int ys.length) H) := by
  intro pins s σ H xs us Q I r h
  obtain ⟨p, ys, rfl, hq, q⟩ := h
  obtain ⟨u, rfl, rx⟩ := vals1 r
  cases rx
  have hn := line63
  rcases hq with hq | hq
  · obtain ⟨its, r', pl, hz⟩ := I.list hq
    have hlen := r'.length
    exact Calls.call_len_list pl.isList (by simp only [List.size_toArray] <;> omega) ⟨.int ys.length, H, I.tok _, ⟨s.toks + 1, by rw [List.size_toArray, hlen]⟩, q⟩
  · obtain ⟨its, r', pl, hz⟩ := I.tuple hq
    have hlen := r'.length
    exact len_tuple pl (by simp only [List.size_toArray] <;> omega) ⟨.int ys.length, H, I.tok _, ⟨s.toks + 1, by rw [List.size_toArray, hlen]⟩, q⟩
theorem call_tuple_of : CallR X (.type "tuple") (fun xs H Q => ∃ p ys, xs = [.ref p] ∧ ((SqL X.K H p ys ∧ ∀ l, H l = none → Q (.ref l) (upd H l (.tup ys))) ∨ (SqT X.K H p ys ∧ Q (.ref p) H))) := by
  intro pins s σ H xs us Q I r h
  obtain ⟨p, ys, rfl, h⟩ := h
  obtain ⟨u, rfl, rx⟩ := vals1 r
  cases rx
  rcases h with ⟨hq, q⟩ | ⟨hq, q⟩
  · obtain ⟨its, r', pl, hz⟩ := I.list hq
    have hlen := r'.length
    refine call_tuple_list pl.isList (fun h' kp => ?_) (by simp only [List.size_toArray] <;> omega)
    have I1 : Inv X pins σ H { s with heap := h' } := I.kept (t' := s.toks) kp
    have I2 : Inv X pins σ (upd H h'.objs.size (.tup ys)) { s with heap := h'.push { cls := .type "tuple", data := .seq its.toArray } } :=
      I1.laid (t' := s.toks) (fun b o e => Heap.get?_push_of_some _ e) (Nat.le_refl _) (show ObjOk X.prog X.w _ _ _ (.tup ys) from ⟨hz, its, r', IsTup.new _ _⟩)
    exact ⟨.ref h'.objs.size, _, I2, rfl, q _ (I1.hok.fresh (Nat.le_refl _))⟩
  · obtain ⟨its, r', pl, hz⟩ := I.tuple hq
    exact call_tuple_same pl ⟨.ref p, H, I, rfl, q⟩
/-- the value is of that builtin type -/
def tyV (K : PySem.W.Frag) (T : String) (x : V) (H : Hp) : Prop := match x with
  | .str _ => T = "str"
  | .int _ => T = "int"
  | .ref p => (T = "list" ∧ ∃ xs, SqL K H p xs) ∨ (T = "tuple" ∧ ∃ o, K.lookup p = some o ∧ o.cls = .type "tuple" ∧ o.dict = none) ∨
      (T = "dict" ∧ ((∃ kvs, H p = some (.dK kvs)) ∨ ∃ kvs, H p = some (.dT kvs))) ∨ (T = "set" ∧ ∃ S n, H p = some (.set S n))
  | _ => False
theorem tyV_is {pins : List (Addr × Obj)} {σ : St} {H : Hp} {s : Shared} {T : String} {x : V} {v : Value} (I : Inv X pins σ H s) (r : RelV x v) (ty : tyV X.K T x H) :
    s.TypeIs v T ∧ ∀ a, v = .ref a → ∃ ob, s.heap.get? a = some ob ∧ ob.dict = none := by
  cases x with
  | str z =>
    obtain ⟨t, rfl⟩ := r
    cases (show T = "str" from ty)
    exact ⟨typeIs_str s z t, fun _ e => nomatch e⟩
  | int i =>
    obtain ⟨t, rfl⟩ := r
    cases (show T = "int" from ty)
    exact ⟨typeIs_int s i t, fun _ e => nomatch e⟩
  | ref p =>
    cases r
    rcases ty with ⟨rfl, xs, hq⟩ | ⟨rfl, o, hk, hc, hd⟩ | ⟨rfl, hk⟩ | ⟨rfl, S, n, hk⟩
    · obtain ⟨its, _, pl, _⟩ := I.list hq
      refine ⟨pl.isList.typeIs, fun a e => ?_⟩
      cases e
      obtain ⟨o, n, e, c, hd, _⟩ := pl
      exact ⟨o, e, hd⟩
    · refine ⟨⟨o, I.kIn p o hk, hc⟩, fun a e => ?_⟩
      cases e
      exact ⟨o, I.kIn _ o hk, hd⟩
    · have z : ∃ o, s.heap.get? p = some o ∧ o.ExactDict := by
        rcases hk with ⟨kvs, hk⟩ | ⟨kvs, hk⟩
        · obtain ⟨_, _, _, _, o, _, _, e, ex, _⟩ := I.hok p _ hk
          exact ⟨o, e, ex⟩
        · obtain ⟨_, _, _, _, o, _, _, e, ex, _⟩ := I.hok p _ hk
          exact ⟨o, e, ex⟩
      obtain ⟨o, e, ex⟩ := z
      refine ⟨⟨o, e, ex.1⟩, fun a e2 => ?_⟩
      cases e2
      exact ⟨o, e, ex.2.1⟩
    · obtain ⟨o, _, _, _, e, ex, _⟩ := I.hok p _ hk
      refine ⟨⟨o, e, ex.1⟩, fun a e2 => ?_⟩
      cases e2
      exact ⟨o, e, ex.2.1⟩
  | _ => exact False.elim ty
def tBM0 (K : PySem.W.Frag) (T : String) (r : V → List V → Hp → VK → Prop) (to : TE) : TE := fun σ H Q => to σ H fun x H1 => tyV K T x H1 ∧ r x [] H1 Q
def tBM (K : PySem.W.Frag) (T : String) (r : V → List V → Hp → VK → Prop) (to : TE) (t : TA) : TE := fun σ H Q => to σ H fun x H1 => tyV K T x H1 ∧ t σ H1 fun xs H2 => r x xs H2 Q
variable {o e : Expr} {es : List Expr} {to : TE} {t : TA} {name : Str} {apos cpos : Pos} {T id : String} {r : V → List V → Hp → VK → Prop}
theorem pe_bm0 (pa : PlainAttrs T) (slot : Slot T name id) (hty : typeOf (.builtin id) = pure (.type "method_descriptor")) (hm : MtR X id r) (ho : PE X o to)
    (hbase : attributeBase o name X.env (eval o X.env) = eval o X.env := by rfl) (hline : (apos.endLine == cpos.line) = true := by rfl) : PE X (.Call (.Attribute o name apos) [] [] cpos) (tBM0 X.K T r to) := by
  intro pins s σ H Q I h
  refine wpAny_Call_method0_late hbase hline (thn (ho pins s σ H _ I h) fun v s1 ⟨x, H1, I1, r1, ty, q1⟩ => ?_)
  obtain ⟨h1, h2⟩ := tyV_is I1 r1 ty
  exact ⟨T, id, pa, slot, hty, h1, h2, Calls.callWith_builtin rfl (PySem.evalArgs_none (hm pins s1 σ H1 x [] v [] Q I1 r1 .nil q1))⟩
theorem pe_bm (pa : PlainAttrs T) (slot : Slot T name id) (hty : typeOf (.builtin id) = pure (.type "method_descriptor")) (hm : MtR X id r) (ho : PE X o to) (ha : PA X (e :: es) t)
    (hbase : attributeBase o name X.env (eval o X.env) = eval o X.env := by rfl)
    (hfew : ((backTo cpos (starEach (e :: es) X.env)).all (fun x => !x.1) && (backToKw cpos (keywordEach [] X.env)).all (fun x => x.1.isSome)
      && decide ((e :: es).length + ([] : List Keyword).length + (if ([] : List Keyword).isEmpty then 0 else 1) < 30)) = true := by rfl)
    (hline : (apos.endLine == cpos.line) = true := by rfl) (hs : starEach (e :: es) X.env = (false, eval e X.env) :: starEach es X.env := by rfl) (hplain : (backTo cpos (starEach es X.env)).any (·.1) = false := by rfl) :
    PE X (.Call (.Attribute o name apos) (e :: es) [] cpos) (tBM X.K T r to t) := by
  intro pins s σ H Q I h
  refine wpAny_Call_method_late hbase hfew hline rfl (thn (ho pins s σ H _ I h) fun v s1 ⟨x, H1, I1, r1, ty, q1⟩ => ?_)
  obtain ⟨h1, h2⟩ := tyV_is I1 r1 ty
  refine ⟨T, id, pa, slot, hty, h1, h2, ?_⟩
  have hA := ha cpos pins s1 σ H1 _ I1 q1
  rw [hs] at hA ⊢
  refine Calls.callWith_builtin (by show (false || (backTo cpos (starEach es X.env)).any (·.1)) = false; rw [hplain] <;> rfl) (Calls.evalArgs_plain ?_)
  exact thn hA fun us s2 ⟨vs, H2, I2, r2, q2⟩ => hm pins s2 σ H2 x vs v us Q I2 r1 r2 q2
end
end L2
namespace L2
open PySem PySem.Spec PyProof.Rows
def MtM (X : Cx) (id : String) (r : V → List V → Hp → VK → Prop) : Prop :=
  ∀ (pins : List (Addr × Obj)) (s : Shared) (σ : St) (H : Hp) (x : V) (xs : List V) (v : Value) (us : List Value) (Q : VK), Inv X pins σ H s → RelV x v → Vals xs us → r x xs H Q →
    wpAny (model X.prog X.w) X.A (call (.builtin id) (v :: us)) (EP X pins σ Q) X.xe s
theorem Vals.one : ∀ {x : V} {us : List Value}, Vals [x] us → ∃ u, us = [u] ∧ RelV x u
  | _, _, .cons r .nil => ⟨_, rfl, r⟩
theorem Vals.zero : ∀ {us : List Value}, Vals [] us → us = []
  | _, .nil => rfl
theorem Vals.dropLast {xs : List V} {us : List Value} (h : Vals xs us) : Vals xs.dropLast us.dropLast := by
  induction h with
  | nil => exact .nil
  | cons r t ih =>
    cases t with
    | nil => exact .nil
    | cons q t' => exact .cons r ih
theorem erase_last {α : Type} (l : List α) : l.eraseIdx (l.length - 1) = l.dropLast := by
  induction l with
  | nil => rfl
  | cons a r ih =>
    cases r with
    | nil => rfl
    | cons b r =>
      have e : (a :: b :: r).length - 1 = ((b :: r).length - 1) + 1 := by
        have h1 : (a :: b :: r).length = r.length + 2 := rfl
        have h2 : (b :: r).length = r.length + 1 := rfl
        omega
      rw [e, List.eraseIdx_cons_succ, ih]
      all_goals rfl
section
variable {X : Cx} {pins : List (Addr × Obj)} {σ : St} {H : Hp} {s : Shared} {l b : Addr} {xs ys zs : List V}
theorem Inv.lset {its its' : List Value} {n : Nat} {f : Array Value → Array Value} {t' : Nat} (I : Inv X pins σ H s) (hH : H l = some (.lst xs))
    (e : s.heap.get? l = some { cls := .type "list", data := .seq its.toArray n }) (hf : f its.toArray = its'.toArray) (hv : Vals ys its') (hz : ys.length ≤ sizeLine) :
    Inv X pins σ (upd H l (.lst ys)) { s with heap := s.heap.update l (Obj.mapSeq f), toks := t' } := by
  have q := PySem.IsL.update e f
  rw [hf] at q
  refine I.write (x := l) (e := l) (by rw [hH]; exact trivial) (.inl rfl) (fun b' u hb hu => (Heap.get?_update_other s.heap (Obj.mapSeq f) (Ne.symm hb)).trans hu) ⟨_, q⟩ ?_
  exact ⟨hz, its', _, hv, q⟩
theorem Inv.lnew {its : List Value} {t' : Nat} (I : Inv X pins σ H s) (hv : Vals ys its) (hz : ys.length ≤ sizeLine) :
    Inv X pins σ (upd H s.heap.objs.size (.lst ys)) { s with heap := s.heap.push { cls := .type "list", data := .seq its.toArray }, toks := t' } :=
  I.laid (fun _ _ q => Heap.get?_push_of_some _ q) (Nat.le_refl _) ⟨hz, its, 0, hv, Heap.get?_push_size _ rfl⟩
theorem Inv.fresh (I : Inv X pins σ H s) : H s.heap.objs.size = none := I.hok.fresh (Nat.le_refl _)
theorem Inv.lstM (I : Inv X pins σ H s) (hH : H l = some (.lst xs)) : xs.length ≤ sizeLine ∧ ∃ (its : List Value) (n : Nat), Vals xs its ∧ xs.length = its.length ∧ s.heap.get? l = some { cls := .type "list", data := .seq its.toArray n } := by
  obtain ⟨z, its, n, r, e⟩ := I.hok l _ hH
  exact ⟨z, its, n, r, r.length, e⟩
theorem notLongL {n : Nat} (h : n ≤ sizeLine) : Builtin.List.listTooLong n = false := by
  unfold Builtin.List.listTooLong
  exact decide_eq_false (by omega)
end
section
variable {X : Cx}
def rAppend : V → List V → Hp → VK → Prop := fun x vs H Q => ∃ l xs y, x = .ref l ∧ vs = [y] ∧ H l = some (.lst xs) ∧ xs.length < sizeLine ∧ Q .non (upd H l (.lst (xs ++ [y])))
theorem mt_append : MtM X "list.append" rAppend := by
  intro pins s σ H x vs v us Q I rx rv h
  obtain ⟨l, xs, y, rfl, rfl, hH, hz, q⟩ := h
  cases rx
  obtain ⟨u, rfl, ru⟩ := rv.one
  obtain ⟨z, its, n, r, hl, e⟩ := I.lstM hH
  refine call_meets F.slot_list_append ⟨_, e, rfl⟩ F.entry_list_append (F.args_list_append_2 _ _) (PySem.list_append l its.toArray n u (by rw [List.size_toArray]; omega)) ⟨e, ?_⟩
  refine ⟨.non, _, I.lset (its' := its ++ [u]) hH e (by simp) (r.append (.cons ru .nil)) ?_, rfl, q⟩
  rw [List.length_append, List.length_singleton]
  omega
def rExtend : V → List V → Hp → VK → Prop := fun x vs H Q => ∃ l b xs zs, x = .ref l ∧ vs = [.ref b] ∧ H l = some (.lst xs) ∧ H b = some (.lst zs) ∧ xs.length + zs.length ≤ sizeLine ∧ Q .non (upd H l (.lst (xs ++ zs)))
theorem mt_extend : MtM X "list.extend" rExtend := by
  intro pins s σ H x vs v us Q I rx rv h
  obtain ⟨l, b, xs, zs, rfl, rfl, hH, hB, hz, q⟩ := h
  cases rx
  obtain ⟨u, rfl, ru⟩ := rv.one
  cases ru
  obtain ⟨z, its, n, r, hl, e⟩ := I.lstM hH
  obtain ⟨z2, its2, n2, r2, hl2, e2⟩ := I.lstM hB
  have hsz : its.toArray.size + its2.toArray.size ≤ sizeLine := by rw [List.size_toArray, List.size_toArray]; omega
  have hlong : ¬ (!its.toArray.isEmpty && Builtin.List.listTooLong (its.toArray.size + its2.toArray.size)) = true := by
    rw [notLongL hsz, Bool.and_false]
    exact Bool.false_ne_true
  refine call_meets F.slot_list_extend ⟨_, e, rfl⟩ F.entry_list_extend (F.args_list_extend_2 _ _)
    (AutoSeq1.list_extend_list_list_0 l its.toArray n b its2.toArray n2 hlong (by rw [List.size_toArray]; omega) (by omega)) ⟨e, e2, ?_⟩
  refine ⟨.non, _, I.lset (its' := its ++ its2) hH e (by simp) (r.append r2) ?_, rfl, q⟩
  rw [List.length_append]
  omega
def rPop : V → List V → Hp → VK → Prop := fun x vs H Q => ∃ l xs y, x = .ref l ∧ vs = [] ∧ H l = some (.lst xs) ∧ xs[xs.length - 1]? = some y ∧ Q y (upd H l (.lst xs.dropLast))
theorem mt_pop : MtM X "list.pop" rPop := by
  intro pins s σ H x vs v us Q I rx rv h
  obtain ⟨l, xs, y, rfl, rfl, hH, hy, q⟩ := h
  cases rx
  have hus := rv.zero
  subst hus
  obtain ⟨z, its, n, r, hl, e⟩ := I.lstM hH
  obtain ⟨u, hu, ru⟩ := r.get hy
  have hy' : its.toArray[its.toArray.size - 1]? = some u := by
    show its.toArray[its.length - 1]? = some u
    rw [← Array.getElem?_toList, ← hl]
    exact hu
  refine call_meets F.slot_list_pop ⟨_, e, rfl⟩ F.entry_list_pop (F.args_list_pop_1 _) (MeetsSeq.list_pop_last l its.toArray n u hy' (by rw [List.size_toArray]; omega)) ⟨e, ?_⟩
  refine ⟨y, _, I.lset (its' := its.dropLast) hH e ?_ r.dropLast ?_, ru, q⟩
  · show its.toArray.eraseIdxIfInBounds (its.toArray.size - 1) = its.dropLast.toArray
    rw [List.size_toArray, List.eraseIdxIfInBounds_toArray, erase_last]
  · rw [List.length_dropLast]
    omega
def rCat : R2 := fun x y H Q => ∃ l b xs zs, x = .ref l ∧ y = .ref b ∧ H l = some (.lst xs) ∧ H b = some (.lst zs) ∧ xs.length + zs.length ≤ sizeLine ∧ ∀ p, H p = none → Q (.ref p) (upd H p (.lst (xs ++ zs)))
theorem op_cat : OpR X (binaryOp .Add) rCat := by
  intro pins s σ H x y v u Q I rx ry h
  obtain ⟨l, b, xs, zs, rfl, rfl, hH, hB, hz, q⟩ := h
  cases rx
  cases ry
  obtain ⟨z, its, n, r, hl, e⟩ := I.lstM hH
  obtain ⟨z2, its2, n2, r2, hl2, e2⟩ := I.lstM hB
  refine PySem.P.add_list e e2 ?_ (by rw [List.size_toArray, List.size_toArray]; omega)
  have ea : its.toArray ++ its2.toArray = (its ++ its2).toArray := by simp
  rw [ea]
  exact ⟨.ref _, _, I.lnew (t' := s.toks) (r.append r2) (by rw [List.length_append]; omega), rfl, q _ I.fresh⟩
end
section
variable {prog : Program} {w : World} {A : Around} {E : Value → Shared → Prop} {s : Shared}
end
section
variable {X : Cx}
end
end L2
namespace L2
open PySem PySem.Spec PyProof.Rows
theorem Vals.ints : ∀ {ns : List Int} {us : List Value}, Vals (ns.map V.int) us → IntsAre us ns
  | [], us, h => by
    rw [List.map_nil] at h
    cases h
    exact IntsAre.nil
  | n :: ns, us, h => by
    rw [List.map_cons] at h
    cases h with
    | cons r t =>
      obtain ⟨k, rfl⟩ := r
      exact IntsAre.cons n k (Vals.ints t)
theorem Vals.bls : ∀ {bs : List Bool} {us : List Value}, Vals (bs.map V.bl) us → us = bs.map Value.bool
  | [], us, h => by
    rw [List.map_nil] at h
    cases h
    rfl
  | b :: bs, us, h => by
    rw [List.map_cons] at h
    cases h with
    | cons r t =>
      cases r
      rw [Vals.bls t, List.map_cons]
theorem Vals.ref1 {a : Addr} {us : List Value} (r : Vals [V.ref a] us) : us = [Value.ref a] := by
  cases r with
  | cons r t =>
    cases t
    cases r
    rfl
section
variable {prog : Program} {w : World} {A : Around} {E : Value → Shared → Prop} {s : Shared} {l : Addr} {its : List Value} {ns : List Int} {Q : Value → Shared → Prop}
theorem max_raw (hh : A.handled = none) (hl : s.heap.IsList l its.toArray) (hi : IntsAre its ns) (hne : 0 < ns.length)
    (h : ∀ h' tk M t', (∀ b o, s.heap.get? b = some o → h'.get? b = some o) → M ∈ ns → (∀ a, a ∈ ns → a ≤ M) → Q (.int M t') { s with heap := h', toks := tk }) : wpAny (model prog w) A (call (.builtin "max") [.ref l]) Q E s := by
  obtain ⟨xs, e⟩ := hi.allInts.items
  have hn : numsOf (intItems xs).toList = ns := by rw [← e]; exact hi.numsOf
  rw [nums_intItems] at hn
  subst hn
  rw [e] at hl
  have hsz : 0 < xs.size := by simpa using hne
  refine PySem.max_intList hh hl hsz fun v h' tk hv hk => ?_
  obtain ⟨t, rfl⟩ := intItems_at hv
  obtain ⟨h1, h2⟩ := argBest_gt (numAt xs) (xs.size - 1)
  refine h h' tk _ t hk ?_ fun a ha => ?_
  · rw [numAt_eq]; exact PySem.getD_mem (by rw [List.length_map, Array.length_toList]; omega)
  · obtain ⟨j, hj, rfl⟩ := mem_getD ha
    rw [List.length_map, Array.length_toList] at hj
    rw [← numAt_eq]; exact h2 j (by omega)
theorem min_raw (hh : A.handled = none) (hl : s.heap.IsList l its.toArray) (hi : IntsAre its ns) (hne : 0 < ns.length)
    (h : ∀ h' tk M t', (∀ b o, s.heap.get? b = some o → h'.get? b = some o) → M ∈ ns → (∀ a, a ∈ ns → M ≤ a) → Q (.int M t') { s with heap := h', toks := tk }) : wpAny (model prog w) A (call (.builtin "min") [.ref l]) Q E s := by
  obtain ⟨xs, e⟩ := hi.allInts.items
  have hn : numsOf (intItems xs).toList = ns := by rw [← e]; exact hi.numsOf
  rw [nums_intItems] at hn
  subst hn
  rw [e] at hl
  have hsz : 0 < xs.size := by simpa using hne
  refine PySem.min_intList hh hl hsz fun v h' tk hv hk => ?_
  obtain ⟨t, rfl⟩ := intItems_at hv
  obtain ⟨h1, h2⟩ := argBest_lt (numAt xs) (xs.size - 1)
  refine h h' tk _ t hk ?_ fun a ha => ?_
  · rw [numAt_eq]; exact PySem.getD_mem (by rw [List.length_map, Array.length_toList]; omega)
  · obtain ⟨j, hj, rfl⟩ := mem_getD ha
    rw [List.length_map, Array.length_toList] at hj
    rw [← numAt_eq]; exact h2 j (by omega)
end
section
variable {X : Cx}
/-- max(xs), min(xs) of a list of ints -/
def rMax (K : PySem.W.Frag) : List V → Hp → VK → Prop := fun vs H Q => ∃ (a : Addr) (ns : List Int), vs = [V.ref a] ∧ SqL K H a (ns.map V.int) ∧ 0 < ns.length ∧ ∀ m, m ∈ ns → (∀ y, y ∈ ns → y ≤ m) → Q (.int m) H
def rMin (K : PySem.W.Frag) : List V → Hp → VK → Prop := fun vs H Q => ∃ (a : Addr) (ns : List Int), vs = [V.ref a] ∧ SqL K H a (ns.map V.int) ∧ 0 < ns.length ∧ ∀ m, m ∈ ns → (∀ y, y ∈ ns → m ≤ y) → Q (.int m) H
theorem cr_max (hc : X.calm = true) : CallR X (.builtin "max") (rMax X.K) := by
  intro pins s σ H vs us Q I r h
  obtain ⟨a, ns, rfl, hs, hne, q⟩ := h
  obtain ⟨its, rv, hl, _⟩ := I.list hs
  rw [Vals.ref1 r]
  exact max_raw (I.ok.hd hc) hl.isList rv.ints hne fun h' tk m t' hk h1 h2 => ⟨.int _, H, I.kept hk, ⟨_, rfl⟩, q m h1 h2⟩
theorem cr_min (hc : X.calm = true) : CallR X (.builtin "min") (rMin X.K) := by
  intro pins s σ H vs us Q I r h
  obtain ⟨a, ns, rfl, hs, hne, q⟩ := h
  obtain ⟨its, rv, hl, _⟩ := I.list hs
  rw [Vals.ref1 r]
  exact min_raw (I.ok.hd hc) hl.isList rv.ints hne fun h' tk m t' hk h1 h2 => ⟨.int _, H, I.kept hk, ⟨_, rfl⟩, q m h1 h2⟩
end
section
variable {X : Cx}
end
section
variable {X : Cx}
end
theorem iter_any {prog : Program} {w : World} {A : Around} {E : Value → Shared → Prop} {s : Shared} {l : Addr} {items : Array Value} {Q : Value → Shared → Prop} (hl : s.heap.IsList l items)
    (h : ∀ s₂ : Shared, s₂ = { s with heap := s.heap.push { cls := .type "list_iterator", data := .fields #[.ref l, .int 0 0] } } →
      (s₂.heap.IsListIter s.heap.objs.size l 0 ∧ s₂.heap.IsList l items) → l ≠ s.heap.objs.size → Q (.ref s.heap.objs.size) s₂) : wpAny (model prog w) A (pyIter (.ref l)) Q E s := by
  have hlt : l < s.heap.objs.size := by obtain ⟨_, e, _⟩ := hl; exact Heap.lt_size e
  exact wpAny_pyIter_list hl (h _ rfl ⟨⟨_, Heap.get?_push_size _ rfl, rfl, rfl⟩, hl.push _⟩ (Nat.ne_of_lt hlt))
theorem truth_bools {prog : Program} {w : World} {A : Around} {bs : List Bool} {its : List Value} (e : its = bs.map Value.bool) :
    TruthOf prog w A (fun i v => its.toArray[i]? = some v) (fun i => bs.getD i false) := fun i v s Q E hv hq => by
  have hv' : its[i]? = some v := by simpa using hv
  rw [e, List.getElem?_map] at hv'
  obtain ⟨b, hb, rfl⟩ := Option.map_eq_some_iff.mp hv'
  have hg : bs.getD i false = b := by rw [List.getD_eq_getElem?_getD, hb] <;> rfl
  have hq' : Q (bs.getD i false) s := hq
  rw [hg] at hq'
  exact wpAny_truthy_bool hq'
theorem all_range : ∀ bs : List Bool, (List.range bs.length).all (fun i => bs.getD i false) = bs.all id
  | [] => rfl
  | b :: bs => by
    rw [List.length_cons, List.range_succ_eq_map, List.all_cons, List.all_map, List.all_cons, ← all_range bs]
    all_goals rfl
section
variable {X : Cx}
def rAll (K : PySem.W.Frag) : List V → Hp → VK → Prop := fun vs H Q => ∃ (a : Addr) (bs : List Bool), vs = [V.ref a] ∧ SqL K H a (bs.map V.bl) ∧ Q (.bl (bs.all id)) H
theorem cr_all (hc : X.calm = true) : CallR X (.builtin "all") (rAll X.K) := by
  intro pins s σ H vs us Q I r h
  obtain ⟨a, bs, rfl, hs, q⟩ := h
  obtain ⟨its, rv, hl, _⟩ := I.list hs
  rw [Vals.ref1 r]
  have hb := rv.bls
  refine call_all_walk (iter_any hl.isList fun s₂ e2 st hne => ?_)
  subst e2
  refine ⟨_, _, _, _, _, _, _, rfl, Walks.list (A := X.A.in1) (I.ok.hd hc) _ a hne its.toArray, st, truth_bools hb, fun h' tk hk => ?_⟩
  refine ⟨.bl _, H, I.kept fun b o eo => hk b o (fun hmem => ?_) (Heap.get?_push_of_some _ eo), ?_, q⟩
  · rcases List.mem_cons.mp hmem with e1 | hmem
    · exact absurd (e1 ▸ Heap.lt_size eo) (Nat.lt_irrefl _)
    · cases hmem
  · show Value.bool _ = Value.bool _
    rw [← all_range, hb, List.size_toArray, List.length_map]
end
mutual
inductive Dp (K : PySem.W.Frag) (H : Hp) : V → PyData → Prop
  | non : Dp K H .non .none
  | bl (b : Bool) : Dp K H (.bl b) (.bool b)
  | int (i : Int) : Dp K H (.int i) (.int i)
  | str (x : Str) : Dp K H (.str x) (.str x)
  | lst {a : Addr} {xs : List V} {ds : List PyData} : SqL K H a xs → DpAll K H xs ds → Dp K H (.ref a) (.list ds)
  | tup {a : Addr} {xs : List V} {ds : List PyData} : SqT K H a xs → DpAll K H xs ds → Dp K H (.ref a) (.tuple ds)
inductive DpAll (K : PySem.W.Frag) (H : Hp) : List V → List PyData → Prop
  | nil : DpAll K H [] []
  | cons {v : V} {vs : List V} {d : PyData} {ds : List PyData} : Dp K H v d → DpAll K H vs ds → DpAll K H (v :: vs) (d :: ds)
end
section
variable {X : Cx} {pins : List (Addr × Obj)} {σ : St} {H : Hp} {s : Shared}
mutual
theorem Dp.reads (I : Inv X pins σ H s) : ∀ (d : PyData) (v : V) (u : Value), Dp X.K H v d → RelV v u → ∃ as, Reads s.heap u d as
  | .none, _, _, h, r => by
    cases h
    cases r
    exact ⟨_, Reads.none⟩
  | .bool b, _, _, h, r => by
    cases h
    cases r
    exact ⟨_, Reads.bool b⟩
  | .int i, _, _, h, r => by
    cases h
    obtain ⟨t, rfl⟩ := r
    exact ⟨_, Reads.int i t⟩
  | .str x, _, _, h, r => by
    cases h
    obtain ⟨t, rfl⟩ := r
    exact ⟨_, Reads.str x t⟩
  | .list ds, _, _, h, r => by
    cases h with
    | lst hs ha =>
      cases r
      obtain ⟨its, rv, ⟨o, n, ho, hc, _, hd⟩, _⟩ := I.list hs
      obtain ⟨as, hr⟩ := Dp.readsAll I ds _ its ha rv
      exact ⟨_, Reads.list ho hc hd hr⟩
  | .tuple ds, _, _, h, r => by
    cases h with
    | tup hs ha =>
      cases r
      obtain ⟨its, rv, ⟨o, ho, hc, n, hd⟩, _⟩ := I.tuple hs
      obtain ⟨as, hr⟩ := Dp.readsAll I ds _ its ha rv
      exact ⟨_, Reads.tuple ho hc hd hr⟩
  | .dict _, _, _, h, _ => by cases h
theorem Dp.readsAll (I : Inv X pins σ H s) : ∀ (ds : List PyData) (vs : List V) (us : List Value), DpAll X.K H vs ds → Vals vs us → ∃ as, ReadsAll s.heap us ds as
  | [], _, _, h, r => by
    cases h
    cases r
    exact ⟨_, ReadsAll.nil⟩
  | d :: ds, _, _, h, r => by
    cases h with
    | cons h1 h2 =>
      cases r with
      | cons r1 r2 =>
        obtain ⟨as, q1⟩ := Dp.reads I d _ _ h1 r1
        obtain ⟨bs, q2⟩ := Dp.readsAll I ds _ _ h2 r2
        exact ⟨_, ReadsAll.cons q1 q2⟩
end
end
section
variable {X : Cx}
end
end L2
namespace L2
open PySem PySem.Spec PyProof.Rows
abbrev CellAt (h : Heap) (c : Addr) (v : Option Value) : Prop := h.IsCell c v
def relS (scope sc : Scope) : Scope :=
  { scope with names := scope.names.map fun (n, k) => if (k == .free && sc.kind == .function && sc.names.lookup n == some .cell) then (n, .cell) else (n, k) }
def cloFrom (cells : List (Str × Addr)) : List (Str × NameKind) → List (Str × Addr) → List (Str × Addr)
  | [], acc => acc
  | (n, k) :: r, acc => if k == .free then cloFrom cells r ((n, (cells.lookup n).getD 0) :: acc) else cloFrom cells r acc
theorem closure_loop (env : Env) (f : Str × NameKind → List (Str × Addr) → Sem (ForInStep (List (Str × Addr))))
    (hf : ∀ n k c, f (n, k) c = if k == .free then (do let a ← cellOf env n; pure (.yield ((n, a) :: c))) else pure (.yield c)) :
    ∀ (names : List (Str × NameKind)) (acc : List (Str × Addr)), (∀ y ∈ names, y.2 = .free → ∃ c, env.cells.lookup y.1 = some c) → forIn names acc f = pure (cloFrom env.cells names acc)
  | [], acc, _ => by rw [List.forIn_nil]; rfl
  | (n, k) :: r, acc, h => by
    rw [List.forIn_cons, hf]
    have ih := fun acc => closure_loop env f hf r acc fun y hy => h y (List.mem_cons_of_mem _ hy)
    unfold cloFrom
    by_cases hk : (k == NameKind.free) = true
    · rw [if_pos hk, if_pos hk]
      obtain ⟨c, hc⟩ := h (n, k) List.mem_cons_self (by simpa using hk)
      have e : cellOf env n = pure c := by unfold cellOf; rw [hc]
      rw [e]
      have e2 : (env.cells.lookup n).getD 0 = c := by rw [hc]; rfl
      rw [e2]
      exact ih _
    · rw [if_neg hk, if_neg hk]
      exact ih _
theorem closure_ok {scope : Scope} {env : Env} (h : ∀ y ∈ scope.names, y.2 = .free → ∃ c, env.cells.lookup y.1 = some c) : closureFor scope env = pure (cloFrom env.cells scope.names []) := by
  simp only [closureFor]
  rw [closure_loop env _ (fun n k c => rfl) scope.names [] h]
  rfl
theorem mem_lookup {α : Type} : ∀ {l : List (Str × α)} {n : Str} {c : α}, (n, c) ∈ l → ∃ c', l.lookup n = some c'
  | (k, v) :: r, n, c, h => by
    rw [List.lookup_cons]
    cases hb : n == k with
    | true => exact ⟨_, rfl⟩
    | false =>
      rcases List.mem_cons.mp h with e | h
      · cases e; simp at hb
      · exact mem_lookup h
theorem cloFrom_mem {cells : List (Str × Addr)} : ∀ {names : List (Str × NameKind)} {acc : List (Str × Addr)} {n : Str} {c : Addr}, (n, c) ∈ cloFrom cells names acc → (n, c) ∈ acc ∨ ((n, .free) ∈ names ∧ c = (cells.lookup n).getD 0)
  | [], _, _, _, h => .inl h
  | (m, k) :: r, acc, n, c, h => by
    unfold cloFrom at h
    split at h
    · rename_i hk
      have hk : k = .free := by simpa using hk
      rcases cloFrom_mem h with h | ⟨h1, h2⟩
      · rcases List.mem_cons.mp h with e | h
        · cases e; exact .inr ⟨hk ▸ List.mem_cons_self, rfl⟩
        · exact .inl h
      · exact .inr ⟨List.mem_cons_of_mem _ h1, h2⟩
    · rcases cloFrom_mem h with h | ⟨h1, h2⟩
      · exact .inl h
      · exact .inr ⟨List.mem_cons_of_mem _ h1, h2⟩
theorem cloFrom_acc {cells : List (Str × Addr)} : ∀ {names : List (Str × NameKind)} {acc : List (Str × Addr)} {p : Str × Addr}, p ∈ acc → p ∈ cloFrom cells names acc
  | [], _, _, h => h
  | (m, k) :: r, acc, p, h => by
    unfold cloFrom
    split
    · exact cloFrom_acc (List.mem_cons_of_mem _ h)
    · exact cloFrom_acc h
theorem cloFrom_has {cells : List (Str × Addr)} : ∀ {names : List (Str × NameKind)} {acc : List (Str × Addr)} {n : Str}, (n, .free) ∈ names → (n, (cells.lookup n).getD 0) ∈ cloFrom cells names acc
  | (m, k) :: r, acc, n, h => by
    unfold cloFrom
    rcases List.mem_cons.mp h with e | h
    · cases e
      exact cloFrom_acc List.mem_cons_self
    · split
      · exact cloFrom_has h
      · exact cloFrom_has h
theorem cells_mem : ∀ {names : List (Str × NameKind)} {h : Heap} {acc : List (Str × Addr)} {x : Str} {c : Addr}, (x, c) ∈ cellsFrom h.objs.size names acc →
    (x, c) ∈ acc ∨ ((x, .cell) ∈ names ∧ h.objs.size ≤ c ∧ CellAt (pushCells h names) c none)
  | [], _, _, _, _, h => .inl h
  | (n, k) :: r, h, acc, x, c, hm => by
    unfold cellsFrom at hm
    unfold pushCells
    split at hm
    · rename_i hk
      rw [if_pos hk]
      have hk : k = .cell := by simpa using hk
      rw [← Heap.size_push h { cls := .type "cell", data := .cell none }] at hm
      rcases cells_mem hm with hm | ⟨h1, h2, h3⟩
      · rcases List.mem_cons.mp hm with e | hm
        · cases e
          exact .inr ⟨hk ▸ List.mem_cons_self, Nat.le_refl _, _, pushCells_keeps r _ _ _ (Heap.get?_push_size _ rfl), rfl⟩
        · exact .inl hm
      · rw [Heap.size_push] at h2
        exact .inr ⟨List.mem_cons_of_mem _ h1, Nat.le_of_succ_le h2, h3⟩
    · rename_i hk
      rw [if_neg hk]
      rcases cells_mem hm with hm | ⟨h1, h2, h3⟩
      · exact .inl hm
      · exact .inr ⟨List.mem_cons_of_mem _ h1, h2, h3⟩
theorem cells_acc : ∀ {names : List (Str × NameKind)} {n : Nat} {acc : List (Str × Addr)} {p : Str × Addr}, p ∈ acc → p ∈ cellsFrom n names acc
  | [], _, _, _, h => h
  | (m, k) :: r, n, acc, p, h => by
    unfold cellsFrom
    split
    · exact cells_acc (List.mem_cons_of_mem _ h)
    · exact cells_acc h
theorem cells_has : ∀ {names : List (Str × NameKind)} {n : Nat} {acc : List (Str × Addr)} {x : Str}, (x, .cell) ∈ names → ∃ c, (x, c) ∈ cellsFrom n names acc
  | (m, k) :: r, n, acc, x, h => by
    unfold cellsFrom
    rcases List.mem_cons.mp h with e | h
    · cases e
      exact ⟨n, cells_acc List.mem_cons_self⟩
    · split
      · exact cells_has h
      · exact cells_has h
theorem cells_inj : ∀ {names : List (Str × NameKind)} {h : Heap} {acc : List (Str × Addr)} {x y : Str} {c : Addr}, (∀ p ∈ acc, p.2 < h.objs.size) → (∀ x y c, (x, c) ∈ acc → (y, c) ∈ acc → x = y) →
    (x, c) ∈ cellsFrom h.objs.size names acc → (y, c) ∈ cellsFrom h.objs.size names acc → x = y
  | [], _, _, _, _, _, _, hi, h1, h2 => hi _ _ _ h1 h2
  | (n, k) :: r, h, acc, x, y, c, hl, hi, h1, h2 => by
    unfold cellsFrom at h1 h2
    split at h1
    · rename_i hk
      rw [if_pos hk] at h2
      rw [← Heap.size_push h { cls := .type "cell", data := .cell none }] at h1 h2
      refine cells_inj (h := h.push _) (fun p hp => ?_) (fun x y c a b => ?_) h1 h2
      · rw [Heap.size_push]
        rcases List.mem_cons.mp hp with rfl | hp
        · exact Nat.lt_succ_self _
        · exact Nat.lt_succ_of_lt (hl p hp)
      · rcases List.mem_cons.mp a with e | a <;> rcases List.mem_cons.mp b with e' | b
        · cases e; cases e'; rfl
        · cases e; exact absurd (hl _ b) (Nat.lt_irrefl _)
        · cases e'; exact absurd (hl _ a) (Nat.lt_irrefl _)
        · exact hi _ _ _ a b
    · rename_i hk
      rw [if_neg hk] at h2
      exact cells_inj hl hi h1 h2
theorem newEnv_comp {M : Model} {A : Around} {E : Value → Shared → Prop} {s : Shared} {scope : Scope} {globals : Addr} {closure : List (Str × Addr)} {qual : Str} {func : Option Addr} {code : Value} {around : Env} {builtins : Addr} {Q : Env → Shared → Prop}
    (h : Q (newEnv scope s.heap.objs.size globals (cellsFrom (s.heap.objs.size + 1) scope.names closure) qual func code (some around) builtins)
      { s with heap := pushCells (s.heap.push { cls := .type "dict", data := .dict #[] }) scope.names }) :
    wpAny M A (newFunctionEnv scope globals closure [] qual func code (some around) builtins) Q E s := by
  simp only [newFunctionEnv, Option.isSome_some, if_true]
  refine wpAny_bind (wpAny_alloc ?_)
  refine wpAny_bind (wpAny_layCells _ (fun n k c => rfl) scope.names closure _ _ ?_)
  rw [show ({ s with heap := s.heap.push { cls := .type "dict", data := .dict #[] } } : Shared).heap.objs.size = s.heap.objs.size + 1 from Heap.size_push ..]
  rw [List.forIn_nil]
  exact wpAny_bind (wpAny_pure (wpAny_pure h))
/-- every name of the written scope, in the scope that runs -/
theorem lookup_relS {sc : Scope} : ∀ {names : List (Str × NameKind)} {x : Str} {k : NameKind},
    (names.map fun (n, k) => if (k == NameKind.free && sc.kind == .function && sc.names.lookup n == some .cell) then (n, NameKind.cell) else (n, k)).lookup x = some k →
    ∃ k', names.lookup x = some k' ∧ (k = k' ∨ (k' = .free ∧ k = .cell))
  | [], _, _, h => by simp at h
  | (n, k₀) :: r, x, k, h => by
    have ih := @lookup_relS sc r x k
    have h' : List.lookup x ((if (k₀ == NameKind.free && sc.kind == .function && sc.names.lookup n == some .cell) = true then (n, NameKind.cell) else (n, k₀)) :: (r.map _)) = some k := h
    cases hx : x == n with
    | true =>
      simp only [List.lookup_cons, hx]
      by_cases hc : (k₀ == NameKind.free && sc.kind == .function && sc.names.lookup n == some .cell) = true
      · rw [if_pos hc] at h'
        simp only [List.lookup_cons, hx] at h'
        cases h'
        simp only [Bool.and_eq_true, beq_iff_eq] at hc
        exact ⟨k₀, rfl, .inr ⟨hc.1.1, rfl⟩⟩
      · rw [if_neg hc] at h'
        simp only [List.lookup_cons, hx] at h'
        cases h'
        exact ⟨_, rfl, .inl rfl⟩
    | false =>
      simp only [List.lookup_cons, hx]
      by_cases hc : (k₀ == NameKind.free && sc.kind == .function && sc.names.lookup n == some .cell) = true
      · rw [if_pos hc] at h'
        simp only [List.lookup_cons, hx] at h'
        exact ih h'
      · rw [if_neg hc] at h'
        simp only [List.lookup_cons, hx] at h'
        exact ih h'
/-- the names of a comprehension's block: its own (with their places in N), or captured -/
structure BlkOk (N : List Str) (sc scope : Scope) (own : List (Str × Nat)) : Prop where
  kind : scope.kind = .function
  uniq : ∀ y ∈ scope.names, scope.names.lookup y.1 = some y.2
  ix : ∀ p ∈ own, N[p.2]? = some p.1
  free : ∀ y ∈ scope.names, y.2 = .free → sc.names.lookup y.1 = some .cell ∨ sc.names.lookup y.1 = some .free
  own : ∀ y ∈ scope.names, y.2 = .local ∨ y.2 = .cell → y.1 ∈ own.map (·.1) ∨ y.1 ∉ N
/-- the slots of the block's own names forgotten -/
def wipe (σ : St) : List Nat → St
  | [] => σ
  | v :: vs => (wipe σ vs).set v none
theorem wipe_length (σ : St) : ∀ vs : List Nat, (wipe σ vs).length = σ.length
  | [] => rfl
  | v :: vs => by unfold wipe; rw [List.length_set, wipe_length σ vs]
theorem wipe_some {σ : St} {i : Nat} {x : V} : ∀ {vs : List Nat}, (wipe σ vs)[i]? = some (some x) → σ[i]? = some (some x) ∧ i ∉ vs
  | [], h => ⟨h, by simp⟩
  | v :: vs, h => by
    unfold wipe at h
    by_cases hi : v = i
    · subst hi
      by_cases hv : v < (wipe σ vs).length
      · rw [List.getElem?_set_self hv] at h; cases h
      · rw [List.getElem?_eq_none (by simpa using hv)] at h; cases h
    · rw [List.getElem?_set_ne hi] at h
      obtain ⟨h1, h2⟩ := wipe_some h
      exact ⟨h1, by simp only [List.mem_cons, not_or]; exact ⟨fun e => hi e.symm, h2⟩⟩
/-- the context of a block that starts at s, its iterator's objects at fp -/
abbrev Cx.blk (X : Cx) (s : Shared) (H : Hp) (scope : Scope) (cenv : Env) (fp : List Addr) : Cx := { X with s_0 := s, H_0 := H, env := cenv, outer := X.stack, ex := fp, fn := fun x => scope.names.lookup x == some .cell, pn := [], xe := fun _ _ => False }
section
variable {X : Cx} {pins : List (Addr × Obj)} {σ : St} {H : Hp} {s : Shared}
theorem block_start {scope : Scope} {own : List (Str × Nat)} {fp : List Addr} (I : Inv X pins σ H s) (ok : BlkOk X.N X.env.scope scope own) (hN : X.N.Nodup) (hfp : ∀ b ∈ fp, FpOk X pins H b ∧ b < s.heap.objs.size) :
    Inv (X.blk s H scope (compEnvC scope (cellsFrom (s.heap.objs.size + 1) scope.names (cloFrom X.env.cells scope.names [])) s.heap.objs.size X.env) fp) [] (wipe σ (own.map (·.2))) H { s with heap := pushCells (s.heap.push { cls := .type "dict", data := .dict #[] }) scope.names } := by
  have hfree : ∀ y ∈ scope.names, y.2 = .free → ∃ c, X.env.cells.lookup y.1 = some c := fun y hy e => by
    rcases ok.free y hy e with k | k
    · exact I.ok.has _ (.inl k)
    · exact I.ok.has _ (.inr k)
  generalize hcenv : compEnvC scope (cellsFrom (s.heap.objs.size + 1) scope.names (cloFrom X.env.cells scope.names [])) s.heap.objs.size X.env = cenv
  have kp : ∀ b o, s.heap.get? b = some o → (pushCells (s.heap.push { cls := .type "dict", data := .dict #[] }) scope.names).get? b = some o := fun b o e => pushCells_keeps _ _ _ _ (Heap.get?_push_of_some _ e)
  have hL : cenv.locals = s.heap.objs.size := by rw [← hcenv]; rfl
  have hcl : cenv.cells = cellsFrom (s.heap.objs.size + 1) scope.names (cloFrom X.env.cells scope.names []) := by rw [← hcenv]; rfl
  have hsc : cenv.scope = relS scope X.env.scope := by rw [← hcenv]; rfl
  rw [← Heap.size_push s.heap { cls := .type "dict", data := .dict #[] }] at hcl
  have cm : ∀ {y c}, (y, c) ∈ cloFrom X.env.cells scope.names [] → X.env.cells.lookup y = some c ∧ c < s.heap.objs.size := fun {y c} hm => by
    rcases cloFrom_mem hm with hm | ⟨h1, rfl⟩
    · cases hm
    · obtain ⟨c, hc⟩ := hfree _ h1 rfl
      rw [hc]
      obtain ⟨w, z⟩ := I.cell _ _ hc
      exact ⟨rfl, z.lt⟩
  have mem : ∀ {y c}, cenv.cells.lookup y = some c → (X.env.cells.lookup y = some c ∧ c < s.heap.objs.size) ∨ (s.heap.objs.size + 1 ≤ c ∧ CellAt (pushCells (s.heap.push { cls := .type "dict", data := .dict #[] }) scope.names) c none) := fun {y c} e => by
    rw [hcl] at e
    rcases cells_mem (PySem.mem_of_lookup e) with hm | ⟨_, h2, h3⟩
    · exact .inl (cm hm)
    · rw [Heap.size_push] at h2; exact .inr ⟨h2, h3⟩
  have look : ∀ {y}, scope.names.lookup y = some .free → ∃ c, cenv.cells.lookup y = some c ∧ X.env.cells.lookup y = some c := fun {y} hl => by
    have hy : (y, NameKind.free) ∈ scope.names := PySem.mem_of_lookup hl
    obtain ⟨c', e'⟩ := mem_lookup (cells_acc (names := scope.names) (n := (s.heap.push { cls := .type "dict", data := .dict #[] }).objs.size) (cloFrom_has (cells := X.env.cells) (acc := []) hy))
    rw [← hcl] at e'
    refine ⟨c', e', ?_⟩
    rw [hcl] at e'
    rcases cells_mem (PySem.mem_of_lookup e') with hm | ⟨h1, _, _⟩
    · exact (cm hm).1
    · have := ok.uniq _ h1
      rw [hl] at this; cases this
  have okB : (X.blk s H scope cenv fp).Ok := by
    refine ⟨I.ok.mod, by show cenv.scope.kind = _; rw [hsc]; exact ok.kind, by show cenv.globals = _; rw [← hcenv]; exact I.ok.glob, by show cenv.builtins = _; rw [← hcenv]; exact I.ok.blt, by show s.heap.objs.size ≤ cenv.locals; rw [hL]; exact Nat.le_refl _,
      fun y z c e1 e2 => ?_, fun y hy => ?_, fun y c z e => ?_, I.ok.hd, I.ok.frames, .inl rfl, fun b hb => ⟨?_, fun y c e z => ?_⟩, I.bs, Nat.le_trans I.ok.bsz I.sz, fun b o e hb => ?_, fun b hb z => ?_, I.stack, I.stkFree⟩
    · have e1 : cenv.cells.lookup y = some c := e1
      have e2 : cenv.cells.lookup z = some c := e2
      rw [hcl] at e1 e2
      refine cells_inj (fun p hp => ?_) (fun y z c a b => I.ok.inj y z c (cm a).1 (cm b).1) (PySem.mem_of_lookup e1) (PySem.mem_of_lookup e2)
      rw [Heap.size_push]
      exact Nat.lt_succ_of_lt (cm (y := p.1) (c := p.2) hp).2
    · show ∃ c, cenv.cells.lookup y = some c
      have key : ∀ k, cenv.kindOf y = some k → (k = .cell ∨ k = .free) → ∃ c, cenv.cells.lookup y = some c := fun k hk hk' => by
        unfold Env.kindOf at hk
        rw [hsc] at hk
        obtain ⟨k', e, r⟩ := lookup_relS hk
        have : k' = .cell ∨ k' = .free := by
          rcases r with rfl | ⟨rfl, _⟩
          · exact hk'
          · exact .inr rfl
        rcases this with rfl | rfl
        · obtain ⟨c, hm⟩ := cells_has (n := (s.heap.push { cls := .type "dict", data := .dict #[] }).objs.size) (acc := cloFrom X.env.cells scope.names []) (PySem.mem_of_lookup e)
          obtain ⟨c', e'⟩ := mem_lookup hm
          exact ⟨c', by rw [hcl]; exact e'⟩
        · obtain ⟨c, h1, _⟩ := look e
          exact ⟨c, h1⟩
      rcases hy with hy | hy
      · exact key _ hy (.inl rfl)
      · exact key _ hy (.inr rfl)
    · have z : (scope.names.lookup y == some NameKind.cell) = true := z
      have z : scope.names.lookup y = some .cell := by simpa using z
      have e : cenv.cells.lookup y = some c := e
      rw [hcl] at e
      rcases cells_mem (PySem.mem_of_lookup e) with hm | ⟨_, h2, _⟩
      · rcases cloFrom_mem hm with hm | ⟨h1, _⟩
        · cases hm
        · have q := ok.uniq _ h1
          rw [z] at q; cases q
      · rw [Heap.size_push] at h2
        exact Nat.le_of_succ_le h2
    · show b ≠ cenv.locals
      rw [hL]; exact Nat.ne_of_lt (hfp b hb).2
    · have e : cenv.cells.lookup y = some c := e
      rcases mem e with ⟨h1, _⟩ | ⟨h1, _⟩
      · exact (hfp b hb).1.2.2.2.2.1 y c h1 z
      · have h2 : s.heap.objs.size + 1 ≤ b := by rw [← z]; exact h1
        exact absurd (Nat.lt_of_lt_of_le (hfp b hb).2 (Nat.le_of_succ_le h2)) (Nat.lt_irrefl _)
    · rcases (hfp b hb).1.2.2.2.1 with z | z
      · exact I.ok.noex b o e z
      · exact absurd (Nat.lt_of_lt_of_le (Heap.lt_size e) (Nat.le_trans I.ok.bsz z)) (Nat.lt_irrefl _)
    · rcases List.mem_cons.mp (I.stkSub b z) with z | z
      · exact (hfp b hb).1.2.1 z
      · exact (hfp b hb).1.2.2.1 z
  refine ⟨okB, rfl, I.bare, Un.kept kp, ⟨fun _ => none, ?_, fun i y av e1 e2 e3 => ?_⟩, fun y c e => ?_, ?_, fun y c e => ?_, fun p hp => ?_, I.hok.kept kp, by rw [wipe_length]; exact I.len⟩
  · show Heap.Ns _ cenv.locals _
    rw [hL]
    exact Heap.Ns.keeps (Heap.Ns.new ..) fun b o e => pushCells_keeps _ _ _ _ e
  · obtain ⟨e2, hne⟩ := wipe_some e2
    have hfr : scope.names.lookup y = some .free ∧ (cenv.kindOf y = some .cell ∨ cenv.kindOf y = some .free) := by
      have key : ∀ k, cenv.scope.names.lookup y = some k → k = .local ∨ k = .cell ∨ k = .free → scope.names.lookup y = some .free ∧ (cenv.kindOf y = some .cell ∨ cenv.kindOf y = some .free) := fun k hk hk' => by
        have hk0 := hk
        rw [hsc] at hk
        obtain ⟨k', e, r⟩ := lookup_relS hk
        have no : ¬ (k' = .local ∨ k' = .cell) := fun hh => by
          rcases ok.own _ (PySem.mem_of_lookup e) hh with e' | e'
          · obtain ⟨p, hp, hpy⟩ := List.mem_map.mp e'
            have e3 := ok.ix p hp
            have : p.1 = y := hpy
            rw [this] at e3
            exact hne (List.mem_map.mpr ⟨p, hp, nodup_ix hN e3 e1⟩)
          · exact e' (List.mem_of_getElem? e1)
        rcases r with rfl | ⟨rfl, rfl⟩
        · rcases hk' with rfl | rfl | rfl
          · exact absurd (.inl rfl) no
          · exact absurd (.inr rfl) no
          · exact ⟨e, .inr hk0⟩
        · exact ⟨e, .inl hk0⟩
      have e3 : Vis cenv.scope y := e3
      rcases e3 with e3 | e3 | e3
      · exact key _ e3 (.inl rfl)
      · exact key _ e3 (.inr (.inl rfl))
      · exact key _ e3 (.inr (.inr rfl))
    obtain ⟨m, hn, hl⟩ := I.loc
    have hvis : Vis X.env.scope y := (ok.free _ (PySem.mem_of_lookup hfr.1) rfl).elim (fun k => .inr (.inl k)) (fun k => .inr (.inr k))
    obtain ⟨w, r, q⟩ := hl i y av e1 e2 hvis
    refine ⟨w, r, .inr ⟨hfr.2, ?_⟩⟩
    obtain ⟨c, h1, h2⟩ := look hfr.1
    rcases q with ⟨k, _⟩ | ⟨_, c', e', z⟩
    · have k : X.env.scope.names.lookup y = some .local := k
      rcases ok.free _ (PySem.mem_of_lookup hfr.1) rfl with k' | k' <;> rw [show X.env.scope.names.lookup y = _ from k'] at k <;> cases k
    · rw [h2] at e'; cases e'
      exact ⟨c, h1, z.keeps kp⟩
  · have e : cenv.cells.lookup y = some c := e
    rcases mem e with ⟨h1, _⟩ | ⟨_, z⟩
    · obtain ⟨w, z⟩ := I.cell y c h1
      exact ⟨w, z.keeps kp⟩
    · exact ⟨_, z⟩
  · show H cenv.locals = none
    rw [hL]; exact I.hok.fresh (Nat.le_refl _)
  · have e : cenv.cells.lookup y = some c := e
    rcases mem e with ⟨h1, _⟩ | ⟨h1, _⟩
    · exact I.freeC y c h1
    · exact I.hok.fresh (Nat.le_of_succ_le h1)
  · exact absurd (show p ∈ ([] : List (Addr × Obj)) ++ [] from hp) (by simp)
/-- an item appended to a tracked list -/
theorem app_ok {E : Value → Shared → Prop} {D : Addr} {xs : List V} {y : V} {v : Value} {Q : Value → Shared → Prop} (I : Inv X pins σ H s) (hD : H D = some (.lst xs)) (hz : xs.length < sizeLine) (r : RelV y v)
    (h : ∀ s', Inv X pins σ (upd H D (.lst (xs ++ [y]))) s' → Q .none s') : wpAny (model X.prog X.w) X.A (call (.builtin "list.append") [.ref D, v]) Q E s := by
  obtain ⟨hz', its, n, ri, e⟩ := I.hok D _ hD
  have hl := ri.length
  refine append_at (hsz := by rw [List.size_toArray]; omega) e fun h' sb ho' => ?_
  refine h { s with heap := h' } (I.write (t' := s.toks) (by rw [hD]; trivial) (.inl rfl) (fun b u hb q => (sb.2 b hb).trans q) ⟨_, ho'⟩ ⟨by rw [List.length_append]; exact hz, its ++ [v], n + 1, ri.append (.cons r .nil), ?_⟩)
  rw [ho']
  simp
/-- a clause's tests -/
def PTs (X : Cx) (ifs : List Expr) (t : TT) : Prop :=
  ∀ (pins : List (Addr × Obj)) (s : Shared) (σ : St) (H : Hp) (Q : Bool → Hp → Prop), Inv X pins σ H s → t σ H Q →
    wpAny (model X.prog X.w) X.A (forIn ifs true fun c r => if r = true then do let ok ← isTrue c X.env (eval c X.env); pure (ForInStep.yield ok) else pure (ForInStep.yield r)) (TP X pins σ Q) X.xe s
def tYes : TT := fun _ H Q => Q true H
theorem pts_nil : PTs X [] tYes := fun _ _ _ H _ I h => wpAny_tests_nil ⟨H, I, h⟩
theorem pts_one {c : Expr} {t : TT} (h : PT X c t) : PTs X [c] t := fun pins s σ H Q I hw => wpAny_tests_one (h pins s σ H Q I hw)
end
theorem thnF {α : Type} {t : Sem α} {Q Q' : α → Shared → Prop} {M : Model} {A : Around} {E : Value → Shared → Prop} {s : Shared} (h : wpAny M A t Q (fun _ _ => False) s) (hQ : ∀ a s, Q a s → Q' a s) : wpAny M A t Q' E s := wpAny_mono h hQ fun _ _ z => False.elim z
/-- the loop of a list comprehension's block, the target of any form (codeAny_compLoop_tests asks a target that no tuple goes to; statement and proof follow it, PyProof/CompMap.lean:41-61, with the step letOwnedTupleGo kept) -/
theorem compLoop_any {prog : Program} {w : World} {A : Around} {R : Result → Shared → Prop} {s : Shared} {elt target iter : Expr} {ifs : List Expr} {scope : Scope} {pos : Pos} {it acc : Value} {env : Env} (I : Nat → Shared → Prop)
    (turn : ∀ n s, I n s → wpAny (model prog w) A (pyNext it) (fun r s₁ => match r with
      | none => R (.ok .next) s₁
      | some v => wpAny (model prog w) A (letOwnedTupleGo target it v) (fun _ s₁' => wpAny (model prog w) A (assign target env v) (fun _ s₂ =>
          wpAny (model prog w) A (forIn ifs true fun c r => if r = true then do let ok ← isTrue c env (eval c env); pure (ForInStep.yield ok) else pure (ForInStep.yield r)) (fun ok s₃ =>
            if ok = true then wpAny (model prog w) A (eval elt env) (fun x s₄ =>
              wpAny (model prog w) A (call (.builtin "list.append") [acc, x]) (fun _ s₅ => ∃ m, m < n ∧ I m s₅) (notedBy (model prog w) A env fun e s' => R (.error e) s') s₄) (notedBy (model prog w) A env fun e s' => R (.error e) s') s₃
            else ∃ m, m < n ∧ I m s₃) (notedBy (model prog w) A env fun e s' => R (.error e) s') s₂) (notedBy (model prog w) A env fun e s' => R (.error e) s') s₁') (notedBy (model prog w) A env fun e s' => R (.error e) s') s₁) (notedBy (model prog w) A env fun e s' => R (.error e) s') s)
    (n : Nat) (h : I n s) :
    codeAny (model prog w) A (.compLoop (.ListComp elt [⟨target, iter, ifs, 0⟩] scope pos) 0 it acc env) R s := by
  refine codeAny_loop rfl I (fun n s hI => ?_) n h
  show wpAny _ A ((compTurn (.ListComp elt [⟨target, iter, ifs, 0⟩] scope pos) 0 it acc env).onRaise (fun x => do noteFrame x env; theTreesLotGoes x)) _ _ s
  refine wpAny_noted ?_
  rw [compTurn_list]
  refine wpAny_bind (wpAny_standAt (wpAny_bind (wpAny_mono (turn n s hI) (fun r s₁ h₁ => ?_) fun _ _ h' => h')))
  cases r with
  | none => exact wpAny_pure h₁
  | some v =>
    refine wpAny_bind (wpAny_mono h₁ (fun _ s₁' h₁' => ?_) fun _ _ h' => h')
    refine wpAny_bind (wpAny_mono h₁' (fun _ s₂ h₂ => wpAny_bind (wpAny_mono h₂ (fun ok s₃ h₃ => ?_) fun _ _ h' => h')) fun _ _ h' => h')
    cases ok with
    | false => exact wpAny_pure ⟨rfl, h₃⟩
    | true =>
      exact wpAny_bind (wpAny_bind (wpAny_mono h₃ (fun x s₄ h₄ => wpAny_bind (wpAny_mono h₄ (fun _ s₅ h₅ => wpAny_pure (wpAny_pure ⟨rfl, h₅⟩)) fun _ _ h' => h')) fun _ _ h' => h'))
section
variable {X : Cx}
/-- [elt for target in iter if ..]: D the new list; W by the turn and a measure, Nx what a turn is to reach -/
def tLc (wi : TI) (g : TG) (tt : TT) (te : TE) (vs : List Nat) : TE := fun σ H Q => wi σ H fun J H1 => ∀ D, H1 D = none → ∃ W : Nat → Nat → Hp → Prop, (∃ m, W 0 m (upd H1 D (.lst []))) ∧ ∀ i m H, W i m H →
  (J.stop i H ∧ Q (.ref D) H) ∨ (J.go i H ∧ ∃ Nx : Hp → Prop, (∀ H', Nx H' → ∃ m', m' < m ∧ W (i + 1) m' H') ∧ ∀ x H', J.yld i H x H' → g x (wipe σ vs) H' fun σ2 H2 => wipe σ2 vs = wipe σ vs ∧ tt σ2 H2 fun b H3 =>
    if b = true then te σ2 H3 fun y H4 => ∃ acc, H4 D = some (.lst acc) ∧ acc.length < sizeLine ∧ Nx (upd H4 D (.lst (acc ++ [y]))) else Nx H3)
theorem lc_core {pins : List (Addr × Obj)} {s : Shared} {σ : St} {H : Hp} {Q : VK} {elt tg iter : Expr} {ifs : List Expr} {scope : Scope} {own : List (Str × Nat)} {pos pos' : Pos} {wi : TI} {g : TG} {tt : TT} {te : TE} {use : Option (Value → Sem Unit)} {Qf : Value → Shared → Prop}
    (hc : X.calm = true) (hN : X.N.Nodup) (I : Inv X pins σ H s) (hi : PI X tg iter wi) (ok : BlkOk X.N X.env.scope scope own)
    (hg : ∀ (s : Shared) (H : Hp) (C : Addr) (cl : List (Str × Addr)) (fp : List Addr), PG (X.blk s H scope (compEnvC scope cl C X.env) fp) tg g) (ht : ∀ (s : Shared) (H : Hp) (C : Addr) (cl : List (Str × Addr)) (fp : List Addr), PTs (X.blk s H scope (compEnvC scope cl C X.env) fp) ifs tt)
    (he : ∀ (s : Shared) (H : Hp) (C : Addr) (cl : List (Str × Addr)) (fp : List Addr), PE (X.blk s H scope (compEnvC scope cl C X.env) fp) elt te) (hs : ∀ x, foldedSetIterable iter X.env x = pure x)
    (h : tLc wi g tt te (own.map (·.2)) σ H Q)
    (hRR : ∀ D C s' m H', Inv X pins σ H' s' → Q (.ref D) H' → s'.heap.Ns C m → FpOk X pins H' C → compPost (model X.prog X.w) X.A X.xe use Qf (.ref D) C (.ok .next) s') :
    wpAny (model X.prog X.w) X.A (comprehension (.ListComp elt [⟨tg, iter, ifs, 0⟩] scope pos) scope X.env pos' (newList []) false (eval iter X.env) use) Qf X.xe s := by
  have hfree : ∀ y ∈ scope.names, y.2 = .free → ∃ c, X.env.cells.lookup y.1 = some c := fun y hy e => by
    rcases ok.free y hy e with k | k
    · exact I.ok.has _ (.inl k)
    · exact I.ok.has _ (.inr k)
  refine wpAny_comprehension_free (use := use) rfl hs (closure_ok hfree) ok.kind (fun y hy e => by rw [ok.uniq y hy, e])
    (thn (hi pins s σ H _ I h) fun xv s1 hx => thn hx fun itv s2 h2 => ?_)
  obtain ⟨it, fp, tn, J, H2, e, I2, T, st2, f2, q⟩ := h2
  subst e
  refine wpAny_newObj_type (newEnv_comp ?_) (by show 0 ≤ sizeLine; decide)
  generalize hD : s2.heap.objs.size = D
  have hDn : H2 D = none := I2.hok.fresh (Nat.le_of_eq hD)
  obtain ⟨W, ⟨m0, w0⟩, turn⟩ := q D hDn
  -- the new list
  generalize hs3 : ({ s2 with heap := s2.heap.push { cls := .type "list", data := .seq ([] : List Value).toArray } } : Shared) = s3
  have I3 : Inv X pins σ (upd H2 D (.lst [])) s3 := by
    rw [← hs3]
    refine I2.laid (t' := s2.toks) (fun b o e => Heap.get?_push_of_some _ e) (Nat.le_of_eq hD) ⟨Nat.zero_le _, [], 0, .nil, ?_⟩
    rw [← hD]
    exact Heap.get?_push_size _ rfl
  have h3 : s3.heap = s2.heap.push { cls := .type "list", data := .seq ([] : List Value).toArray } := by rw [← hs3]
  have sz : ∀ b ∈ fp, b < s2.heap.objs.size := fun b hb => by
    obtain ⟨o, e, _⟩ := T.obj _ _ st2 b hb
    exact Heap.lt_size e
  have f3 : ∀ b ∈ fp, FpOk X pins (upd H2 D (.lst [])) b ∧ b < s3.heap.objs.size := fun b hb => by
    have hlt := sz b hb
    refine ⟨⟨?_, (f2 b hb).2⟩, by rw [h3, Heap.size_push]; exact Nat.lt_succ_of_lt hlt⟩
    rw [upd_ne (by rw [← hD]; exact Nat.ne_of_lt hlt)]
    exact (f2 b hb).1
  have st3 : tn 0 s3.heap := T.keep _ _ _ st2 fun b _ o e => by rw [h3]; exact Heap.get?_push_of_some _ e
  have I4 := block_start I3 ok hN f3
  have pg := hg s3 (upd H2 D (.lst [])) s3.heap.objs.size (cellsFrom (s3.heap.objs.size + 1) scope.names (cloFrom X.env.cells scope.names [])) fp
  have pt := ht s3 (upd H2 D (.lst [])) s3.heap.objs.size (cellsFrom (s3.heap.objs.size + 1) scope.names (cloFrom X.env.cells scope.names [])) fp
  have pe := he s3 (upd H2 D (.lst [])) s3.heap.objs.size (cellsFrom (s3.heap.objs.size + 1) scope.names (cloFrom X.env.cells scope.names [])) fp
  show codeAny _ _ (.compStart (.ListComp elt [⟨tg, iter, ifs, 0⟩] scope pos) 0 (.ref it) (.ref D) (compEnvC scope (cellsFrom (s3.heap.objs.size + 1) scope.names (cloFrom X.env.cells scope.names [])) s3.heap.objs.size X.env)) (compPost (model X.prog X.w) X.A X.xe use Qf (.ref D) s3.heap.objs.size) { s3 with heap := pushCells (s3.heap.push { cls := .type "dict", data := .dict #[] }) scope.names }
  have nfp : ∀ b ∈ fp, (upd H2 D (.lst [])) b = none := fun b hb => (f3 b hb).1.1
  generalize hce : compEnvC scope (cellsFrom (s3.heap.objs.size + 1) scope.names (cloFrom X.env.cells scope.names [])) s3.heap.objs.size X.env = ce at I4 pg pt pe ⊢
  have cL : ce.locals = s3.heap.objs.size := by subst hce; rfl
  generalize hH3 : upd H2 D (.lst []) = H3 at I3 I4 pg pt pe w0 nfp f3
  generalize hs4 : ({ s3 with heap := pushCells (s3.heap.push { cls := .type "dict", data := .dict #[] }) scope.names } : Shared) = s4 at I4 ⊢
  have st4 : tn 0 s4.heap := T.keep _ _ _ st3 fun b _ o e => by rw [← hs4]; exact pushCells_keeps _ _ _ _ (Heap.get?_push_of_some _ e)
  have stat : ∀ {σ' : St} {H' : Hp} {s' : Shared}, Inv (X.blk s3 H3 scope ce fp) [] σ' H' s' → (∀ b ∈ fp, H' b = none) → ∀ b ∈ fp, FpOk (X.blk s3 H3 scope ce fp) [] H' b := fun {σ' H' s'} I' hn b hb =>
    ⟨hn b hb, (I'.ok.exf b hb).1, I'.ok.exfs b hb, .inl hb, fun x c e => (I'.ok.exf b hb).2 x c e, fun p hp => absurd (show p ∈ ([] : List (Addr × Obj)) ++ [] from hp) (by simp)⟩
  have loop : codeAny (model X.prog X.w) X.A (.compLoop (.ListComp elt [⟨tg, iter, ifs, 0⟩] scope pos) 0 (.ref it) (.ref D) ce) (compPost (model X.prog X.w) X.A X.xe use Qf (.ref D) s3.heap.objs.size) s4 := by
    refine compLoop_any (fun n s' => ∃ i H', Inv (X.blk s3 H3 scope ce fp) [] (wipe σ (own.map (·.2))) H' s' ∧ tn i s'.heap ∧ (∀ b ∈ fp, H' b = none) ∧ W i n H') ?_ m0 ⟨0, H3, I4, st4, nfp, w0⟩
    rintro n s5 ⟨i, H5, I5, st5, n5, w5⟩
    rcases turn i n H5 w5 with ⟨stop, qq⟩ | ⟨go, Nx, hNx, step⟩
    · have td := T.done (X.blk s3 H3 scope ce fp) rfl rfl rfl hc i [] s5 _ H5 (fun _ _ => False) I5 (stat I5 n5) st5 stop
      refine thnF td fun r s6 ⟨hr, I6⟩ => ?_
      subst hr
      -- back in the def's context
      have I7 : Inv X pins σ H5 s6 := I3.call' (ch := fp) I6.os I6.base I6.hok I6.bare fun b hb => ⟨(f3 b hb).1.2.2.2.1, (f3 b hb).1.2.1, (f3 b hb).1.2.2.2.2.1, (f3 b hb).1.2.2.2.2.2⟩
      have nC : H5 s3.heap.objs.size = none := by
        have z : H5 ce.locals = none := I6.free
        rw [cL] at z
        exact z
      obtain ⟨m, hn, _⟩ := I6.loc
      have hn : s6.heap.Ns ce.locals m := hn
      rw [cL] at hn
      exact hRR D s3.heap.objs.size s6 m H5 I7 qq hn (I3.fpOk (Nat.le_refl _) nC)
    · have ti := T.item (X.blk s3 H3 scope ce fp) rfl rfl rfl hc i [] s5 _ H5 (fun _ _ => False) I5 (stat I5 n5) st5 go
      refine thnF ti fun r s6 ⟨u, hr, h6⟩ => ?_
      subst hr
      refine thnF h6 fun _ s7 ⟨x, H7, I7, r7, y7, st7, n7⟩ => ?_
      have I7' := I7.pinned (stat I7 n7) (T.obj _ _ st7)
      refine thnF (pg _ s7 _ H7 x u _ I7' r7 (step x H7 y7)) fun _ s8 ⟨σ8, H8, I8, hw8, q8⟩ => ?_
      refine thnF (pt _ s8 σ8 H8 _ I8 q8) fun b s9 ⟨H9, I9, q9⟩ => ?_
      -- the turn's end
      have fin : ∀ {s' : Shared} {H' : Hp}, Inv (X.blk s3 H3 scope ce fp) ([] ++ pinsAt fp s7.heap) σ8 H' s' → Nx H' → ∃ m, m < n ∧ ∃ i H', Inv (X.blk s3 H3 scope ce fp) [] (wipe σ (own.map (·.2))) H' s' ∧ tn i s'.heap ∧ (∀ b ∈ fp, H' b = none) ∧ W i m H' := fun {s' H'} I' nx => by
        obtain ⟨m', hm, w'⟩ := hNx H' nx
        have pin' : ∀ b ∈ fp, ∀ o, s7.heap.get? b = some o → s'.heap.get? b = some o ∧ H' b = none := fun b hb o e =>
          let z := I'.pin (b, o) (List.mem_append_right _ (List.mem_append_right _ (mem_pinsAt hb e)))
          ⟨z.1, z.2.1⟩
        have hl : (wipe σ (own.map (·.2))).length = σ8.length := by rw [← hw8, wipe_length]
        refine ⟨m', hm, i + 1, H', (I'.unpinned (pins := [])).weak hl (fun j v e => ?_), T.keep _ _ _ st7 fun b hb o e => (pin' b hb o e).1, fun b hb => ?_, w'⟩
        · rw [← hw8] at e
          exact (wipe_some e).1
        · obtain ⟨o, e, _⟩ := T.obj _ _ st7 b hb
          exact (pin' b hb o e).2
      cases b with
      | false =>
        simp only [Bool.false_eq_true, if_false] at q9 ⊢
        exact fin I9 q9
      | true =>
        simp only [if_true] at q9 ⊢
        refine thnF (pe _ s9 σ8 H9 _ I9 q9) fun z s10 ⟨yv, H10, I10, r10, acc, hD10, hz10, nx⟩ => ?_
        exact app_ok (X := X.blk s3 H3 scope ce fp) I10 hD10 hz10 r10 fun s11 I11 => fin I11 nx
  exact codeAny_compStart_list loop (T.self X.A 0 _ _ _ st4 loop)
/-- as a value -/
theorem pe_lc {elt tg iter : Expr} {ifs : List Expr} {scope : Scope} {own : List (Str × Nat)} {pos : Pos} {wi : TI} {g : TG} {tt : TT} {te : TE} (hc : X.calm = true) (hN : X.N.Nodup) (hi : PI X tg iter wi) (ok : BlkOk X.N X.env.scope scope own)
    (hg : ∀ (s : Shared) (H : Hp) (C : Addr) (cl : List (Str × Addr)) (fp : List Addr), PG (X.blk s H scope (compEnvC scope cl C X.env) fp) tg g) (ht : ∀ (s : Shared) (H : Hp) (C : Addr) (cl : List (Str × Addr)) (fp : List Addr), PTs (X.blk s H scope (compEnvC scope cl C X.env) fp) ifs tt)
    (he : ∀ (s : Shared) (H : Hp) (C : Addr) (cl : List (Str × Addr)) (fp : List Addr), PE (X.blk s H scope (compEnvC scope cl C X.env) fp) elt te) (hs : ∀ x, foldedSetIterable iter X.env x = pure x := by intro _; rfl) :
    PE X (.ListComp elt [⟨tg, iter, ifs, 0⟩] scope pos) (tLc wi g tt te (own.map (·.2))) := by
  intro pins s σ H Q I h
  rw [eval_ListComp]
  refine lc_core hc hN I hi ok hg ht he hs h fun D C s' m H' I' q hn f => ⟨m, hn, fun h'' sb => ?_⟩
  obtain ⟨f0, f1, f2, f3, f4, f5⟩ := f
  exact ⟨.ref D, H', I'.turned (t' := s'.toks) (fun b o hb e => (sb.2 b hb).trans e) f0 f1 f3 f4 f5, rfl, q⟩
/-- name = [..] on one line, the name a local -/
theorem ps_setLc {i : Nat} {y : Str} {py : Pos} {elt tg iter : Expr} {ifs : List Expr} {scope : Scope} {own : List (Str × Nat)} {pos spos : Pos} {wi : TI} {g : TG} {tt : TT} {te : TE} (hc : X.calm = true) (hN : X.N.Nodup) (hy : X.N[i]? = some y) (hyl : X.env.scope.names.lookup y = some .local)
    (hsw : swapsWith (.ListComp elt [⟨tg, iter, ifs, 0⟩] scope pos) (some (.Name y py)) spos.line X.env = pure true) (hi : PI X tg iter wi) (ok : BlkOk X.N X.env.scope scope own)
    (hg : ∀ (s : Shared) (H : Hp) (C : Addr) (cl : List (Str × Addr)) (fp : List Addr), PG (X.blk s H scope (compEnvC scope cl C X.env) fp) tg g) (ht : ∀ (s : Shared) (H : Hp) (C : Addr) (cl : List (Str × Addr)) (fp : List Addr), PTs (X.blk s H scope (compEnvC scope cl C X.env) fp) ifs tt)
    (he : ∀ (s : Shared) (H : Hp) (C : Addr) (cl : List (Str × Addr)) (fp : List Addr), PE (X.blk s H scope (compEnvC scope cl C X.env) fp) elt te) (hs : ∀ x, foldedSetIterable iter X.env x = pure x := by intro _; rfl) :
    PS X (.Assign [.Name y py] (.ListComp elt [⟨tg, iter, ifs, 0⟩] scope pos) spos) (tAsg (tLc wi g tt te (own.map (·.2))) (gName i)) := by
  intro pins s σ H D I h
  rw [exec_Assign_Name_used _ _ _ _ hsw]
  refine wpAny_bind (wpAny_standAt (wpAny_bind ?_))
  show wpAny _ X.A (do let _ ← comprehension (.ListComp elt [⟨tg, iter, ifs, 0⟩] scope pos) scope X.env (firstIterPos [⟨tg, iter, ifs, 0⟩] pos) (newList []) false (eval iter X.env) (some (assign (.Name y py) X.env))) _ _ s
  have h : tLc wi g tt te (own.map (·.2)) σ H (fun x H1 => gName i x σ H1 D.nx) := h
  refine wpAny_bind (thn (lc_core (Qf := fun _ s' => SP X pins D .next s') hc hN I hi ok hg ht he hs h fun L C s' m H' I' q hn f => ?_) fun _ s' hq => wpAny_pure (wpAny_pure hq))
  show wpAny _ _ (assign (.Name y py) X.env (.ref L)) _ _ _
  refine wpAny_assign_Name (store_ok2 (v := V.ref L) I' hN hy (.inl hyl) rfl (fun s2 I2 ⟨a, sb, ha⟩ => ?_) (.inr hyl))
  obtain ⟨f0, f1, f2, f3, f4, f5⟩ := f
  have haC : C ≠ a := by
    rcases ha with z | z
    · rw [z]; exact f1
    · exact fun e => f4 y a z e.symm
  refine ⟨m, hn.sameBut sb haC, fun h3 sb3 => ?_⟩
  exact ⟨_, H', I2.turned (t' := s2.toks) (fun b o hb e => (sb3.2 b hb).trans e) f0 f1 f3 f4 f5, q⟩
theorem sw_true {elt : Expr} {gs : List Comprehension} {scope : Scope} {pos py : Pos} {y : Str} {l : Nat} {env : Env} (hk : env.scope.kind = .function) (hy : env.scope.names.lookup y = some .local) (hl : (py.line == pos.line) = true)
    (ha : (scope.names.any fun (n, k) => n == y && (k == .local || k == .cell)) = false) : swapsWith (.ListComp elt gs scope pos) (some (.Name y py)) l env = pure true := by
  have ky : env.kindOf y = some .local := hy
  have hb : env.blockKind = .function := by unfold Env.blockKind; rw [hk]; rfl
  unfold swapsWith
  simp only [hb, ky, ha, Expr.pos, hl]
  rfl
end
/-- over a list that the block leaves as it is -/
theorem lc_list {K : PySem.W.Frag} {a : Addr} {xs : List V} {g : TG} {tt : TT} {te : TE} {vs : List Nat} {σ : St} {H1 : Hp} {D : Addr} {Qd : Hp → Prop} (Pv : Nat → Hp → Prop) (h0 : Pv 0 (upd H1 D (.lst []))) (hl : ∀ i H, i ≤ xs.length → Pv i H → SqL K H a xs)
    (hs : ∀ i x H, xs[i]? = some x → Pv i H → g x (wipe σ vs) H fun σ2 H2 => wipe σ2 vs = wipe σ vs ∧ tt σ2 H2 fun b H3 =>
      if b = true then te σ2 H3 fun y H4 => ∃ acc, H4 D = some (.lst acc) ∧ acc.length < sizeLine ∧ Pv (i + 1) (upd H4 D (.lst (acc ++ [y]))) else Pv (i + 1) H3) (hd : ∀ H, Pv xs.length H → Qd H) :
    ∃ W : Nat → Nat → Hp → Prop, (∃ m, W 0 m (upd H1 D (.lst []))) ∧ ∀ i m H, W i m H →
      ((Itl K a).stop i H ∧ Qd H) ∨ ((Itl K a).go i H ∧ ∃ Nx : Hp → Prop, (∀ H', Nx H' → ∃ m', m' < m ∧ W (i + 1) m' H') ∧ ∀ x H', (Itl K a).yld i H x H' → g x (wipe σ vs) H' fun σ2 H2 => wipe σ2 vs = wipe σ vs ∧ tt σ2 H2 fun b H3 =>
        if b = true then te σ2 H3 fun y H4 => ∃ acc, H4 D = some (.lst acc) ∧ acc.length < sizeLine ∧ Nx (upd H4 D (.lst (acc ++ [y]))) else Nx H3) := by
  refine ⟨fun i m H => m = xs.length - i ∧ i ≤ xs.length ∧ Pv i H, ⟨xs.length, by simp, Nat.zero_le _, h0⟩, ?_⟩
  rintro i m H ⟨rfl, hi, p⟩
  have q := hl i H hi p
  by_cases hlt : i < xs.length
  · refine .inr ⟨⟨xs, xs[i], q, by simp [hlt]⟩, Pv (i + 1), fun H' p' => ⟨xs.length - (i + 1), by omega, rfl, hlt, p'⟩, fun x H' y => ?_⟩
    obtain ⟨e, y⟩ := y
    subst e
    exact hs i x _ (y xs q) p
  · have e : i = xs.length := by omega
    subst e
    exact .inl ⟨⟨xs, q, Nat.le_refl _⟩, hd H p⟩
/-- over a tuple -/
theorem lc_tup {K : PySem.W.Frag} {a : Addr} {xs : List V} {g : TG} {tt : TT} {te : TE} {vs : List Nat} {σ : St} {H1 : Hp} {D : Addr} {Qd : Hp → Prop} (Pv : Nat → Hp → Prop) (h0 : Pv 0 (upd H1 D (.lst []))) (hl : ∀ i H, i ≤ xs.length → Pv i H → SqT K H a xs)
    (hs : ∀ i x H, xs[i]? = some x → Pv i H → g x (wipe σ vs) H fun σ2 H2 => wipe σ2 vs = wipe σ vs ∧ tt σ2 H2 fun b H3 =>
      if b = true then te σ2 H3 fun y H4 => ∃ acc, H4 D = some (.lst acc) ∧ acc.length < sizeLine ∧ Pv (i + 1) (upd H4 D (.lst (acc ++ [y]))) else Pv (i + 1) H3) (hd : ∀ H, Pv xs.length H → Qd H) :
    ∃ W : Nat → Nat → Hp → Prop, (∃ m, W 0 m (upd H1 D (.lst []))) ∧ ∀ i m H, W i m H →
      ((Itt K a).stop i H ∧ Qd H) ∨ ((Itt K a).go i H ∧ ∃ Nx : Hp → Prop, (∀ H', Nx H' → ∃ m', m' < m ∧ W (i + 1) m' H') ∧ ∀ x H', (Itt K a).yld i H x H' → g x (wipe σ vs) H' fun σ2 H2 => wipe σ2 vs = wipe σ vs ∧ tt σ2 H2 fun b H3 =>
        if b = true then te σ2 H3 fun y H4 => ∃ acc, H4 D = some (.lst acc) ∧ acc.length < sizeLine ∧ Nx (upd H4 D (.lst (acc ++ [y]))) else Nx H3) := by
  refine ⟨fun i m H => m = xs.length - i ∧ i ≤ xs.length ∧ Pv i H, ⟨xs.length, by simp, Nat.zero_le _, h0⟩, ?_⟩
  rintro i m H ⟨rfl, hi, p⟩
  have q := hl i H hi p
  by_cases hlt : i < xs.length
  · refine .inr ⟨⟨xs, xs[i], q, by simp [hlt]⟩, Pv (i + 1), fun H' p' => ⟨xs.length - (i + 1), by omega, rfl, hlt, p'⟩, fun x H' y => ?_⟩
    obtain ⟨e, y⟩ := y
    subst e
    exact hs i x _ (y xs q) p
  · have e : i = xs.length := by omega
    subst e
    exact .inl ⟨⟨xs, q, Nat.le_refl _⟩, hd H p⟩
def blkC (N : List Str) (sc scope : Scope) (own : List (Str × Nat)) : Bool :=
  (match scope.kind with | .function => true | _ => false) && (scope.names.all fun y => decide (scope.names.lookup y.1 = some y.2)) && (own.all fun p => decide (N[p.2]? = some p.1)) &&
    (scope.names.all fun y => match y.2 with
      | .free => (match sc.names.lookup y.1 with | some .cell => true | some .free => true | _ => false)
      | .local => decide (y.1 ∈ own.map (·.1)) || decide (y.1 ∉ N)
      | .cell => decide (y.1 ∈ own.map (·.1)) || decide (y.1 ∉ N)
      | _ => true)
theorem blkOk_by {N : List Str} {sc scope : Scope} {own : List (Str × Nat)} (h : blkC N sc scope own = true) : BlkOk N sc scope own := by
  unfold blkC at h
  simp only [Bool.and_eq_true, List.all_eq_true, decide_eq_true_eq] at h
  obtain ⟨⟨⟨h1, h2⟩, h3⟩, h4⟩ := h
  refine ⟨?_, h2, h3, fun y hy e => ?_, fun y hy e => ?_⟩
  · split at h1
    · assumption
    · cases h1
  · have q := h4 y hy
    simp only [e] at q
    split at q <;> first | exact .inl (by assumption) | exact .inr (by assumption) | cases q
  · have q := h4 y hy
    rcases e with e | e <;> (simp only [e, Bool.or_eq_true, decide_eq_true_eq] at q; exact q)
end L2
namespace L2
open PySem PySem.Spec PyProof.Rows
section
variable {prog : Program} {w : World} {A : Around} {R : Result → Shared → Prop} {s : Shared} {elt t0 i0 t1 i1 : Expr} {ifs0 ifs1 : List Expr} {scope : Scope} {pos : Pos} {it acc : Value} {env : Env}
end
section
variable {X : Cx}
end
end L2
namespace L2
open PySem PySem.Spec PyProof.Rows
section
variable {κ : Type} [DecidableEq κ]
end
section
variable {P : Program} {w : World} {H : Hp} {h : Heap} {a : Addr}
end
section
variable {X : Cx} {pins : List (Addr × Obj)} {σ : St} {H : Hp} {s : Shared} {a : Addr} {y v : V} {u r : Value} {o : Option V} {A : Around} {E : Value → Shared → Prop}
theorem Inv.big (I : Inv X pins σ H s) : sysModules < s.heap.objs.size := by
  have h : mainGlobals < s.heap.objs.size := (I.mod.glob.keeps I.bk).lt
  exact Nat.lt_trans (by decide) h
/-- a dict's object is replaced -/
theorem d_write {h' : Heap} {t' : Nat} {ob : HO} (I : Inv X pins σ H s) (mu : Mut (H a)) (hs : Heap.SameBut a s.heap h') (he : ∃ q, h'.get? a = some q) (new : ObjOk X.prog X.w (upd H a ob) h' a ob) :
    Inv X pins σ (upd H a ob) { s with heap := h', toks := t' } :=
  I.write (x := a) (e := a) mu (.inl rfl) (fun b q hb z => (hs.2 b hb).trans z) he new
end
section
variable {X : Cx} {pins : List (Addr × Obj)} {σ : St} {H : Hp} {s : Shared} {a : Addr} {kvs : List (Key × V)} {k : Key} {u : Value} {A : Around} {E : Value → Shared → Prop}
end
/-- the element of a subscription, not a slice -/
def NoSl (i : Expr) : Prop := ∀ ov iv, subscripted i false ov iv = operate [ov, iv] (getItem ov iv)
theorem subD_of {prog : Program} {w : World} {A : Around} {E : Value → Shared → Prop} {s : Shared} {env : Env} {value slice : Expr} {pos : Pos} {T id : String} {Q : Value → Shared → Prop}
    (hl : typeLookup (.type T) "__getitem__" = pure (some (.builtin id))) (hs : NoSl slice)
    (h : wpAny (model prog w) A (eval value env) (fun o s₁ => wpAny (model prog w) A (eval slice env) (fun i s₂ => s₂.TypeIs o T ∧ wpAny (model prog w) A (getItem o i) Q E s₂) E s₁) E s) :
    wpAny (model prog w) A (eval (.Subscript value slice pos) env) Q E s := by
  refine Subscript_ (wpAny_mono h (fun o s₁ h₁ => wpAny_mono h₁ (fun i s₂ h₂ => ?_) fun _ _ x => x) fun _ _ x => x)
  obtain ⟨hT, h₂⟩ := h₂
  unfold subscriptTail
  refine wpAny_bind ?_
  rw [getitemInPython_of_ne hT.not_modules]
  refine wpAny_bind (wpAny_specialOf hT hl ?_)
  have fin : wpAny (model prog w) A (subscripted slice false o i) (fun r s₃ => wpAny (model prog w) A (letTemporaryGo value o r >>= fun _ => pure r) Q E s₃) E s₂ := by
    rw [hs o i]
    exact wpAny_operating (wpAny_mono h₂ (fun r s₃ h₃ => wpAny_bind (wpAny_letTemporaryGo (wpAny_pure h₃))) fun _ _ x => x)
  first
    | exact wpAny_pure (wpAny_bind fin)
    | exact wpAny_bind (wpAny_pure (wpAny_bind fin))
    | exact wpAny_bind fin
section
variable {X : Cx} {o i e value : Expr} {pos pos' tpos : Pos} {td ty tv : TE}
end
section
variable {X : Cx} {pos : Pos}
end
section
variable {X : Cx} {pins : List (Addr × Obj)} {σ : St} {H : Hp} {s : Shared} {a : Addr} {y d : V} {u r : Value} {o : Option V} {A : Around} {E : Value → Shared → Prop}
end
section
variable {X : Cx} {o e f : Expr} {apos cpos : Pos} {td ty tx : TE}
end
section
variable {X : Cx} {pins : List (Addr × Obj)} {σ : St} {H : Hp} {s : Shared} {a : Addr} {kvs : List (Key × V)} {A : Around} {E : Value → Shared → Prop}
end
section
variable {X : Cx} {pins : List (Addr × Obj)} {σ : St} {H : Hp} {s : Shared} {a : Addr} {y : V} {u : Value} {A : Around} {E : Value → Shared → Prop}
end
end L2
namespace L2
open PySem PySem.Spec PyProof.Rows
section
variable {prog : Program} {w : World} {A : Around} {E : Value → Shared → Prop}
end
section
variable {X : Cx}
end
end L2
namespace L2
open PySem PySem.Spec PyProof.Rows
section
variable {X : Cx} {pins : List (Addr × Obj)} {σ : St} {H : Hp} {s : Shared} {h' : Heap}
/-- several records of ours have turned -/
theorem Inv.turnedL {t' : Nat} {ch : List Addr} (I : Inv X pins σ H s) (k : ∀ b o, b ∉ ch → s.heap.get? b = some o → h'.get? b = some o) (hf : ∀ b ∈ ch, FpOk X pins H b) : Inv X pins σ H { s with heap := h', toks := t' } := by
  have nit : ∀ b u, H b = some u → b ∉ ch := fun b u e z => by
    have q := (hf b z).1
    rw [q] at e; cases e
  refine I.step (g' := s.gens) (d' := s.drawn) (ch := ch) (fun b hb => ⟨(hf b hb).2.2.2.1, (hf b hb).2.1, (hf b hb).2.2.2.2.1, (hf b hb).2.2.2.2.2⟩) (fun b o _ _ hc e _ => k b o hc e) (fun b o _ _ hc e _ => ⟨o.slots, k b o hc e⟩)
    (fun _ _ _ _ n => n) (fun b o hc e => ⟨o, k b o hc e⟩) (fun _ _ e => e) (fun _ _ _ e => e) (fun b ps e => ⟨#[], by rw [e]; simp⟩) (fun m hm => ?_) (fun b u e => ?_) I.bare
  · obtain ⟨o, es, ep, ho, r⟩ := hm
    exact ⟨o, es, ep, k _ o (fun z => (hf _ z).2.1 rfl) ho, r⟩
  · refine (I.hok b u e).stay (fun c v hc q => k c v ?_ q) (fun _ q => q) fun _ _ q => q
    rcases hc with z | z
    · rw [z]; exact nit b u e
    · exact nit c _ z
/-- .. and one new object is laid -/
theorem Inv.turnedNew {t' : Nat} {ch : List Addr} {T : Addr} {ob : HO} (I : Inv X pins σ H s) (k : ∀ b o, b ∉ ch → s.heap.get? b = some o → h'.get? b = some o) (hf : ∀ b ∈ ch, FpOk X pins H b) (hT : s.heap.objs.size ≤ T)
    (new : ObjOk X.prog X.w (upd H T ob) h' T ob) : Inv X pins σ (upd H T ob) { s with heap := h', toks := t' } := by
  have hn : H T = none := I.hok.fresh hT
  have nit : ∀ b u, H b = some u → b ∉ ch := fun b u e z => by
    have q := (hf b z).1
    rw [q] at e; cases e
  refine I.step (g' := s.gens) (d' := s.drawn) (ch := ch) (fun b hb => ⟨(hf b hb).2.2.2.1, (hf b hb).2.1, (hf b hb).2.2.2.2.1, (hf b hb).2.2.2.2.2⟩) (fun b o _ _ hc e _ => k b o hc e) (fun b o _ _ hc e _ => ⟨o.slots, k b o hc e⟩)
    (fun b o _ e n => ?_) (fun b o hc e => ⟨o, k b o hc e⟩) (fun b xs e => ?_) (fun b o u e => ?_) (fun b ps e => ⟨#[], ?_⟩) (fun m hm => ?_) (fun b u e => ?_) I.bare
  · rw [upd_ne (Nat.ne_of_lt (Nat.lt_of_lt_of_le (Heap.lt_size e) hT))]; exact n
  · rw [upd_ne (ne_of_none e hn)]; exact e
  · rw [upd_ne (ne_of_none e hn)]; exact e
  · rw [upd_ne (ne_of_none e hn), e]; simp
  · obtain ⟨o, es, ep, ho, r⟩ := hm
    exact ⟨o, es, ep, k _ o (fun z => (hf _ z).2.1 rfl) ho, r⟩
  · by_cases hb : b = T
    · subst hb
      rw [upd_same] at e
      cases e
      exact new
    · rw [upd_ne hb] at e
      refine (I.hok b u e).stay (fun c v hc q => k c v ?_ q) (fun c q => by rw [upd_ne (ne_of_none q hn)]; exact q) fun c xs q => by rw [upd_ne (ne_of_none q hn)]; exact q
      rcases hc with z | z
      · rw [z]; exact nit b u e
      · exact nit c _ z
end
section
variable {X : Cx}
end
section
variable {X : Cx} {tg : Expr}
end
section
variable {X : Cx} {tg : Expr}
end
section
variable {prog : Program} {w : World} {A : Around} {E : Value → Shared → Prop} {s : Shared}
end
section
variable {X : Cx} {pins : List (Addr × Obj)} {σ : St} {H : Hp} {s : Shared} {d : Addr} {o : Obj}
end
section
variable {P : Program} {w : World} {K : PySem.W.Frag} {tg : Expr} {d : Addr} {o : Obj} {es : Array DictEntry} {ep : Nat}
end
section
variable {X : Cx} {tg e : Expr} {td : TE} {apos cpos : Pos}
end
theorem boot_zip5 : bootBuiltins "zip" = some (.type "zip") := by decide +kernel
end L2
section 
namespace Bits
open PySem PyProof.Rows
end Bits
end 
section 
namespace TL
open PySem PySem.Builtin PySem.Builtin.Str PySem.StrLaws
end TL
end 
namespace L2
open PySem PySem.Spec PyProof.Rows
section
variable {X : Cx} {pins : List (Addr × Obj)} {σ : St} {H : Hp} {s : Shared} {Q : VK}
end
section
variable {X : Cx}
end
section
variable {X : Cx} {o e : Expr} {to te : TE}
end
end L2
namespace L2
open PySem PySem.Spec PyProof.Rows
section
variable {X : Cx}
end
end L2
namespace Att
open PySem PySem.W PySem.Calls PyProof.Rows
section
variable {prog : Program} {w : World} {A : Around} {E : Value → Shared → Prop} {s : Shared} {K : Frag}
end
end Att
namespace L2
open PySem PySem.Spec PyProof.Rows
end L2
namespace L2
open PySem PySem.Spec PyProof.Rows
end L2
namespace L2
open PySem PySem.Spec PyProof.Rows
/-- the j-th statement of a class's body -/
def inClass (s : Stmt) (j : Nat) : Stmt := match s with
  | .ClassDef _ _ _ body _ _ _ _ _ _ _ => body.getD j (.Pass ⟨0, 0, 0, 0⟩)
  | _ => .Pass ⟨0, 0, 0, 0⟩
def defArgs (s : Stmt) : Arguments := match s with
  | .FunctionDef _ a _ _ _ _ _ _ _ _ => a
  | _ => { posonlyargs := [], args := [], vararg := none, kwonlyargs := [], kw_defaults := [], kwarg := none, defaults := [] }
def defBody (s : Stmt) : List Stmt := match s with
  | .FunctionDef _ _ b _ _ _ _ _ _ _ => b
  | _ => []
def defScope (s : Stmt) : Scope := match s with
  | .FunctionDef _ _ _ _ _ _ sc _ _ _ => sc
  | _ => { kind := .function, names := [], isGenerator := false, isCoroutine := false }
abbrev CX0 : CXT := fun _ _ _ _ _ _ => False
abbrev E0 : XK := fun _ _ _ => False
theorem pass0 {X : Cx} : Passes CX0 X E0 := fun _ _ _ _ _ _ _ h => h.elim
structure Fun (K : PySem.W.Frag) (x qual : Str) (st : Stmt) (f : Addr) (fd : FuncData) : Prop where
  ex : ∃ (oc : Value) (od : Option Addr) (kV doc pm : Value) (an : Option Addr) (cdv ct : Value) (osl : Array (Option Value)),
    fd = PySem.W.fnOf x qual (defArgs st) (defBody st) (defScope st) .none kV doc pm an cdv ct ∧ K.lookup f = some ⟨oc, od, .func fd, osl⟩ ∧ PySem.W.codeIn K cdv qual = true
  kp : PySem.W.keepIn K (.ref f) = true
section
variable {P : Program} {w : World} {K : PySem.W.Frag} {mg : Str → Option Value} {base : Heap}
/-- THE RULE for a def: its body as a term of rules, and the reading of that term -/
theorem Fun.ok {x qual : Str} {st : Stmt} {f : Addr} {fd : FuncData} {N ps : List Str} {k : Nat} {sp : Sp} (F : Fun K x qual st f fd) (S : FnScope N ps (defScope st)) (len : ∀ vs H Q E, sp vs H Q E → vs.length = ps.length)
    (hbody : ∀ (cdv : Value) (A : Around) (outer : List Env) (s : Shared) (H : Hp) (vs : List V) (Q : VK) (E : XK), Room k (A.deeper (envOfC qual (defScope st) s.heap.objs.size f cdv)) → sp vs H Q E →
      ∃ t, PSs (cxOf CX0 P w K mg base N qual (defScope st) f cdv A outer s H E).nox (defBody st) t ∧ t { nx := fun _ H' => Q .non H', rt := Q } (start N vs) H) : FnOk P w K mg base CX0 (k + 1) f fd ps sp := by
  obtain ⟨oc, od, kV, doc, pm, an, cdv, ct, osl, rfl, lk, hcd⟩ := F.ex
  refine fn_of lk hcd S len fun A outer s H vs Q E hr hsp => ?_
  obtain ⟨t, h, q⟩ := hbody cdv A outer s H vs Q E hr hsp
  exact ⟨t, h.nox, q⟩
/-- how its arguments bind (no defaults): h is «fun _ _ _ _ _ _ us hl => match us, hl with | [_, _], _ => rfl», one _ a parameter -/
theorem Fun.binds {x qual : Str} {st : Stmt} {f : Addr} {fd : FuncData} {ps : List Str} (F : Fun K x qual st f fd)
    (h : ∀ (kV doc pm : Value) (an : Option Addr) (cdv ct : Value) (us : List Value), us.length = ps.length → bindArgs (PySem.W.fnOf x qual (defArgs st) (defBody st) (defScope st) .none kV doc pm an cdv ct) ⟨us, []⟩ = pure (ps.zip us)) : Binds K fd ps [] := by
  obtain ⟨oc, od, kV, doc, pm, an, cdv, ct, osl, rfl, lk, hcd⟩ := F.ex
  exact .all (h kV doc pm an cdv ct)
theorem fun_mk {x qual : Str} {st : Stmt} {f : Addr} {oc : Value} {od an : Option Addr} {osl : Array (Option Value)} {kV doc pm cdv ct : Value} (l : K.lookup f = some ⟨oc, od, .func (PySem.W.fnOf x qual (defArgs st) (defBody st) (defScope st) .none kV doc pm an cdv ct), osl⟩)
    (c : PySem.W.codeIn K cdv qual = true) (k : PySem.W.keepIn K (.ref f) = true) : Fun K x qual st f (PySem.W.fnOf x qual (defArgs st) (defBody st) (defScope st) .none kV doc pm an cdv ct) := ⟨⟨oc, od, kV, doc, pm, an, cdv, ct, osl, rfl, l, c⟩, k⟩
end
theorem small1000 {n : Nat} (h : n ≤ 1000) : n < sizeLine := Nat.lt_of_le_of_lt h (by decide)
section
variable {X : Cx}
theorem pv (i : Nat) {x : Str} {pos : Pos} (hN : X.N[i]? = some x := by rfl) (hv : Vis X.env.scope x := by first | exact Or.inl rfl | exact Or.inr (Or.inl rfl) | exact Or.inr (Or.inr rfl)) (hd : (x == ("__debug__" : Str)) = false := by decide)
    (hcd : (x == ("__classdict__" : Str)) = false := by decide) : PE X (.Name x pos) (tVar i) := pe_var hN hv hd hcd
end
theorem iteF {A B : Prop} (h : B) : if false = true then A else B := by
  rw [if_neg Bool.false_ne_true]
  exact h
theorem iteT {A B : Prop} (h : A) : if true = true then A else B := by
  rw [if_pos rfl]
  exact h
/-- all that was tracked is as it was -/
def Same (H H' : Hp) : Prop := ∀ b o, H b = some o → H' b = some o
theorem Same.trans {H H1 H2 : Hp} (a : Same H H1) (b : Same H1 H2) : Same H H2 := fun c o h => b c o (a c o h)
theorem Same.free {H H' : Hp} (e : Same H H') {l : Addr} (h : H' l = Option.none) : H l = Option.none := by
  cases q : H l with
  | none => rfl
  | some o =>
    rw [e l o q] at h
    cases h
section
variable {κ : Type} [DecidableEq κ]
end
theorem at_of {xs : List V} {z : Int} {j : Nat} {v : V} (e : z = (j : Int)) (h : xs[j]? = some v) : atI xs z = some v := by
  rw [e]
  exact atI_nat h
end L2
set_option Elab.async false
set_option linter.all false
set_option maxRecDepth 100000
namespace NKey
open PySem PySem.Spec PyProof.Rows L2
open Sem (wp)
def pl : Nat → PyData → Bool
  | _, .int _ => true
  | n + 1, .tuple ds => ds.all (pl n)
  | _, _ => false
def hashD : Nat → PyData → Int
  | _, .int i => hashInt i
  | n + 1, .tuple ds => reduceHash (Builtin.Tuple.tupleHashOf (ds.map (hashD n)))
  | _, _ => 0
def drawsD : Nat → PyData → Nat
  | _, .int _ => 1
  | n + 1, .tuple ds => (ds.map (drawsD n)).sum + 1
  | _, _ => 0
theorem hashD_int (n : Nat) (i : Int) : hashD n (.int i) = hashInt i := by cases n <;> rfl
theorem drawsD_int (n : Nat) (i : Int) : drawsD n (.int i) = 1 := by cases n <;> rfl
section
variable {prog : Program} {w : World}
theorem hash_int {A : Around} {E : Value → Shared → Prop} {s : Shared} {i : Int} {t : Tok} {Q : Int → Shared → Prop} (h : Q (hashInt i) { s with toks := s.toks + 1 }) :
    wpAny (model prog w) A (PySem.pyHash (.int i t)) Q E s := (mixKind prog w).pyHash (k := Sum.inl i) (keyIs_int i t) h
theorem hash_ok : ∀ (n : Nat) (d : PyData) (A : Around) (E : Value → Shared → Prop) (s : Shared) (v : Value) (as : List Addr) (Q : Int → Shared → Prop), pl n d = true → Reads s.heap v d as → A.units + n < cLine →
    Q (hashD n d) { s with toks := s.toks + drawsD n d } → wpAny (model prog w) A (PySem.pyHash v) Q E s
  | n, .int i, A, E, s, v, as, Q, hp, hr, hu, h => by
    cases hr with
    | int i t =>
      rw [hashD_int, drawsD_int] at h
      exact hash_int h
  | n + 1, .tuple ds, A, E, s, v, as, Q, hp, hr, hu, h => by
    have hall : ∀ d ∈ ds, pl n d = true := List.all_eq_true.mp hp
    cases hr with
    | @tuple a o items m xs as ho hc hd hi =>
      have hT : s.TypeIs (.ref a) "tuple" := ⟨o, ho, hc⟩
      unfold PySem.pyHash
      first | unfold pyHashByItsType | skip
      first | refine wpAny_bind (wpAny_cRoomFor_or (.inr (by omega)) ?_) | skip
      refine wpAny_bind (wpAny_specialOf hT F.slot_tuple_hash.lookup ?_)
      show wpAny _ _ (if (some (Value.builtin "tuple.__hash__") == some Value.none) = true then _ else _) Q E s
      rw [if_neg (by rw [beq_builtin_none]; exact Bool.false_ne_true)]
      refine wpAny_bind (wpAny_specialOf hT F.slot_tuple_hash.lookup ?_)
      show wpAny _ _ (callSpecialIfBoundUnlessNone? (.ref a) "__hash__" _ >>= _) Q E s
      refine wpAny_bind (wpAny_callSpecialIfBoundUnlessNone?_slot hT F.slot_tuple_hash (wpAny_call_entry F.slot_tuple_hash hT F.entry_tuple_hash ?_ (F.args_tuple_hash_1 _)))
      show wpAny _ _ (Builtin.Tuple.tupleItemsOf (.ref a) >>= _) _ _ s
      refine wpAny_bind (wpAny_tupleItemsOf ho hd ?_)
      refine wpAny_bind ?_
      rw [← Array.forIn_toList]
      refine wpAny_forIn_list _
        (fun rest (b : Array Int) s' => ∃ done left bs, ds = done ++ left ∧ ReadsAll s.heap rest left bs ∧ b.toList = done.map (hashD n) ∧ s' = { s with toks := s.toks + (done.map (drawsD n)).sum })
        _ ?_ ?_ _ _ ⟨[], ds, as, rfl, hi, rfl, rfl⟩
      · rintro x rest b s' ⟨done, left, bs, e, hl, hb, rfl⟩
        cases hl with
        | @cons v' vs' k ks' as1 bs1 h1 hl' =>
          have hk : pl n k = true := hall k (by rw [e]; simp)
          refine wpAny_bind (hash_ok n k _ _ _ _ as1 _ hk h1 (by show A.units + 1 + n < cLine; omega) ?_)
          have e2 : s.toks + (done.map (drawsD n)).sum + drawsD n k = s.toks + ((done ++ [k]).map (drawsD n)).sum := by simp [Nat.add_assoc]
          first
            | exact wpAny_pure ⟨done ++ [k], ks', bs1, by simp [e], hl', by simp [hb], by show _ = _; simp [Nat.add_assoc]⟩
            | exact wpAny_bind (wpAny_pure (wpAny_pure ⟨done ++ [k], ks', bs1, by simp [e], hl', by simp [hb], by show _ = _; simp [Nat.add_assoc]⟩))
      · rintro b s' ⟨done, left, bs, e, hl, hb, rfl⟩
        cases hl
        rw [List.append_nil] at e
        subst e
        show wpAny _ _ (retInt (Builtin.Tuple.tupleHashOf b.toList)) _ _ _
        rw [hb]
        refine wpAny_ret_mkInt ?_
        show wpAny _ _ (if (decide (-(2 : Int) ^ 63 ≤ Builtin.Tuple.tupleHashOf (ds.map (hashD n))) && decide (Builtin.Tuple.tupleHashOf (ds.map (hashD n)) < 2 ^ 63)) = true then _ else _) Q E _
        have h' : Q (reduceHash (Builtin.Tuple.tupleHashOf (ds.map (hashD n)))) { s with toks := s.toks + ((ds.map (drawsD n)).sum + 1) } := h
        unfold reduceHash at h'
        by_cases hr : (decide (-(2 : Int) ^ 63 ≤ Builtin.Tuple.tupleHashOf (ds.map (hashD n))) && decide (Builtin.Tuple.tupleHashOf (ds.map (hashD n)) < 2 ^ 63)) = true
        · rw [if_pos hr]
          rw [if_pos hr] at h'
          exact wpAny_pure (by simpa [Nat.add_assoc] using h')
        · rw [if_neg hr]
          rw [if_neg hr] at h'
          exact wpAny_bind (wpAny_rule (wpAny_pure (by simpa [Nat.add_assoc] using h')))
  | 0, .tuple _, _, _, _, _, _, _, hp, _, _, _ => by simp [pl] at hp
  | 0, .none, _, _, _, _, _, _, hp, _, _, _ => by simp [pl] at hp
  | 0, .bool _, _, _, _, _, _, _, hp, _, _, _ => by simp [pl] at hp
  | 0, .str _, _, _, _, _, _, _, hp, _, _, _ => by simp [pl] at hp
  | 0, .list _, _, _, _, _, _, _, hp, _, _, _ => by simp [pl] at hp
  | 0, .dict _, _, _, _, _, _, _, hp, _, _, _ => by simp [pl] at hp
  | n + 1, .none, _, _, _, _, _, _, hp, _, _, _ => by simp [pl] at hp
  | n + 1, .bool _, _, _, _, _, _, _, hp, _, _, _ => by simp [pl] at hp
  | n + 1, .str _, _, _, _, _, _, _, hp, _, _, _ => by simp [pl] at hp
  | n + 1, .list _, _, _, _, _, _, _, hp, _, _, _ => by simp [pl] at hp
  | n + 1, .dict _, _, _, _, _, _, _, hp, _, _, _ => by simp [pl] at hp
theorem quiet_ok : ∀ (n : Nat) (d : PyData) (A : Around) (E : Value → Shared → Prop) (s : Shared) (v : Value) (as : List Addr) (Q : Bool → Shared → Prop), pl n d = true → Reads s.heap v d as →
    Q true s → wpAny (model prog w) A (eqIsQuiet n v) Q E s
  | n, .int i, A, E, s, v, as, Q, hp, hr, h => by
    cases hr with
    | int i t =>
      have e : eqIsQuiet n (.int i t) = pure true := by cases n <;> rfl
      rw [e]
      exact wpAny_pure h
  | n + 1, .tuple ds, A, E, s, v, as, Q, hp, hr, h => by
    have hall : ∀ d ∈ ds, pl n d = true := List.all_eq_true.mp hp
    cases hr with
    | @tuple a o items m xs as ho hc hd hi =>
      have hT : s.TypeIs (.ref a) "tuple" := ⟨o, ho, hc⟩
      unfold eqIsQuiet
      refine wpAny_bind (wpAny_specialOf hT F.slot_tuple_eq.lookup ?_)
      show wpAny _ _ (isInstance (.ref a) (.type "tuple") >>= _) _ _ s
      refine wpAny_bind (wpAny_isInstance hT isSubtype_tuple_tuple ?_)
      simp only [Bool.not_true, Bool.false_eq_true, if_false]
      refine wpAny_bind (wpAny_seqItems ho hd ?_)
      refine wpAny_bind ?_
      show wpAny _ _ (forIn items _ _) _ _ s
      rw [← Array.forIn_toList]
      refine wpAny_forIn_list _ (fun rest r s' => r.1 = none ∧ s' = s ∧ ∃ left bs, (∀ d ∈ left, pl n d = true) ∧ ReadsAll s.heap rest left bs) _ ?_ ?_ _ _ ⟨rfl, rfl, ds, as, hall, hi⟩
      · rintro v' rest r s' ⟨hr, rfl, left, bs, hl, hra⟩
        cases hra with
        | @cons _ _ k ks' as1 bs1 h1 hl' =>
          refine wpAny_bind (quiet_ok n k _ _ _ _ as1 _ (hl k (by simp)) h1 ?_)
          simp only [Bool.not_true, Bool.false_eq_true, if_false]
          exact wpAny_pure ⟨rfl, rfl, ks', bs1, fun d hd => hl d (List.mem_cons_of_mem _ hd), hl'⟩
      · rintro ⟨r1, r2⟩ s' ⟨hr, rfl, _⟩
        simp only at hr
        subst hr
        exact wpAny_pure h
  | 0, .tuple _, _, _, _, _, _, _, hp, _, _ => by simp [pl] at hp
  | 0, .none, _, _, _, _, _, _, hp, _, _ => by simp [pl] at hp
  | 0, .bool _, _, _, _, _, _, _, hp, _, _ => by simp [pl] at hp
  | 0, .str _, _, _, _, _, _, _, hp, _, _ => by simp [pl] at hp
  | 0, .list _, _, _, _, _, _, _, hp, _, _ => by simp [pl] at hp
  | 0, .dict _, _, _, _, _, _, _, hp, _, _ => by simp [pl] at hp
  | n + 1, .none, _, _, _, _, _, _, hp, _, _ => by simp [pl] at hp
  | n + 1, .bool _, _, _, _, _, _, _, hp, _, _ => by simp [pl] at hp
  | n + 1, .str _, _, _, _, _, _, _, hp, _, _ => by simp [pl] at hp
  | n + 1, .list _, _, _, _, _, _, _, hp, _, _ => by simp [pl] at hp
  | n + 1, .dict _, _, _, _, _, _, _, hp, _, _ => by simp [pl] at hp
end
theorem reads_tup {h : Heap} {n : Nat} {a : Addr} {e : PyData} {bs : List Addr} (he : pl (n + 1) e = true) (r : Reads h (.ref a) e bs) :
    ∃ o vs m xs, h.get? a = some o ∧ o.cls = .type "tuple" ∧ o.data = .seq vs m ∧ ReadsAll h vs.toList xs bs ∧ e = .tuple xs ∧ ∀ x ∈ xs, pl n x = true := by
  cases r with
  | tuple h1 h2 h3 h4 => exact ⟨_, _, _, _, h1, h2, h3, h4, rfl, List.all_eq_true.mp he⟩
  | list h1 h2 h3 h4 => simp [pl] at he
  | dict h1 h2 h3 h4 h5 => simp [pl] at he
/-- the data that a value reads as is one -/
theorem reads_inj {h : Heap} : ∀ (n : Nat) (d e : PyData) (v : Value) (as bs : List Addr), pl n d = true → pl n e = true → Reads h v d as → Reads h v e bs → d = e := by
  intro n
  induction n with
  | zero =>
    intro d e v as bs hd he r1 r2
    cases r1 <;> simp [pl] at hd
    cases r2
    rfl
  | succ n ih =>
    intro d e v as bs hd he r1 r2
    cases r1 <;> simp [pl] at hd
    · cases r2
      rfl
    · rename_i a o vs m xs ho hc hda hra
      · obtain ⟨o2, vs2, m2, xs2, ho2, hc2, hda2, hra2, e3, he2⟩ := reads_tup he r2
        subst e3
        have e1 : o = o2 := Option.some.inj (ho.symm.trans ho2)
        subst e1
        rw [hda] at hda2
        injection hda2 with e2 _
        subst e2
        have all : ∀ (us : List Value) (ds es : List PyData) (as bs : List Addr), (∀ d ∈ ds, pl n d = true) → (∀ d ∈ es, pl n d = true) → ReadsAll h us ds as → ReadsAll h us es bs → ds = es := by
          intro us
          induction us with
          | nil =>
            intro ds es as bs _ _ q1 q2
            cases q1
            cases q2
            rfl
          | cons u us ihu =>
            intro ds es as bs h1 h2 q1 q2
            cases q1 with
            | cons a1 b1 =>
              cases q2 with
              | cons a2 b2 =>
                rw [ih _ _ _ _ _ (h1 _ (by simp)) (h2 _ (by simp)) a1 a2, ihu _ _ _ _ (fun d hd => h1 d (List.mem_cons_of_mem _ hd)) (fun d hd => h2 d (List.mem_cons_of_mem _ hd)) b1 b2]
        rw [all _ _ _ _ _ hd he2 hra hra2]
theorem reads_keeps {h h' : Heap} {dd : Addr} {o : Obj} {es : Array DictEntry} {ep : Nat} (ho : h.get? dd = some o) (hd : o.data = .dict es ep) (hs : Heap.SameBut dd h h') :
    ∀ (n : Nat) (d : PyData) (v : Value) (as : List Addr), pl n d = true → Reads h v d as → Reads h' v d as := by
  intro n
  induction n with
  | zero =>
    intro d v as hp r
    cases r <;> simp [pl] at hp
    exact .int _ _
  | succ n ih =>
    intro d v as hp r
    cases r <;> simp [pl] at hp
    · exact .int _ _
    · rename_i a o' vs m xs ho' hc' hd' hra
      have hne : a ≠ dd := by
        rintro rfl
        obtain rfl : o' = o := Option.some.inj (ho'.symm.trans ho)
        rw [hd] at hd'
        exact nomatch hd'
      have all : ∀ (us : List Value) (ds : List PyData) (as : List Addr), (∀ d ∈ ds, pl n d = true) → ReadsAll h us ds as → ReadsAll h' us ds as := by
        intro us
        induction us with
        | nil =>
          intro ds as _ q1
          cases q1
          exact .nil
        | cons u us ihu =>
          intro ds as h1 q1
          cases q1 with
          | cons a1 b1 => exact .cons (ih _ _ _ (h1 _ (by simp)) a1) (ihu _ _ (fun d hd => h1 d (List.mem_cons_of_mem _ hd)) b1)
      exact .tuple ((hs.2 a hne).trans ho') hc' hd' (all _ _ _ hp hra)
abbrev GK := (Int × Int) × Int × Int × List (Int × (Int × Int) × Int)
instance gkDec : DecidableEq GK := fun a b => (inferInstance : Decidable (a = b))
theorem ibeq (a b : Int) : (a == b) = decide (a = b) := rfl
def standD (s : Int × (Int × Int) × Int) : PyData := .tuple [.int s.1, .tuple [.int s.2.1.1, .int s.2.1.2], .int s.2.2]
def dataOf (k : GK) : PyData := .tuple [.tuple [.int k.1.1, .int k.1.2], .int k.2.1, .int k.2.2.1, .tuple (k.2.2.2.map standD)]
theorem pl_stand (s : Int × (Int × Int) × Int) (n : Nat) : pl (n + 2) (standD s) = true := by simp [pl, standD]
theorem pl_data (k : GK) : pl 8 (dataOf k) = true := by
  show ([PyData.tuple [.int k.1.1, .int k.1.2], .int k.2.1, .int k.2.2.1, .tuple (k.2.2.2.map standD)].all (pl 7)) = true
  have e : pl 7 (.tuple (k.2.2.2.map standD)) = true := by
    show (k.2.2.2.map standD).all (pl 6) = true
    rw [List.all_map]
    exact List.all_eq_true.mpr fun s _ => pl_stand s 4
  simp only [List.all_cons, List.all_nil, e]
  simp [pl]
theorem canLay_stands : ∀ l : List (Int × (Int × Int) × Int), PyData.canLayAll0 (l.map standD) = true
  | [] => rfl
  | s :: l => by
    show (PyData.canLay0 (standD s) && PyData.canLayAll0 (l.map standD)) = true
    rw [canLay_stands l]
    rfl
theorem canLay_data (k : GK) : (dataOf k).canLay0 = true := by
  show (PyData.canLay0 (.tuple [.int k.1.1, .int k.1.2]) && (true && (true && (PyData.canLayAll0 (k.2.2.2.map standD) && true)))) = true
  rw [canLay_stands]
  rfl
theorem eqv_stand (a b : Int × (Int × Int) × Int) : PyData.eqv (standD a) (standD b) = decide (a = b) := by
  obtain ⟨p, ⟨x, y⟩, q⟩ := a
  obtain ⟨p', ⟨x', y'⟩, q'⟩ := b
  simp [standD, PyData.eqv, PyData.eqvAll, Bool.and_assoc, Bool.decide_and]
  try simp only [ibeq, Bool.and_assoc]
theorem eqv_stands : ∀ l m : List (Int × (Int × Int) × Int), PyData.eqvAll (l.map standD) (m.map standD) = decide (l = m)
  | [], [] => by simp [PyData.eqvAll]
  | [], _ :: _ => by simp [PyData.eqvAll]
  | _ :: _, [] => by simp [PyData.eqvAll]
  | a :: l, b :: m => by
    show (PyData.eqv (standD a) (standD b) && PyData.eqvAll (l.map standD) (m.map standD)) = _
    rw [eqv_stand, eqv_stands l m]
    simp [Bool.decide_and]
theorem eqv_data (x y : GK) : PyData.eqv (dataOf x) (dataOf y) = decide (x = y) := by
  obtain ⟨⟨a, b⟩, c, d, l⟩ := x
  obtain ⟨⟨a', b'⟩, c', d', l'⟩ := y
  simp [dataOf, PyData.eqv, PyData.eqvAll, eqv_stands, Bool.decide_and]
  try simp only [ibeq, Bool.and_assoc]
theorem data_inj {x y : GK} (h : dataOf x = dataOf y) : x = y := by
  have q := eqv_data x y
  rw [h, eqv_data y y] at q
  simpa using q.symm
theorem depth_stands : ∀ l : List (Int × (Int × Int) × Int), PyData.depthAll (l.map standD) ≤ 3
  | [] => by decide
  | s :: l => by
    have := depth_stands l
    simp [standD, PyData.depthAll, PyData.depth]
    omega
theorem depth_data (k : GK) : (dataOf k).depth ≤ 64 := by
  have := depth_stands k.2.2.2
  simp [dataOf, PyData.depth, PyData.depthAll]
  omega
def gKind (prog : Program) (w : World) : HeapKind prog w GK where
  is := fun h k a => ∃ as, Reads h (.ref a) (dataOf k) as
  hash := fun k => hashD 8 (dataOf k)
  draws := fun k => drawsD 8 (dataOf k)
  room := fun A => A.units + 64 < cLine
  inj := fun ⟨_, r1⟩ ⟨_, r2⟩ => data_inj (reads_inj 8 _ _ _ _ _ (pl_data _) (pl_data _) r1 r2)
  keeps := fun ⟨as, r⟩ ho hd hs => ⟨as, reads_keeps ho hd hs 8 _ _ _ (pl_data _) r⟩
  pyHash := fun hu ⟨as, r⟩ h => hash_ok 8 _ _ _ _ _ as _ (pl_data _) r (by have hu' : _ + 64 < cLine := hu; omega) h
  eqBool := fun {A E s x y a b Q} hu ⟨as, r1⟩ ⟨bs, r2⟩ h => by
    have q := SeqAt.eqAt_reads (dataOf x) (dataOf y) A s _ _ as bs r1 r2 (canLay_data x) (canLay_data y) (by
      have h1 := depth_data x
      have h2 : min (dataOf x).depth (dataOf y).depth ≤ (dataOf x).depth := Nat.min_le_left _ _
      have hu' : A.units + 64 < cLine := hu
      omega)
    rw [eqv_data] at q
    exact q prog w E Q h
  quiet := fun ⟨as, r⟩ h => quiet_ok 8 _ _ _ _ _ as _ (pl_data _) r h
end NKey
set_option Elab.async false
set_option linter.all false
set_option maxRecDepth 100000
namespace L2
open PySem PySem.Spec PyProof.Rows NKey
abbrev KN := List (GK × Addr × Int)
def entN (x : GK × Addr × Value) : DictEntry := ⟨hashD 8 (dataOf x.1), .ref x.2.1, x.2.2⟩
abbrev RN : KN → List (GK × Addr × Value) → Prop := Paired fun p q => p.1 = q.1 ∧ p.2.1 = q.2.1 ∧ ∃ t, q.2.2 = Value.int p.2.2 t
def dnF (a : Addr) (kvs : KN) (h : Heap) : Prop := kvs.length ≤ sizeLine ∧ (a == sysModules) = false ∧ ∃ xs, RN kvs xs ∧
  ∃ o es ep, h.get? a = some o ∧ o.ExactDict ∧ o.data = .dict es ep ∧ es.toList = xs.map entN ∧ (xs.map (·.1)).Nodup
def DN (a : Addr) (kvs : KN) : HO := .ext (dnF a kvs)
theorem dn_new {P : Program} {w : World} {H : Hp} {h : Heap} {a : Addr} {kvs : KN} (x : dnF a kvs h) : ObjOk P w H h a (DN a kvs) := by
  refine ⟨x, ?_, fun h1 h2 y k => ?_⟩
  · obtain ⟨_, _, _, _, o, _, _, e, _⟩ := x
    exact ⟨o, e⟩
  · obtain ⟨z, y1, xs, r, o, es, ep, e, c⟩ := y
    exact ⟨z, y1, xs, r, o, es, ep, k _ e, c⟩
theorem dn_at {P : Program} {w : World} {H : Hp} {h : Heap} {a : Addr} {kvs : KN} (ok : HOk P w H h) (e : H a = some (DN a kvs)) : dnF a kvs h := (ok a _ e).1
def lookN (kvs : KN) (k : GK) : Option Int := (kvs.find? fun x => decide (x.1 = k)).map (·.2.2)
def putN (kvs : KN) (k : GK) (b : Addr) (v : Int) : KN := if (lookN kvs k).isSome = true then kvs.map (fun x => if x.1 = k then (x.1, x.2.1, v) else x) else kvs ++ [(k, b, v)]
theorem lookN_nil {k : GK} : lookN [] k = none := rfl
theorem lookN_pos {p : GK × Addr × Int} {r : KN} {k : GK} (e : p.1 = k) : lookN (p :: r) k = some p.2.2 := by simp [lookN, List.find?_cons, e]
theorem lookN_neg {p : GK × Addr × Int} {r : KN} {k : GK} (e : ¬ p.1 = k) : lookN (p :: r) k = lookN r k := by simp [lookN, List.find?_cons, e]
theorem lookN_snoc {k j : GK} {b : Addr} {v : Int} : ∀ {kvs : KN}, lookN kvs k = none → lookN (kvs ++ [(k, b, v)]) j = if j = k then some v else lookN kvs j
  | [], _ => by
    by_cases e : j = k
    · rw [if_pos e]; exact lookN_pos e.symm
    · rw [if_neg e]; exact lookN_neg (fun q => e q.symm)
  | p :: r, h => by
    have hp : ¬ p.1 = k := fun q => by rw [lookN_pos q] at h; cases h
    rw [lookN_neg hp] at h
    by_cases e : p.1 = j
    · have n : ¬ j = k := fun q => hp (e.trans q)
      rw [if_neg n, List.cons_append, lookN_pos e, lookN_pos e]
    · rw [List.cons_append, lookN_neg e, lookN_neg e]
      exact lookN_snoc h
theorem lookN_repl {k j : GK} {v : Int} : ∀ {kvs : KN}, lookN (kvs.map fun x => if x.1 = k then (x.1, x.2.1, v) else x) j = if j = k then (lookN kvs j).map (fun _ => v) else lookN kvs j
  | [] => by by_cases e : j = k <;> simp [e, lookN]
  | p :: r => by
    rw [List.map_cons]
    by_cases e : p.1 = k
    · rw [if_pos e]
      by_cases ej : p.1 = j
      · have n : j = k := ej.symm.trans e
        rw [if_pos n, lookN_pos (p := (p.1, p.2.1, v)) ej, lookN_pos ej]
        rfl
      · rw [lookN_neg (p := (p.1, p.2.1, v)) ej, lookN_neg ej]
        exact lookN_repl
    · rw [if_neg e]
      by_cases ej : p.1 = j
      · have n : ¬ j = k := fun q => e (ej.trans q)
        rw [if_neg n, lookN_pos ej, lookN_pos ej]
      · rw [lookN_neg ej, lookN_neg ej]
        exact lookN_repl
theorem lookN_put {kvs : KN} {k j : GK} {b : Addr} {v : Int} : lookN (putN kvs k b v) j = if j = k then some v else lookN kvs j := by
  unfold putN
  by_cases h : (lookN kvs k).isSome = true
  · rw [if_pos h, lookN_repl]
    by_cases e : j = k
    · rw [if_pos e, if_pos e, e]
      obtain ⟨x, hx⟩ := Option.isSome_iff_exists.mp h
      rw [hx]
      rfl
    · rw [if_neg e, if_neg e]
  · rw [if_neg h]
    exact lookN_snoc (by simpa using h)
theorem length_putN {kvs : KN} {k : GK} {b : Addr} {v : Int} : (putN kvs k b v).length ≤ kvs.length + 1 := by
  unfold putN
  split
  · rw [List.length_map]; exact Nat.le_succ _
  · rw [List.length_append]; exact Nat.le_refl _
theorem mem_putN {kvs : KN} {k : GK} {b : Addr} {v : Int} {p : GK × Addr × Int} (h : p ∈ putN kvs k b v) : (p.1 = k ∧ p.2.1 = b) ∨ ∃ q ∈ kvs, q.1 = p.1 ∧ q.2.1 = p.2.1 := by
  unfold putN at h
  split at h
  · obtain ⟨q, hq, e⟩ := List.mem_map.mp h
    refine .inr ⟨q, hq, ?_⟩
    by_cases c : q.1 = k
    · rw [if_pos c] at e; rw [← e]; exact ⟨rfl, rfl⟩
    · rw [if_neg c] at e; rw [← e]; exact ⟨rfl, rfl⟩
  · rcases List.mem_append.mp h with h | h
    · exact .inr ⟨p, h, rfl, rfl⟩
    · have e : p = (k, b, v) := by simpa using h
      exact .inl (by rw [e]; exact ⟨rfl, rfl⟩)
theorem RN.none_of {k : GK} : ∀ {kvs : KN} {xs : List (GK × Addr × Value)}, RN kvs xs → lookN kvs k = none → atKey xs k = none
  | _, _, .nil, _ => rfl
  | p :: _, q :: _, .cons h t, l => by
    have hp : ¬ p.1 = k := fun e => by rw [lookN_pos e] at l; cases l
    have hq : ¬ q.1 = k := fun e => hp (h.1.trans e)
    rw [lookN_neg hp] at l
    have b := RN.none_of t l
    simp only [atKey, List.find?_cons, hq, decide_false]
    exact b
theorem RN.some_of {k : GK} {v : Int} : ∀ {kvs : KN} {xs : List (GK × Addr × Value)}, RN kvs xs → lookN kvs k = some v → ∃ p t, atKey xs k = some p ∧ p.2 = Value.int v t
  | _, _, .nil, l => by cases l
  | p :: _, q :: _, .cons h t, l => by
    by_cases hp : p.1 = k
    · have hq : q.1 = k := h.1.symm.trans hp
      rw [lookN_pos hp] at l
      obtain ⟨t0, e⟩ := h.2.2
      refine ⟨q.2, t0, by simp [atKey, List.find?_cons, hq], ?_⟩
      rw [e, Option.some.inj l]
    · have hq : ¬ q.1 = k := fun e => hp (h.1.trans e)
      rw [lookN_neg hp] at l
      obtain ⟨r, t0, e1, e2⟩ := RN.some_of t l
      exact ⟨r, t0, by simp only [atKey, List.find?_cons, hq, decide_false]; exact e1, e2⟩
theorem RN.isSome {k : GK} {kvs : KN} {xs : List (GK × Addr × Value)} (r : RN kvs xs) : (lookN kvs k).isSome = (atKey xs k).isSome := by
  cases e : lookN kvs k with
  | none => rw [r.none_of e]; rfl
  | some v =>
    obtain ⟨p, t, e1, _⟩ := r.some_of e
    rw [e1]; rfl
theorem RN.repl {k : GK} {v : Int} {t : Tok} {kvs : KN} {xs : List (GK × Addr × Value)} (r : RN kvs xs) : RN (kvs.map fun x => if x.1 = k then (x.1, x.2.1, v) else x) (xs.map (putAt k (.int v t))) := by
  induction r with
  | nil => exact .nil
  | @cons p q ps qs h tl ih =>
    rw [List.map_cons, List.map_cons]
    refine .cons ?_ ih
    obtain ⟨h1, h2, h3⟩ := h
    unfold putAt
    by_cases e : p.1 = k
    · rw [if_pos e, if_pos (h1.symm.trans e)]; exact ⟨h1, h2, t, rfl⟩
    · rw [if_neg e, if_neg (fun z => e (h1.trans z))]; exact ⟨h1, h2, h3⟩
theorem RN.put {k : GK} {b : Addr} {v : Int} {t : Tok} {kvs : KN} {xs : List (GK × Addr × Value)} (r : RN kvs xs) : RN (putN kvs k b v) (storedH xs k b (.int v t)) := by
  unfold putN storedH
  rw [r.isSome]
  by_cases q : (atKey xs k).isSome = true
  · rw [if_pos q, if_pos q]; exact r.repl
  · rw [if_neg q, if_neg q]; exact Paired.snoc r ⟨rfl, rfl, t, rfl⟩
/-- the keys stand as tuples -/
def KeysAt (K : PySem.W.Frag) (H : Hp) (kvs : KN) : Prop := ∀ p ∈ kvs, Dp K H (.ref p.2.1) (dataOf p.1)
section
variable {X : Cx} {pins : List (Addr × Obj)} {σ : St} {H : Hp} {s : Shared} {a b : Addr} {kvs : KN} {k : GK} {A : Around} {E : Value → Shared → Prop}
theorem key_isN (I : Inv X pins σ H s) (h : Dp X.K H (.ref b) (dataOf k)) : (gKind X.prog X.w).is s.heap k b := Dp.reads I (dataOf k) (.ref b) (.ref b) h rfl
theorem dn_rd (I : Inv X pins σ H s) (e : H a = some (DN a kvs)) (hk : KeysAt X.K H kvs) : kvs.length ≤ sizeLine ∧ (a == sysModules) = false ∧ ∃ xs, RN kvs xs ∧ s.heap.DictOfH (gKind X.prog X.w) a xs := by
  obtain ⟨z, y, xs, r, o, es, ep, h1, h2, h3, h4, h5⟩ := dn_at I.hok e
  refine ⟨z, y, xs, r, o, es, ep, h1, h2, h3, h4, fun x hx => ?_, h5⟩
  have all : ∀ {l : KN} {m : List (GK × Addr × Value)}, RN l m → (∀ p ∈ l, Dp X.K H (.ref p.2.1) (dataOf p.1)) → ∀ x ∈ m, (gKind X.prog X.w).is s.heap x.1 x.2.1 := by
    intro l m q
    induction q with
    | nil => intro _ x hx; exact nomatch hx
    | @cons p q ps qs hq t ih =>
      intro hl x hx
      rcases List.mem_cons.mp hx with e | hx
      · subst e
        have d := hl p (List.mem_cons_self ..)
        rw [hq.1, hq.2.1] at d
        exact key_isN I d
      · exact ih (fun p hp => hl p (List.mem_cons_of_mem _ hp)) x hx
  exact all r hk x hx
theorem dn_get {v : Int} {Q : Value → Shared → Prop} (hu : A.in1.units + 64 < cLine) (I : Inv X pins σ H s) (e : H a = some (DN a kvs)) (hk : KeysAt X.K H kvs) (hb : Dp X.K H (.ref b) (dataOf k)) (l : lookN kvs k = some v)
    (h : ∀ t s', Inv X pins σ H s' → Q (.int v t) s') : wpAny (model X.prog X.w) A (getItem (.ref a) (.ref b)) Q E s := by
  obtain ⟨z, hd, xs, rel, dd⟩ := dn_rd I e hk
  obtain ⟨p, t, hp, hv⟩ := rel.some_of l
  refine wpAny_getItem_heap (knd := gKind X.prog X.w) hu (key_isN I hb) dd hp ?_
  rw [hv]
  exact h t _ (I.tok _)
theorem dn_notIn {Q : Value → Shared → Prop} (hu : A.in1.units + 64 < cLine) (I : Inv X pins σ H s) (e : H a = some (DN a kvs)) (hk : KeysAt X.K H kvs) (hb : Dp X.K H (.ref b) (dataOf k))
    (h : ∀ s', Inv X pins σ H s' → Q (.bool (!(lookN kvs k).isSome)) s') : wpAny (model X.prog X.w) A (compareOp .NotIn (.ref b) (.ref a)) Q E s := by
  obtain ⟨z, hd, xs, rel, dd⟩ := dn_rd I e hk
  refine wpAny_notIn_heap (knd := gKind X.prog X.w) hu (key_isN I hb) hd dd ?_
  rw [← rel.isSome]
  exact h _ (I.tok _)
theorem dn_set {v : Int} {r : Value} {Q : Unit → Shared → Prop} (hu : A.in1.units + 64 < cLine) (I : Inv X pins σ H s) (e : H a = some (DN a kvs)) (hk : KeysAt X.K H kvs) (hb : Dp X.K H (.ref b) (dataOf k)) (hl : kvs.length < sizeLine)
    (rv : RelV (.int v) r) (h : ∀ s', Inv X pins σ (upd H a (DN a (putN kvs k b v))) s' → Q () s') : wpAny (model X.prog X.w) A (setItem (.ref a) (.ref b) r) Q E s := by
  obtain ⟨z, hd, xs, rel, dd⟩ := dn_rd I e hk
  obtain ⟨t, rfl⟩ := rv
  have hz : xs.length ≤ sizeLine := by rw [← Paired.length rel]; exact z
  have hl2 : (putN kvs k b v).length ≤ sizeLine := Nat.le_trans length_putN hl
  refine wpAny_setItem_heap (knd := gKind X.prog X.w) (hsz := hz) hu (key_isN I hb) dd fun h' dd' hs => h _ ?_
  obtain ⟨q, es, ep, hq, h2, h3, h4, _, h5⟩ := dd'
  exact d_write I (by rw [e]; exact True.intro) hs ⟨q, hq⟩ (dn_new ⟨hl2, hd, _, rel.put, q, es, ep, hq, h2, h3, h4, h5⟩)
end
/-- d[y], y not in d, d[y] = v, {} of such a dict -/
def tNGet (K : PySem.W.Frag) (td ty : TE) : TE := fun σ H Q => td σ H fun x H1 => ty σ H1 fun y H2 => ∃ a b kvs k v, x = .ref a ∧ y = .ref b ∧ H2 a = some (DN a kvs) ∧ KeysAt K H2 kvs ∧ Dp K H2 (.ref b) (dataOf k) ∧ lookN kvs k = some v ∧ Q (.int v) H2
def tNNotIn (K : PySem.W.Frag) (ty td : TE) : TE := fun σ H Q => ty σ H fun y H1 => td σ H1 fun x H2 => ∃ a b kvs k, x = .ref a ∧ y = .ref b ∧ H2 a = some (DN a kvs) ∧ KeysAt K H2 kvs ∧ Dp K H2 (.ref b) (dataOf k) ∧ Q (.bl (!(lookN kvs k).isSome)) H2
def sNPut (K : PySem.W.Frag) (td ty tv : TE) : TS := fun D σ H => tv σ H fun z H1 => td σ H1 fun x H2 => ty σ H2 fun y H3 => ∃ a b kvs k v, z = .int v ∧ x = .ref a ∧ y = .ref b ∧ H3 a = some (DN a kvs) ∧ KeysAt K H3 kvs ∧ Dp K H3 (.ref b) (dataOf k) ∧ kvs.length < sizeLine ∧ D.nx σ (upd H3 a (DN a (putN kvs k b v)))
def tNNew : TE := fun _ H Q => ∀ p, H p = none → Q (.ref p) (upd H p (DN p []))
section
variable {X : Cx} {o i e value : Expr} {pos pos' tpos : Pos} {td ty tv : TE}
theorem in1_room (hu : X.A.units + 65 < cLine) : X.A.in1.units + 64 < cLine := by
  show X.A.units + 1 + 64 < cLine
  omega
theorem dn_type {pins : List (Addr × Obj)} {σ : St} {H : Hp} {s : Shared} {a : Addr} {kvs : KN} (I : Inv X pins σ H s) (e : H a = some (DN a kvs)) : s.TypeIs (.ref a) "dict" := by
  obtain ⟨_, _, _, _, o, _, _, h1, h2, _⟩ := dn_at I.hok e
  exact ⟨o, h1, h2.1⟩
theorem pe_ngetN (hu : X.A.units + 65 < cLine) (ho : PE X o td) (hi : PE X i ty) (hs : NoSl i) : PE X (.Subscript o i pos) (tNGet X.K td ty) := by
  intro pins s σ H Q I h
  refine subD_of PySem.F.slot_dict_getitem.lookup hs (thn (ho pins s σ H _ I h) fun u s1 ⟨x, H1, I1, rx, q1⟩ => thn (hi pins s1 σ H1 _ I1 q1) fun iv s2 ⟨y, H2, I2, ry, a, b, kvs, k, v, ex, ey, e, hk, hb, l, q2⟩ => ?_)
  subst ex ey
  obtain rfl : u = Value.ref a := rx
  obtain rfl : iv = Value.ref b := ry
  exact ⟨dn_type I2 e, dn_get (in1_room hu) I2 e hk hb l fun t s3 I3 => ⟨.int v, H2, I3, ⟨t, rfl⟩, q2⟩⟩
theorem pc_nnotin (hu : X.A.units + 65 < cLine) (hi : PE X i ty) (ho : PE X o td) : PC X .NotIn i o (tNNotIn X.K ty td) := by
  intro pins s σ H Q I h
  refine thn (hi pins s σ H _ I h) fun iv s1 ⟨y, H1, I1, ry, q1⟩ => thn (ho pins s1 σ H1 _ I1 q1) fun u s2 ⟨x, H2, I2, rx, a, b, kvs, k, ex, ey, e, hk, hb, q2⟩ => ?_
  subst ex ey
  obtain rfl : u = Value.ref a := rx
  obtain rfl : iv = Value.ref b := ry
  exact dn_notIn (in1_room hu) I2 e hk hb fun s3 I3 => ⟨.bl _, H2, I3, rfl, q2⟩
theorem ps_nput (hu : X.A.units + 65 < cLine) (ho : PE X o td) (hi : PE X i ty) (hv : PE X value tv) (hs : swapsWith value (some (.Subscript o i pos')) pos.line X.env = pure false) :
    PS X (.Assign [.Subscript o i pos'] value pos) (sNPut X.K td ty tv) := by
  intro pins s σ H D I h
  refine wpAny_Assign_Subscript (thn (hv pins s σ H _ I h) fun r s1 ⟨z, H1, I1, rv, q1⟩ => thn (ho pins s1 σ H1 _ I1 q1) fun u s2 ⟨x, H2, I2, rx, q2⟩ => thn (hi pins s2 σ H2 _ I2 q2) fun iv s3 ⟨y, H3, I3, ry, a, b, kvs, k, v, ez, ex, ey, e, hk, hb, hl, q3⟩ => ?_) hs
  subst ex ey ez
  obtain rfl : u = Value.ref a := rx
  obtain rfl : iv = Value.ref b := ry
  exact dn_set (in1_room hu) I3 e hk hb hl rv fun s4 I4 => ⟨σ, _, I4, q3⟩
theorem dn_empty (h : Heap) (hb : sysModules < h.objs.size) : dnF h.objs.size [] (h.push { cls := .type "dict", data := .dict #[] }) :=
  ⟨Nat.zero_le _, beq_eq_false_iff_ne.mpr (Ne.symm (Nat.ne_of_lt hb)), [], .nil, _, #[], 0, Heap.get?_push_size _ rfl, ⟨rfl, rfl, rfl⟩, rfl, rfl, List.nodup_nil⟩
theorem pe_nnew : PE X (.Dict [] [] pos) tNNew := fun pins s σ H Q I h =>
  wpAny_Dict_empty ⟨.ref s.heap.objs.size, _, I.laid (a := s.heap.objs.size) (o := DN s.heap.objs.size []) (t' := s.toks) (fun _ _ q => Heap.get?_push_of_some _ q) (Nat.le_refl _) (dn_new (dn_empty s.heap I.big)), rfl, h _ (I.hok.fresh (Nat.le_refl _))⟩
end
end L2
set_option Elab.async false
set_option linter.all false
set_option maxRecDepth 100000
namespace TupIt
open PySem
open Sem (wp)
section
variable {prog : Program} {w : World} {A : Around} {E : Value → Shared → Prop} {s : Shared}
theorem draw_item {j t : Addr} {i : Nat} {vals : Array Value} {v : Value} {Q : Value → Shared → Prop} (hj : s.heap.IsTupleIter j t i) (ht : s.heap.IsTuple t vals) (hv : vals[i]? = some v)
    (k : ∀ h', h'.IsTupleIter j t (i + 1) → Heap.SameBut j s.heap h' → Q v { s with heap := h' }) : wpAny (model prog w) A (Builtin.SmallTypes.nextOf (.ref j)) Q E s := by
  have hT := hj.typeIs
  obtain ⟨o, ho, hc, hd⟩ := hj
  obtain ⟨ot, hot, _, nt, hdt⟩ := ht
  unfold Builtin.SmallTypes.nextOf
  refine wpAny_bind (wpAny_callSpecial?_slot (name := Str.ofString "__next__") hT F.slot_tuple_iterator_next (wpAny_call_entry F.slot_tuple_iterator_next hT F.entry_tuple_iterator_next ?_ (F.args_tuple_iterator_next_1 _)))
  show wpAny _ _ (field (.ref j) 0 >>= _) _ _ s
  refine wpAny_bind (wpAny_field (x := .ref t) ho hd rfl ?_)
  show wpAny _ _ (if (Value.ref t == Value.none) = true then _ else _) _ _ s
  have nn : ¬ ((Value.ref t == Value.none) = true) := Bool.false_ne_true
  rw [if_neg nn]
  show wpAny _ _ (field (.ref j) 1 >>= _) _ _ s
  refine wpAny_bind (wpAny_field (x := .int i 0) ho hd rfl ?_)
  show wpAny _ _ (seqItems? (.ref t) >>= _) _ _ s
  refine wpAny_bind (wpAny_seqItems hot hdt ?_)
  simp only [Int.toNat_natCast, hv]
  refine wpAny_bind (wpAny_setField ho hd (by simp) (wpAny_pure ⟨v, rfl, wpAny_pure (k _ ⟨_, Heap.get?_update_self _ ho (Obj.isFreed_of_fields (Obj.data_mapFields hd _)), (Obj.cls_mapFields ..).trans hc, ?_⟩ (Heap.SameBut.update ..))⟩))
  rw [Obj.data_mapFields hd]
  simp [rawInt]
theorem draw_end {j t : Addr} {i : Nat} {vals : Array Value} {Q : Value → Shared → Prop} (hh : A.handled = none) (hj : s.heap.IsTupleIter j t i) (ht : s.heap.IsTuple t vals) (hv : vals[i]? = none)
    (k : ∀ h' e, Heap.ExtBut j s.heap h' → (∃ o, h'.get? e = some o ∧ o.cls = .type "StopIteration") → E (.ref e) { s with heap := h' }) : wpAny (model prog w) A (Builtin.SmallTypes.nextOf (.ref j)) Q E s := by
  have hT := hj.typeIs
  obtain ⟨o, ho, hc, hd⟩ := hj
  obtain ⟨ot, hot, _, nt, hdt⟩ := ht
  unfold Builtin.SmallTypes.nextOf
  refine wpAny_bind (wpAny_callSpecial?_slot (name := Str.ofString "__next__") hT F.slot_tuple_iterator_next (wpAny_call_entry F.slot_tuple_iterator_next hT F.entry_tuple_iterator_next ?_ (F.args_tuple_iterator_next_1 _)))
  show wpAny _ _ (field (.ref j) 0 >>= _) _ _ s
  refine wpAny_bind (wpAny_field (x := .ref t) ho hd rfl ?_)
  show wpAny _ _ (if (Value.ref t == Value.none) = true then _ else _) _ _ s
  have nn : ¬ ((Value.ref t == Value.none) = true) := Bool.false_ne_true
  rw [if_neg nn]
  show wpAny _ _ (field (.ref j) 1 >>= _) _ _ s
  refine wpAny_bind (wpAny_field (x := .int i 0) ho hd rfl ?_)
  show wpAny _ _ (seqItems? (.ref t) >>= _) _ _ s
  refine wpAny_bind (wpAny_seqItems hot hdt ?_)
  simp only [Int.toNat_natCast, hv]
  refine wpAny_bind (wpAny_rule (wpAny_bind (wpAny_setField ho hd (by simp) ?_)))
  show wpAny _ _ (newExc (.type "StopIteration") [] >>= _) _ _ _
  refine wpAny_bind ?_
  simp only [newExc, newTuple]
  refine wpAny_bind (wpAny_newObj_type ?_ (by size_fits))
  refine wpAny_bind (m := firstArgMember _ _) (wpAny_of_eq (a := Value.none) (by first | rfl | (simp only [firstArgMember]; rfl)) ?_)
  refine wpAny_newObj_type ?_ (by size_fits)
  simp only [raiseNew]
  refine wpAny_bind (wpAny_handled ?_)
  first | rw [show A.in1.handled = none from hh] | rw [hh]
  exact wpAny_bind (wpAny_pure (wpAny_throw (k _ _ (((Heap.SameBut.update ..).extBut.push _).push _) ⟨_, Heap.get?_push_size _ rfl, rfl⟩)))
end
theorem drawsT {prog : Program} {w : World} {A : Around} (hh : A.handled = none) (j t : Addr) (hne : t ≠ j) (vals : Array Value) :
    Draws prog w A j [j, t] vals.size (fun i v => vals[i]? = some v) (fun i h => h.IsTupleIter j t i ∧ h.IsTuple t vals) where
  live := fun _ _ st => let ⟨o, ho, _⟩ := st.1; ⟨o, ho⟩
  frame := fun _ _ _ st hk => ⟨st.1.at fun o e => hk j (by simp) o e, let ⟨o, ho, r⟩ := st.2; ⟨o, hk t (by simp) o ho, r⟩⟩
  item := fun i s Q E hi st k => draw_item st.1 st.2 (v := vals[i]) (by simp [hi]) fun h' hj' hs' => k _ h' s.toks (by simp [hi]) ⟨hj', st.2.extBut hs'.extBut hne⟩ hs'
  done := fun s Q E st hE => draw_end hh st.1 st.2 (by simp) hE
section
variable {prog : Program} {w : World} {A : Around} {E : Value → Shared → Prop} {s : Shared}
open AutoSeq1 (wpAny_loadPart')
set_option maxHeartbeats 1000000 in
theorem newE (t : Addr) (vals : Array Value) (n : Nat) (dct : Option Addr) (sl : Array (Option Value)) :
    Meets (Builtin.«enumerate.__new__» ⟨[.type "enumerate", .ref t], []⟩) (fun _ R s => s.heap.get? t = some { cls := .type "tuple", dict := dct, data := .seq vals n, slots := sl } ∧
      R (.ok (.ret (.ref (s.heap.push { cls := .type "tuple_iterator", data := .fields #[.ref t, .int 0 0] }).objs.size)))
        { s with heap := (s.heap.push { cls := .type "tuple_iterator", data := .fields #[.ref t, .int 0 0] }).push { cls := .type "enumerate", data := .fields #[.none, .bool false, .ref s.heap.objs.size, rawInt 0, .none, .none] } }) :=
  .of_wp fun prog w A R s h => by
    obtain ⟨hp, g, d, tk, os⟩ := s
    obtain ⟨ht, h⟩ := h
    have sub := sub_enumerate
    have hq : Heap.IsTuple (Shared.heap ⟨hp, g, d, tk, os⟩) t vals := ⟨_, ht, rfl, n, rfl⟩
    wp_walk using wpAny_loadPart' ht
    refine wpAny_stack_any fun st => wpAny_pure ?_
    split
    · rename_i c _ _ _ _ _
      cases (c == Value.type "enumerate") <;> (wp_walk using wpAny_loadPart' ht, wpAny_pyIter_tuple hq; exact ⟨_, rfl, h⟩)
    · wp_walk using wpAny_loadPart' ht, wpAny_pyIter_tuple hq
      exact ⟨_, rfl, h⟩
theorem call_enum {t : Addr} {vals : Array Value} {Q : Value → Shared → Prop} (ht : s.heap.IsTuple t vals)
    (k : ∀ h', IsEnum h' (s.heap.objs.size + 1) s.heap.objs.size 0 .none → h'.IsTupleIter s.heap.objs.size t 0 → h'.objs.size = s.heap.objs.size + 2 →
      (∀ b o, s.heap.get? b = some o → h'.get? b = some o) → Q (.ref (s.heap.objs.size + 1)) { s with heap := h' }) : wpAny (model prog w) A (call (.type "enumerate") [.ref t]) Q E s := by
  obtain ⟨⟨c, dct, dt, sl⟩, ho, hc, n, hd⟩ := ht
  change c = .type "tuple" at hc
  change dt = .seq vals n at hd
  subst hc hd
  have z : (s.heap.push { cls := .type "tuple_iterator", data := .fields #[.ref t, .int 0 0] }).objs.size = s.heap.objs.size + 1 := Heap.size_push ..
  refine callType_new F.called_enumerate (by decide) (F.typeCall_enumerate_1 _) (F.newCall_enumerate_1 _) (fun obj => F.args_object_init_2 obj _) F.entry_enumerate_new (newE t vals n dct sl) ⟨ho, ?_⟩
  show _ ∧ _
  rw [z]
  have he : IsEnum ((s.heap.push { cls := .type "tuple_iterator", data := .fields #[.ref t, .int 0 0] }).push
      { cls := .type "enumerate", data := .fields #[.none, .bool false, .ref s.heap.objs.size, rawInt 0, .none, .none] }) (s.heap.objs.size + 1) s.heap.objs.size 0 .none := by
    have q := Heap.get?_push_size (s.heap.push { cls := .type "tuple_iterator", data := .fields #[.ref t, .int 0 0] }) (o := { cls := .type "enumerate", data := .fields #[.none, .bool false, .ref s.heap.objs.size, rawInt 0, .none, .none] }) rfl
    rw [z] at q
    exact q
  exact ⟨⟨_, he, rfl⟩, k _ he ⟨_, Heap.get?_push_of_some _ (Heap.get?_push_size _ rfl), rfl, rfl⟩ (by rw [Heap.size_push, z]) fun b o x => Heap.get?_push_of_some _ (Heap.get?_push_of_some _ x)⟩
/-- what a zip over two tuples stands on -/
structure ZAt (h : Heap) (z TI TO i1 i2 l1 l2 : Addr) (n1 n2 : Nat) : Prop where
  z : IsZip h z TI TO .none
  ti : IsPair h TI (.ref i1) (.ref i2)
  to : ∃ a b, IsPair h TO a b
  i1 : h.IsTupleIter i1 l1 n1
  i2 : h.IsTupleIter i2 l2 n2
set_option maxHeartbeats 1000000 in
theorem zip_item {z TI TO i1 i2 l1 l2 : Addr} {n1 n2 : Nat} {xs ys : Array Value} {x y : Value} {Q : Option Value → Shared → Prop} (D : ZipApart z TI TO i1 i2 l1 l2) (Z : ZAt s.heap z TI TO i1 i2 l1 l2 n1 n2)
    (t1 : s.heap.IsTuple l1 xs) (t2 : s.heap.IsTuple l2 ys) (hx : xs[n1]? = some x) (hy : ys[n2]? = some y)
    (k : ∀ h', IsZip h' z TI TO (rawInt s.heap.objs.size) → IsPair h' TO x y → h'.IsTupleIter i1 l1 (n1 + 1) → h'.IsTupleIter i2 l2 (n2 + 1) → IsPair h' s.heap.objs.size x y →
      (∀ c o, c ≠ z → c ≠ TO → c ≠ i1 → c ≠ i2 → s.heap.get? c = some o → h'.get? c = some o) → Q (some (.ref s.heap.objs.size)) { s with heap := h' }) : wpAny (model prog w) A (pyNext (.ref z)) Q E s := by
  obtain ⟨hz, hTI, ⟨a, b, hTO⟩, h1, h2⟩ := Z
  have hT : s.TypeIs (.ref z) "zip" := ⟨_, hz, rfl⟩
  unfold pyNext
  refine wpAny_bind (wpAny_attempt (wpAny_callSpecial?_slot (name := Str.ofString "__next__") hT F.slot_zip_next (wpAny_call_entry F.slot_zip_next hT F.entry_zip_next ?_ (F.args_zip_next_1 _))))
  show wpAny _ _ (field (.ref z) 2 >>= _) _ _ _
  refine wpAny_bind (wpAny_field (x := .bool false) hz rfl rfl ?_)
  show wpAny _ _ (field (.ref z) 3 >>= _) _ _ _
  refine wpAny_bind (wpAny_field (x := .ref TI) hz rfl rfl (wpAny_bind (wpAny_seqItems hTI rfl ?_)))
  show wpAny _ _ (Builtin.SmallTypes.ownedTupleIsFree (.ref z) >>= _) _ _ _
  refine wpAny_bind ?_
  unfold Builtin.SmallTypes.ownedTupleIsFree
  refine wpAny_bind (wpAny_field (x := .none) hz rfl rfl (wpAny_pure ?_))
  simp only [if_true]
  refine wpAny_bind (wpAny_rule (wpAny_bind (wpAny_field (x := .ref TO) hz rfl rfl (wpAny_bind (wpAny_setField_rec hz (by simp) fun ha hza sa => ?_)))))
  have za : IsZip ha z TI TO .ellipsis := hza
  refine wpAny_bind ?_
  simp only [List.zipIdx_cons, List.zipIdx_nil, List.forIn_cons, List.forIn_nil]
  refine wpAny_bind (wpAny_bind (wpAny_onRaise ?_))
  show wpAny _ _ (Builtin.SmallTypes.nextOf (.ref i1) >>= _) _ _ _
  refine wpAny_bind (draw_item (h1.extBut sa.extBut D.i1z) (t1.extBut sa.extBut D.l1z) hx fun hb ib sb => wpAny_pure ?_)
  have ob : IsPair hb TO a b := sb.extBut _ _ D.TOi1 (sa.extBut _ _ D.TOz hTO)
  refine wpAny_bind (wpAny_seqItems ob rfl (wpAny_bind (wpAny_updateSeq_pair ob fun hc oc' sc => ?_)))
  have oc : IsPair hc TO x b := oc'
  refine wpAny_bind (wpAny_letGo (wpAny_pure ?_))
  refine wpAny_bind (wpAny_bind (wpAny_onRaise ?_))
  show wpAny _ _ (Builtin.SmallTypes.nextOf (.ref i2) >>= _) _ _ _
  refine wpAny_bind (draw_item (((h2.extBut sa.extBut D.i2z).extBut sb.extBut D.i12.symm).extBut sc.extBut D.TOi2.symm) (((t2.extBut sa.extBut D.l2z).extBut sb.extBut D.l2i1).extBut sc.extBut D.l2TO) hy fun hd jd sd => wpAny_pure ?_)
  have od : IsPair hd TO x b := sd.extBut _ _ D.TOi2 oc
  refine wpAny_bind (wpAny_seqItems od rfl (wpAny_bind (wpAny_updateSeq_pair od fun he oe' se => ?_)))
  have oe : IsPair he TO x y := oe'
  refine wpAny_bind (wpAny_letGo (wpAny_pure (wpAny_pure (wpAny_bind (wpAny_seqItems oe rfl (wpAny_bind (wpAny_newTuple ?_)))))))
  have size : he.objs.size = s.heap.objs.size := by rw [se.1, sd.1, sc.1, sb.1, sa.1]
  have ze : IsZip he z TI TO .ellipsis := se.extBut _ _ D.TOz.symm (sd.extBut _ _ D.i2z.symm (sc.extBut _ _ D.TOz.symm (sb.extBut _ _ D.i1z.symm za)))
  have ie : he.IsTupleIter i1 l1 (n1 + 1) := ((ib.extBut sc.extBut D.TOi1.symm).extBut sd.extBut D.i12).extBut se.extBut D.TOi1.symm
  have je : he.IsTupleIter i2 l2 (n2 + 1) := jd.extBut se.extBut D.TOi2.symm
  have lz : z < he.objs.size := Heap.lt_size ze
  show wpAny _ _ (Builtin.SmallTypes.ownedTupleHandOut (.ref z) (.ref he.objs.size) >>= _) _ _ _
  refine wpAny_bind ?_
  unfold Builtin.SmallTypes.ownedTupleHandOut
  have zf : IsZip (he.push { cls := .type "tuple", data := .seq #[x, y] }) z TI TO .ellipsis := Heap.get?_push_of_some _ ze
  refine wpAny_bind (wpAny_setField_rec zf (by simp) fun hg zg' sg => ?_)
  have zg : IsZip hg z TI TO (rawInt he.objs.size) := zg'
  refine wpAny_setField_rec zg (by simp) fun hh zh' sh => ?_
  have zh : IsZip hh z TI TO (rawInt he.objs.size) := zh'
  have up : ∀ c o, c ≠ z → he.get? c = some o → hh.get? c = some o := fun c o c1 e => sh.extBut _ _ c1 (sg.extBut _ _ c1 (Heap.get?_push_of_some _ e))
  have new : IsPair hh he.objs.size x y := sh.extBut _ _ (Nat.ne_of_gt lz) (sg.extBut _ _ (Nat.ne_of_gt lz) (Heap.get?_push_size _ rfl))
  rw [size] at zh new
  refine wpAny_pure ⟨_, rfl, wpAny_pure ?_⟩
  show Q (some (.ref he.objs.size)) _
  rw [size]
  exact k hh zh (up _ _ D.TOz oe) (ie.at fun o e => up _ o D.i1z e) (je.at fun o e => up _ o D.i2z e) new fun c o c1 c2 c3 c4 e =>
    up c o c1 (se.extBut _ _ c2 (sd.extBut _ _ c4 (sc.extBut _ _ c2 (sb.extBut _ _ c3 (sa.extBut _ _ c1 e)))))
set_option maxHeartbeats 1000000 in
theorem zip_end {z TI TO i1 i2 l1 l2 : Addr} {n1 n2 : Nat} {xs ys : Array Value} {Q : Option Value → Shared → Prop} (hh : A.handled = none) (D : ZipApart z TI TO i1 i2 l1 l2) (Z : ZAt s.heap z TI TO i1 i2 l1 l2 n1 n2)
    (t1 : s.heap.IsTuple l1 xs) (t2 : s.heap.IsTuple l2 ys) (hend : xs[n1]? = none ∨ ys[n2]? = none)
    (k : ∀ h', (∀ c o, c ≠ z → c ≠ TO → c ≠ i1 → c ≠ i2 → s.heap.get? c = some o → h'.get? c = some o) → Q none { s with heap := h' }) : wpAny (model prog w) A (pyNext (.ref z)) Q E s := by
  obtain ⟨hz, hTI, ⟨a, b, hTO⟩, h1, h2⟩ := Z
  have hT : s.TypeIs (.ref z) "zip" := ⟨_, hz, rfl⟩
  have fin : ∀ h' e, (∀ c o, c ≠ z → c ≠ TO → c ≠ i1 → c ≠ i2 → s.heap.get? c = some o → h'.get? c = some o) → (∃ o, h'.get? e = some o ∧ o.cls = .type "StopIteration") →
      wpAny (model prog w) A (do if ← isInstance (.ref e) (.type "StopIteration") then return none else (throw (Value.ref e) : Sem (Option Value))) Q E { s with heap := h' } → True := fun _ _ _ _ _ => trivial
  unfold pyNext
  refine wpAny_bind (wpAny_attempt (wpAny_callSpecial?_slot (name := Str.ofString "__next__") hT F.slot_zip_next (wpAny_call_entry F.slot_zip_next hT F.entry_zip_next ?_ (F.args_zip_next_1 _))))
  show wpAny _ _ (field (.ref z) 2 >>= _) _ _ _
  refine wpAny_bind (wpAny_field (x := .bool false) hz rfl rfl ?_)
  show wpAny _ _ (field (.ref z) 3 >>= _) _ _ _
  refine wpAny_bind (wpAny_field (x := .ref TI) hz rfl rfl (wpAny_bind (wpAny_seqItems hTI rfl ?_)))
  show wpAny _ _ (Builtin.SmallTypes.ownedTupleIsFree (.ref z) >>= _) _ _ _
  refine wpAny_bind ?_
  unfold Builtin.SmallTypes.ownedTupleIsFree
  refine wpAny_bind (wpAny_field (x := .none) hz rfl rfl (wpAny_pure ?_))
  simp only [if_true]
  refine wpAny_bind (wpAny_rule (wpAny_bind (wpAny_field (x := .ref TO) hz rfl rfl (wpAny_bind (wpAny_setField_rec hz (by simp) fun ha hza sa => ?_)))))
  have za : IsZip ha z TI TO .ellipsis := hza
  refine wpAny_bind ?_
  simp only [List.zipIdx_cons, List.zipIdx_nil, List.forIn_cons, List.forIn_nil]
  refine wpAny_bind (wpAny_bind (wpAny_onRaise ?_))
  show wpAny _ _ (Builtin.SmallTypes.nextOf (.ref i1) >>= _) _ _ _
  cases hx : xs[n1]? with
  | none =>
    refine wpAny_bind (draw_end hh (h1.extBut sa.extBut D.i1z) (t1.extBut sa.extBut D.l1z) hx fun hb e sb he => ?_)
    obtain ⟨oe, hoe, hce⟩ := he
    have zb : IsZip hb z TI TO .ellipsis := sb _ _ D.i1z.symm za
    have ne : e ≠ z := fun q => by subst q; rw [zb] at hoe; cases hoe; simp at hce
    refine wpAny_setField_rec zb (by simp) fun hc _ sc => ?_
    refine wpAny_bind (wpAny_isInstance (T := "StopIteration") (b := true) ⟨oe, sc.extBut _ _ ne hoe, hce⟩ isSubtype_stop ?_)
    exact wpAny_pure (k hc fun c o c1 _ c3 _ q => sc.extBut _ _ c1 (sb _ _ c3 (sa.extBut _ _ c1 q)))
  | some x =>
    have hy : ys[n2]? = none := by
      rcases hend with q | q
      · rw [hx] at q; cases q
      · exact q
    refine wpAny_bind (draw_item (h1.extBut sa.extBut D.i1z) (t1.extBut sa.extBut D.l1z) hx fun hb ib sb => wpAny_pure ?_)
    have ob : IsPair hb TO a b := sb.extBut _ _ D.TOi1 (sa.extBut _ _ D.TOz hTO)
    refine wpAny_bind (wpAny_seqItems ob rfl (wpAny_bind (wpAny_updateSeq_pair ob fun hc oc sc => ?_)))
    refine wpAny_bind (wpAny_letGo (wpAny_pure ?_))
    refine wpAny_bind (wpAny_bind (wpAny_onRaise ?_))
    show wpAny _ _ (Builtin.SmallTypes.nextOf (.ref i2) >>= _) _ _ _
    refine wpAny_bind (draw_end hh (((h2.extBut sa.extBut D.i2z).extBut sb.extBut D.i12.symm).extBut sc.extBut D.TOi2.symm) (((t2.extBut sa.extBut D.l2z).extBut sb.extBut D.l2i1).extBut sc.extBut D.l2TO) hy fun hd e sd he => ?_)
    obtain ⟨oe, hoe, hce⟩ := he
    have zd : IsZip hd z TI TO .ellipsis := sd _ _ D.i2z.symm (sc.extBut _ _ D.TOz.symm (sb.extBut _ _ D.i1z.symm za))
    have ne : e ≠ z := fun q => by subst q; rw [zd] at hoe; cases hoe; simp at hce
    refine wpAny_setField_rec zd (by simp) fun hf _ sf => ?_
    refine wpAny_bind (wpAny_isInstance (T := "StopIteration") (b := true) ⟨oe, sf.extBut _ _ ne hoe, hce⟩ isSubtype_stop ?_)
    exact wpAny_pure (k hf fun c o c1 c2 c3 c4 q => sf.extBut _ _ c1 (sd _ _ c4 (sc.extBut _ _ c2 (sb.extBut _ _ c3 (sa.extBut _ _ c1 q)))))
abbrev g1 (h : Heap) (l1 : Addr) : Heap := h.push { cls := .type "tuple_iterator", data := .fields #[.ref l1, .int 0 0] }
abbrev g2 (h : Heap) (l1 l2 : Addr) : Heap := (g1 h l1).push { cls := .type "tuple_iterator", data := .fields #[.ref l2, .int 0 0] }
abbrev g3 (h : Heap) (l1 l2 : Addr) : Heap := (g2 h l1 l2).push { cls := .type "tuple", data := .seq #[.ref h.objs.size, .ref (g1 h l1).objs.size] }
abbrev g4 (h : Heap) (l1 l2 : Addr) : Heap := (g3 h l1 l2).push { cls := .type "tuple", data := .seq #[.none, .none] }
abbrev g5 (h : Heap) (l1 l2 : Addr) : Heap := (g4 h l1 l2).push { cls := .type "zip", data := .fields #[.none, .bool false, .bool false, .ref (g2 h l1 l2).objs.size, .ref (g3 h l1 l2).objs.size] }
theorem newZ (l1 l2 : Addr) (xs ys : Array Value) : Meets (Builtin.«zip.__new__» ⟨[.type "zip", .ref l1, .ref l2], []⟩) (fun _ R s => s.heap.IsTuple l1 xs ∧ s.heap.IsTuple l2 ys ∧
      R (.ok (.ret (.ref (g4 s.heap l1 l2).objs.size))) { s with heap := g5 s.heap l1 l2 }) :=
  .of_wp fun prog w A R s h => by
    obtain ⟨hp, g, d, tk, os⟩ := s
    obtain ⟨t1, t2, h⟩ := h
    have sub := sub_zip
    have q1 : Heap.IsTuple (Shared.heap ⟨hp, g, d, tk, os⟩) l1 xs := t1
    have q2 : Heap.IsTuple (Shared.heap ⟨hp.push { cls := .type "tuple_iterator", data := .fields #[.ref l1, .int 0 0] }, g, d, tk, os⟩) l2 ys := Heap.IsTuple.push t2 _
    wp_walk using wpAny_pyIter_tuple q1, wpAny_pyIter_tuple q2
    exact ⟨_, rfl, h⟩
theorem call_zip {l1 l2 : Addr} {xs ys : Array Value} {Q : Value → Shared → Prop} (t1 : s.heap.IsTuple l1 xs) (t2 : s.heap.IsTuple l2 ys)
    (k : ∀ h', ZAt h' (s.heap.objs.size + 4) (s.heap.objs.size + 2) (s.heap.objs.size + 3) s.heap.objs.size (s.heap.objs.size + 1) l1 l2 0 0 → (∀ c o, s.heap.get? c = some o → h'.get? c = some o) → Q (.ref (s.heap.objs.size + 4)) { s with heap := h' }) :
    wpAny (model prog w) A (call (.type "zip") [.ref l1, .ref l2]) Q E s := by
  refine callType_new F.called_zip (by decide) (F.typeCall_zip_2 _ _) (F.newCall_zip_2 _ _) (fun obj => F.args_object_init_3 obj _ _) F.entry_zip_new (newZ l1 l2 xs ys) ⟨t1, t2, ?_⟩
  have z1 : (g1 s.heap l1).objs.size = s.heap.objs.size + 1 := Heap.size_push ..
  have z2 : (g2 s.heap l1 l2).objs.size = s.heap.objs.size + 2 := by rw [Heap.size_push, z1]
  have z3 : (g3 s.heap l1 l2).objs.size = s.heap.objs.size + 3 := by rw [Heap.size_push, z2]
  have z4 : (g4 s.heap l1 l2).objs.size = s.heap.objs.size + 4 := by rw [Heap.size_push, z3]
  have e5 : (g5 s.heap l1 l2).get? (g4 s.heap l1 l2).objs.size = some _ := Heap.get?_push_size _ rfl
  have e4 : (g5 s.heap l1 l2).get? (g3 s.heap l1 l2).objs.size = some _ := Heap.get?_push_of_some _ (Heap.get?_push_size _ rfl)
  have e3 : (g5 s.heap l1 l2).get? (g2 s.heap l1 l2).objs.size = some _ := Heap.get?_push_of_some _ (Heap.get?_push_of_some _ (Heap.get?_push_size _ rfl))
  have e2 : (g5 s.heap l1 l2).get? (g1 s.heap l1).objs.size = some _ := Heap.get?_push_of_some _ (Heap.get?_push_of_some _ (Heap.get?_push_of_some _ (Heap.get?_push_size _ rfl)))
  have e1 : (g5 s.heap l1 l2).get? s.heap.objs.size = some _ := Heap.get?_push_of_some _ (Heap.get?_push_of_some _ (Heap.get?_push_of_some _ (Heap.get?_push_of_some _ (Heap.get?_push_size _ rfl))))
  show _ ∧ _
  rw [z2, z3, z4] at e5
  rw [z1, z2] at e3
  rw [z3] at e4
  rw [z1] at e2
  rw [z4]
  exact ⟨⟨_, e5, rfl⟩, k _ ⟨e5, e3, ⟨_, _, e4⟩, ⟨_, e1, rfl, rfl⟩, ⟨_, e2, rfl, rfl⟩⟩ fun c o x => Heap.get?_push_of_some _ (Heap.get?_push_of_some _ (Heap.get?_push_of_some _ (Heap.get?_push_of_some _ (Heap.get?_push_of_some _ x))))⟩
open PyProof.Rows in
theorem max_tup {l : Addr} {its : List Value} {ns : List Int} {Q : Value → Shared → Prop} (hh : A.handled = none) (hl : s.heap.IsTuple l its.toArray) (hi : IntsAre its ns) (hne : 0 < ns.length)
    (k : ∀ h' tk M t', (∀ b o, s.heap.get? b = some o → h'.get? b = some o) → M ∈ ns → (∀ a, a ∈ ns → a ≤ M) → Q (.int M t') { s with heap := h', toks := tk }) : wpAny (model prog w) A (call (.builtin "max") [.ref l]) Q E s := by
  obtain ⟨xs, e⟩ := hi.allInts.items
  have hn : numsOf (intItems xs).toList = ns := by rw [← e]; exact hi.numsOf
  rw [nums_intItems] at hn
  subst hn
  rw [e] at hl
  have hsz : 0 < xs.size := by simpa using hne
  have lt : l < s.heap.objs.size := by obtain ⟨o, ho, _⟩ := hl; exact Heap.lt_size ho
  refine call_max_walk (wpAny_pyIter_tuple hl ?_)
  refine ⟨_, [s.heap.objs.size, l], [s.heap.objs.size], _, _, _, _, rfl, Walks.tuple (A := A.in1) hh _ l (Nat.ne_of_lt lt) (intItems xs), ⟨⟨_, Heap.get?_push_size _ rfl, rfl, rfl⟩, hl.push _⟩, fun b hb => ?_, by simpa [intItems] using hsz, CmpOf.ints_gt (numAt xs) (fun _ _ => intItems_at), fun v h' tk hP hk => ?_⟩
  · rw [Heap.size_push]
    have hb' : b = s.heap.objs.size ∨ b = l := by simpa using hb
    rcases hb' with q | q
    · rw [q]; exact Nat.lt_succ_self _
    · rw [q]; exact Nat.lt_succ_of_lt lt
  · obtain ⟨t, rfl⟩ := intItems_at (by simpa [intItems] using hP)
    obtain ⟨h1, h2⟩ := argBest_gt (numAt xs) (xs.size - 1)
    refine k h' tk _ t (fun b o q => hk b o (by simpa using Nat.ne_of_lt (Heap.lt_size q)) (Heap.get?_push_of_some _ q)) ?_ fun a ha => ?_
    · rw [numAt_eq]
      exact PySem.getD_mem (by rw [List.length_map, Array.length_toList]; have h1' : argBest (fun i j => decide (numAt xs j < numAt xs i)) (xs.size - 1) ≤ xs.size - 1 := h1; omega)
    · obtain ⟨j, hj, rfl⟩ := mem_getD ha
      rw [List.length_map, Array.length_toList] at hj
      rw [← numAt_eq]; exact h2 j (by omega)
set_option maxHeartbeats 1000000 in
theorem ext_tup (l : Addr) (items : Array Value) (n : Nat) (b : Addr) (items2 : Array Value) (n2 : Nat) (dd : Option Addr) (sl : Array (Option Value))
    (hs0 : ¬(!items.isEmpty && Builtin.List.listTooLong (items.size + items2.size)) = true) (hs1 : items.size ≤ sizeLine) (hs2 : items.size + items2.size ≤ sizeLine + 1) :
    Meets (Builtin.«list.extend» ⟨[.ref l, .ref b], []⟩) (fun _ R s => s.heap.get? l = some { cls := .type "list", dict := none, data := .seq items n, slots := #[] } ∧ s.heap.get? b = some { cls := .type "tuple", dict := dd, data := .seq items2 n2, slots := sl } ∧
      R (.ok (.ret Value.none)) { s with heap := s.heap.update l (Obj.mapSeq fun x => x ++ items2), toks := s.toks }) :=
  .of_wp fun prog w A R s h => by
    obtain ⟨hp, g, d, tk, os⟩ := s
    obtain ⟨hl, hb, h⟩ := h
    have f1 := AutoSeq1.idx_int
    have f2 := AutoSeq1.sub_tuple_tuple
    have f3 := AutoSeq1.sub_list_list
    have f4 := AutoSeq1.sub_tuple_list
    have f5 := AutoSeq1.sub_list_tuple
    have hz' : (items ++ items2).size ≤ sizeLine + 1 := by
      rw [Array.size_append]
      exact hs2
    wp_walk using (wpAny_updateSeq hl rfl (hz := hs1) (_hz' := hz')), wpAny_loadPart' hl, wpAny_loadPart' hb
    exact ⟨_, rfl, h⟩
end
end TupIt
set_option Elab.async false
set_option linter.all false
set_option maxRecDepth 100000
namespace L2
open PySem PySem.Spec PyProof.Rows NKey
section
variable {X : Cx}
def rExtT (K : PySem.W.Frag) : V → List V → Hp → VK → Prop := fun x vs H Q => ∃ l b xs zs, x = .ref l ∧ vs = [.ref b] ∧ H l = some (.lst xs) ∧ SqT K H b zs ∧ xs.length + zs.length ≤ sizeLine ∧ Q .non (upd H l (.lst (xs ++ zs)))
theorem mt_extT : MtM X "list.extend" (rExtT X.K) := by
  intro pins s σ H x vs v us Q I rx rv h
  obtain ⟨l, b, xs, zs, rfl, rfl, hH, hB, hz, q⟩ := h
  cases rx
  obtain ⟨u, rfl, ru⟩ := rv.one
  cases ru
  obtain ⟨z, its, n, r, hl, e⟩ := I.lstM hH
  obtain ⟨its2, r2, ⟨⟨c2, dd, d2, sl⟩, e2, k2, n2, f2⟩, z2⟩ := I.tuple hB
  change c2 = .type "tuple" at k2
  change d2 = .seq its2.toArray n2 at f2
  subst k2 f2
  have l1 := r.length
  have l2 := r2.length
  have hsz : its.toArray.size + its2.toArray.size ≤ sizeLine := by rw [List.size_toArray, List.size_toArray]; omega
  refine call_meets F.slot_list_extend ⟨_, e, rfl⟩ F.entry_list_extend (F.args_list_extend_2 _ _)
    (TupIt.ext_tup l its.toArray n b its2.toArray n2 dd sl (by rw [notLongL hsz, Bool.and_false]; exact Bool.false_ne_true) (by rw [List.size_toArray]; omega) (by omega)) ⟨e, e2, ?_⟩
  refine ⟨.non, _, I.lset (its' := its ++ its2) hH e (by simp) (r.append r2) ?_, rfl, q⟩
  rw [List.length_append]
  omega
def rMaxT (K : PySem.W.Frag) : List V → Hp → VK → Prop := fun vs H Q => ∃ (a : Addr) (ns : List Int), vs = [V.ref a] ∧ SqT K H a (ns.map V.int) ∧ 0 < ns.length ∧ ∀ m, m ∈ ns → (∀ y, y ∈ ns → y ≤ m) → Q (.int m) H
theorem cr_maxT (hc : X.calm = true) : CallR X (.builtin "max") (rMaxT X.K) := by
  intro pins s σ H vs us Q I r h
  obtain ⟨a, ns, rfl, hs, hne, q⟩ := h
  obtain ⟨its, rv, ht, _⟩ := I.tuple hs
  rw [Vals.ref1 r]
  exact TupIt.max_tup (I.ok.hd hc) ht rv.ints hne fun h' tk m t' hk h1 h2 => ⟨.int _, H, I.kept hk, ⟨_, rfl⟩, q m h1 h2⟩
def tCallV (X : Cx) (k i : Nat) (t : TA) : TE := fun σ H Q => ∃ (f : Addr) (fd : FuncData) (ps : List Str) (sp : Sp), σ[i]? = some (some (.ref f)) ∧ FnOk X.prog X.w X.K X.mg X.base (fun _ _ _ _ _ _ => False) k f fd ps sp ∧
  PySem.W.keepIn X.K (.ref f) = true ∧ Binds X.K fd ps [] ∧ t σ H fun vs H1 => sp vs H1 Q fun _ _ _ => False
theorem pe_callV {k i : Nat} {x : Str} {p pos : Pos} {e : Expr} {es : List Expr} {t : TA} (hr : Room k X.A) (hN : X.N[i]? = some x) (hx : X.env.scope.names.lookup x = some .local) (ha : PA X (e :: es) t) (hdb : (x == ("__debug__" : Str)) = false := by decide) (hcd : (x == ("__classdict__" : Str)) = false := by decide)
    (he : starEach (e :: es) X.env = (false, eval e X.env) :: starEach es X.env := by rfl) (hpl : (backTo pos (starEach es X.env)).any (·.1) = false := by rfl) : PE X (.Call (.Name x p) (e :: es) [] pos) (tCallV X k i t) := by
  intro pins s σ H Q I h
  obtain ⟨f, fd, ps, sp, hσ, F, hk, hb, h⟩ := h
  refine wpAny_Call_Name_kw (thn (pe_var (X := X) hN (.inl hx) hdb hcd pins s σ H (fun v H' => v = .ref f ∧ H' = H) I ⟨_, hσ, rfl, rfl⟩) fun u s1 ⟨v, H1, I1, rv, ev, eH⟩ => ?_)
  subst ev eH
  obtain rfl : u = Value.ref f := rv
  refine PySem.W.callWith_K (h₀ := X.base) I.ok.mod.kin hk (thn (ha pos pins s1 σ H1 _ I1 h) fun us s2 ⟨vs, H2, I2, r, q⟩ => ⟨I2.kIn, ?_⟩) he hpl
  exact run_fn (dvs := []) (E := fun _ _ _ => False) F hr hb .nil (fun _ _ _ _ _ _ _ h => h.elim) I2 r (by rw [List.append_nil]; exact q)
end
def IteT (K : PySem.W.Frag) (a : Addr) : It :=
  ⟨fun i H => ∃ (xs : List V) (x : V), SqT K H a xs ∧ xs[i]? = some x, fun i H v H' => ∃ T x, v = .ref T ∧ H T = none ∧ H' = upd H T (.tup [.int (i : Nat), x]) ∧ ∀ xs, SqT K H a xs → xs[i]? = some x, fun i H => ∃ xs : List V, SqT K H a xs ∧ xs.length ≤ i⟩
theorem turn_enumT {P : Program} {w : World} {K : PySem.W.Frag} {elts : List Expr} {kk : Nat} {tpos : Pos} (a e it : Addr) (hai : a ≠ it) (hea : e ≠ a) :
    Turn P w K (.Tuple elts kk tpos) (IteT K a) [e, it] e (fun i h => (∃ old, IsEnum h e it ((i : Nat) : Int) old) ∧ h.IsTupleIter it a i ∧ e ≠ it) where
  mem := by simp
  obj := fun i h st b hb => by
    obtain ⟨⟨old, he⟩, ⟨o, ho, hc, hd⟩, _⟩ := st
    have e' : b = e ∨ b = it := by simpa using hb
    rcases e' with z | z
    · rw [z]; exact ⟨_, he, fun v q => nomatch q⟩
    · rw [z]; exact ⟨o, ho, fun v q => by rw [hd] at q; cases q⟩
  keep := fun i h h' st k => let ⟨⟨old, he⟩, hi, hne⟩ := st; ⟨⟨old, k e (by simp) _ he⟩, hi.at fun o q => k it (by simp) o q, hne⟩
  item := by
    intro X hP hw hK hc i pins s σ H E I hf st hg
    subst hP hw hK
    obtain ⟨⟨old, he⟩, hit, hne⟩ := st
    obtain ⟨xs, x, hq, hx⟩ := hg
    obtain ⟨its, rv, p, hz⟩ := I.tuple hq
    obtain ⟨u, hu, ru⟩ := rv.get hx
    have hel : e < s.heap.objs.size := Heap.lt_size he
    have hil : it < s.heap.objs.size := by obtain ⟨_, q, _⟩ := hit; exact Heap.lt_size q
    have lt : i < its.toArray.size := by
      rw [List.size_toArray]
      exact (List.getElem?_eq_some_iff.mp hu).1
    refine wpAny_pyNext_enum_itemD (TupIt.drawsT (A := X.A.in1) (I.ok.hd hc) it a hai its.toArray) he ⟨hit, p⟩ lt hne (by simp [hne, hea]) fun y h' tk hy ho hst hT hsz hk => ?_
    have ey : y = u := by
      have q1 : its.toArray[i]? = some y := hy
      rw [List.getElem?_toArray, hu] at q1
      exact (Option.some.inj q1).symm
    subst ey
    refine ⟨_, rfl, wpAny_letOwnedTupleGo_enum (s := { s with heap := h', toks := tk + 1 }) ho fun h'' he' sb => ?_⟩
    have hT2 : h''.get? s.heap.objs.size = some { cls := .type "tuple", data := .seq #[.int i tk, y] } := (sb.2 _ (Nat.ne_of_gt hel)).trans hT
    have new : ObjOk X.prog X.w (upd H s.heap.objs.size (.tup [.int (i : Nat), x])) h'' s.heap.objs.size (.tup [.int (i : Nat), x]) :=
      ⟨by show 2 ≤ sizeLine; decide, [.int i tk, y], .cons ⟨_, rfl⟩ (.cons ru .nil), ⟨_, hT2, rfl, _, rfl⟩⟩
    have I1 : Inv X pins σ (upd H s.heap.objs.size (.tup [.int (i : Nat), x])) { s with heap := h'', toks := tk + 1 } :=
      I.turnedNew (ch := [e, it]) (fun b ob hb q => (sb.2 b (fun z => hb (by simp [z]))).trans (hk b ob (fun z => hb (by simp [z])) (fun z => hb (by simp [z])) q)) hf (Nat.le_refl _) new
    refine ⟨.ref s.heap.objs.size, _, I1, rfl, ⟨_, x, rfl, I.hok.fresh (Nat.le_refl _), rfl, fun ys hy => by rw [I.tuple_inj hy hq]; exact hx⟩, ⟨⟨y, ?_⟩, hst.1.at fun o q => (sb.2 it (Ne.symm hne)).trans q, hne⟩, fun b hb => ?_⟩
    · have e1 : ((i + 1 : Nat) : Int) = (i : Int) + 1 := by omega
      rw [e1]; exact he'
    · have hb' : b < s.heap.objs.size := by
        have e' : b = e ∨ b = it := by simpa using hb
        rcases e' with z | z
        · rw [z]; exact hel
        · rw [z]; exact hil
      rw [upd_ne (Nat.ne_of_lt hb')]
      exact (hf b hb).1
  done := by
    intro X hP hw hK hc i pins s σ H E I hf st hg
    subst hP hw hK
    obtain ⟨⟨old, he⟩, hit, hne⟩ := st
    obtain ⟨xs, hq, hx⟩ := hg
    obtain ⟨its, rv, p, hz⟩ := I.tuple hq
    obtain ⟨f0, f1, f2, f3, f4, f5⟩ := hf it (by simp)
    have hl := rv.length
    have hT : s.TypeIs (.ref e) "enumerate" := ⟨_, he, rfl⟩
    unfold pyNext
    refine wpAny_bind (wpAny_attempt (wpAny_callSpecial?_slot (name := Str.ofString "__next__") hT F.slot_enumerate_next (wpAny_call_entry F.slot_enumerate_next hT F.entry_enumerate_next ?_ (F.args_enumerate_next_1 _))))
    show wpAny _ _ (field (.ref e) 2 >>= _) _ _ _
    refine wpAny_bind (wpAny_field (x := .ref it) he rfl rfl (wpAny_bind (TupIt.draw_end (I.ok.hd hc) hit p (by rw [List.getElem?_toArray]; exact List.getElem?_eq_none_iff.mpr (by omega)) fun h' x eb hx' => ?_)))
    obtain ⟨o, ho, hc'⟩ := hx'
    refine wpAny_bind (wpAny_isInstance (T := "StopIteration") (b := true) ⟨o, ho, hc'⟩ isSubtype_stop ?_)
    exact wpAny_pure ⟨rfl, I.turned (t' := s.toks) (fun b o hb q => eb b o hb q) f0 f1 f3 f4 f5⟩
  self := fun A i s Q E st h => let ⟨⟨_, he⟩, _⟩ := st; wpAny_pyIter_enum he h
def iEnumT (K : PySem.W.Frag) (ta : TA) : TI := fun σ H R => ta σ H fun vs H1 => ∃ a xs, vs = [.ref a] ∧ SqT K H1 a xs ∧ R (IteT K a) H1
theorem pi_enumT {X : Cx} {e : Expr} {ta : TA} {p pos tpos : Pos} {elts : List Expr} {kk : Nat} (hg : Gl X "enumerate") (hm : X.mg "enumerate" = none) (ha : PA X [e] ta) (hs : starEach [e] X.env = [(false, eval e X.env)] := by rfl) :
    PI X (.Tuple elts kk tpos) (.Call (.Name "enumerate" p) [e] [] pos) (iEnumT X.K ta) := by
  intro pins s σ H R I h
  refine Call_ (ld_blt I hg hm boot_enumerate (PyProof.Rows.callWith_type1 (thn (ha pos pins s σ H _ I h) fun us s1 ⟨vs, H1, I1, r1, q1⟩ => ?_) hs rfl))
  obtain ⟨a, xs, ex, hq, q⟩ := q1
  subst ex
  cases r1 with
  | cons r rr =>
    cases rr
    cases r
    obtain ⟨its, rv, p', hz⟩ := I1.tuple hq
    have la : a < s1.heap.objs.size := p'.lt
    refine TupIt.call_enum p' fun h' he hit hsz hk => wpAny_pyIter_enum he ?_
    have I2 : Inv X pins σ H1 { s1 with heap := h' } := I1.kept (t' := s1.toks) hk
    refine ⟨s1.heap.objs.size + 1, [s1.heap.objs.size + 1, s1.heap.objs.size], _, _, H1, rfl, I2, turn_enumT a (s1.heap.objs.size + 1) s1.heap.objs.size (Nat.ne_of_lt la) (Nat.ne_of_gt (Nat.lt_succ_of_lt la)), ⟨⟨.none, he⟩, hit, Nat.succ_ne_self _⟩, fun b hb => ?_, q⟩
    have e' : b = s1.heap.objs.size + 1 ∨ b = s1.heap.objs.size := by simpa using hb
    have hle : s1.heap.objs.size ≤ b := by
      rcases e' with z | z
      · rw [z]; exact Nat.le_add_right _ _
      · rw [z]; exact Nat.le_refl _
    exact I1.fpOk hle (I1.hok.fresh hle)
/-- a for over enumerate of a tuple: each turn hands a new pair -/
theorem for_enumT {K : PySem.W.Frag} {a : Addr} {xs : List V} {g : TG} {tb : TS} {D : Ends} {σ : St} {H : Hp} (Pv : Nat → St → Hp → Prop) (h0 : Pv 0 σ H) (hl : ∀ i σ H, i ≤ xs.length → Pv i σ H → SqT K H a xs)
    (hs : ∀ i x σ H T, xs[i]? = some x → H T = none → Pv i σ H → g (.ref T) σ (upd H T (.tup [.int (i : Nat), x])) fun σ2 H2 => tb { D with nx := Pv (i + 1), ct := Pv (i + 1), bk := D.nx } σ2 H2) (hd : ∀ σ H, Pv xs.length σ H → D.nx σ H) :
    ∃ W : Nat → Nat → St → Hp → Prop, (∃ m, W 0 m σ H) ∧ ∀ i m σ H, W i m σ H →
      ((IteT K a).stop i H ∧ D.nx σ H) ∨ ((IteT K a).go i H ∧ ∃ N : St → Hp → Prop, (∀ σ' H', N σ' H' → ∃ m', m' < m ∧ W (i + 1) m' σ' H') ∧ ∀ x H', (IteT K a).yld i H x H' → g x σ H' fun σ2 H2 => tb { D with nx := N, ct := N, bk := D.nx } σ2 H2) := by
  refine ⟨fun i m σ H => m = xs.length - i ∧ i ≤ xs.length ∧ Pv i σ H, ⟨xs.length, by simp, Nat.zero_le _, h0⟩, ?_⟩
  rintro i m σ H ⟨rfl, hi, p⟩
  have q := hl i σ H hi p
  by_cases hlt : i < xs.length
  · refine .inr ⟨⟨xs, xs[i], q, by simp [hlt]⟩, Pv (i + 1), fun σ' H' p' => ⟨xs.length - (i + 1), by omega, rfl, hlt, p'⟩, fun v H' y => ?_⟩
    obtain ⟨T, x, rfl, hT, rfl, y⟩ := y
    exact hs i x σ H T (y xs q) hT p
  · have e : i = xs.length := by omega
    subst e
    exact .inl ⟨⟨xs, q, Nat.le_refl _⟩, hd σ H p⟩
def ItzT (K : PySem.W.Frag) (a b : Addr) : It :=
  ⟨fun i H => ∃ (xs ys : List V) (x y : V), SqT K H a xs ∧ SqT K H b ys ∧ xs[i]? = some x ∧ ys[i]? = some y,
    fun i H v H' => ∃ T x y, v = .ref T ∧ H T = none ∧ H' = upd H T (.tup [x, y]) ∧ (∀ xs, SqT K H a xs → xs[i]? = some x) ∧ ∀ ys, SqT K H b ys → ys[i]? = some y,
    fun i H => ∃ xs ys : List V, SqT K H a xs ∧ SqT K H b ys ∧ (xs.length ≤ i ∨ ys.length ≤ i)⟩
theorem turn_zipT {P : Program} {w : World} {K : PySem.W.Frag} {elts : List Expr} {kk : Nat} {tpos : Pos} {a b z TI TO i1 i2 : Addr} (D : ZipApart z TI TO i1 i2 a b) :
    Turn P w K (.Tuple elts kk tpos) (ItzT K a b) [z, TI, TO, i1, i2] z (fun i h => TupIt.ZAt h z TI TO i1 i2 a b i i) where
  mem := by simp
  obj := fun i h st c hc => by
    obtain ⟨hz, hTI, ⟨x, y, hTO⟩, ⟨o1, e1, _, d1⟩, ⟨o2, e2, _, d2⟩⟩ := st
    have e' : c = z ∨ c = TI ∨ c = TO ∨ c = i1 ∨ c = i2 := by simpa using hc
    rcases e' with q | q | q | q | q
    · rw [q]; exact ⟨_, hz, fun v q => nomatch q⟩
    · rw [q]; exact ⟨_, hTI, fun v q => nomatch q⟩
    · rw [q]; exact ⟨_, hTO, fun v q => nomatch q⟩
    · rw [q]; exact ⟨o1, e1, fun v q => by rw [d1] at q; cases q⟩
    · rw [q]; exact ⟨o2, e2, fun v q => by rw [d2] at q; cases q⟩
  keep := fun i h h' st k => by
    obtain ⟨hz, hTI, ⟨x, y, hTO⟩, h1, h2⟩ := st
    exact ⟨k z (by simp) _ hz, k TI (by simp) _ hTI, ⟨x, y, k TO (by simp) _ hTO⟩, h1.at fun o q => k i1 (by simp) o q, h2.at fun o q => k i2 (by simp) o q⟩
  item := by
    intro X hP hw hK hc i pins s σ H E I hf st hg
    subst hP hw hK
    have st' := st
    obtain ⟨hz, hTI, ⟨x0, y0, hTO⟩, h1, h2⟩ := st'
    obtain ⟨xs, ys, x, y, hqx, hqy, hx, hy⟩ := hg
    obtain ⟨its, rv, p, _⟩ := I.tuple hqx
    obtain ⟨its2, rv2, p2, _⟩ := I.tuple hqy
    obtain ⟨u, hu, ru⟩ := rv.get hx
    obtain ⟨u2, hu2, ru2⟩ := rv2.get hy
    have hzl : z < s.heap.objs.size := Heap.lt_size hz
    refine TupIt.zip_item D st p p2 (x := u) (y := u2) (by simpa using hu) (by simpa using hu2) fun h' z' TO' h1' h2' hT hk => ?_
    refine ⟨_, rfl, wpAny_letOwnedTupleGo_zip (s := { s with heap := h' }) z' fun h'' z'' sb => ?_⟩
    have hT2 : h''.get? s.heap.objs.size = some { cls := .type "tuple", data := .seq #[u, u2] } := (sb.2 _ (Nat.ne_of_gt hzl)).trans hT
    have new : ObjOk X.prog X.w (upd H s.heap.objs.size (.tup [x, y])) h'' s.heap.objs.size (.tup [x, y]) :=
      ⟨by show 2 ≤ sizeLine; decide, [u, u2], .cons ru (.cons ru2 .nil), ⟨_, hT2, rfl, _, rfl⟩⟩
    have I1 : Inv X pins σ (upd H s.heap.objs.size (.tup [x, y])) { s with heap := h'' } :=
      I.turnedNew (t' := s.toks) (ch := [z, TI, TO, i1, i2]) (fun c o hb q => (sb.2 c (fun q' => hb (by simp [q']))).trans (hk c o (fun q' => hb (by simp [q'])) (fun q' => hb (by simp [q'])) (fun q' => hb (by simp [q'])) (fun q' => hb (by simp [q'])) q)) hf (Nat.le_refl _) new
    refine ⟨.ref s.heap.objs.size, _, I1, rfl, ⟨_, x, y, rfl, I.hok.fresh (Nat.le_refl _), rfl, fun l hl => by rw [I.tuple_inj hl hqx]; exact hx, fun l hl => by rw [I.tuple_inj hl hqy]; exact hy⟩, ⟨z'', ?_, ⟨u, u2, ?_⟩, ?_, ?_⟩, fun c hcm => ?_⟩
    · exact (sb.2 _ D.TIz).trans (hk _ _ D.TIz D.TITO D.TIi1 D.TIi2 hTI)
    · exact (sb.2 _ D.TOz).trans TO'
    · exact h1'.at fun o q => (sb.2 _ D.i1z).trans q
    · exact h2'.at fun o q => (sb.2 _ D.i2z).trans q
    · have hlt : c < s.heap.objs.size := by
        have e' : c = z ∨ c = TI ∨ c = TO ∨ c = i1 ∨ c = i2 := by simpa using hcm
        rcases e' with q | q | q | q | q
        · rw [q]; exact hzl
        · rw [q]; exact Heap.lt_size hTI
        · rw [q]; exact Heap.lt_size hTO
        · rw [q]; obtain ⟨_, e1, _⟩ := h1; exact Heap.lt_size e1
        · rw [q]; obtain ⟨_, e2, _⟩ := h2; exact Heap.lt_size e2
      rw [upd_ne (Nat.ne_of_lt hlt)]
      exact (hf c hcm).1
  done := by
    intro X hP hw hK hc i pins s σ H E I hf st hg
    subst hP hw hK
    obtain ⟨xs, ys, hqx, hqy, hend⟩ := hg
    obtain ⟨its, rv, p, _⟩ := I.tuple hqx
    obtain ⟨its2, rv2, p2, _⟩ := I.tuple hqy
    have l1 := rv.length
    have l2 := rv2.length
    have he : its.toArray[i]? = none ∨ its2.toArray[i]? = none := by
      rcases hend with q | q
      · exact .inl (by simp; omega)
      · exact .inr (by simp; omega)
    exact TupIt.zip_end (I.ok.hd hc) D st p p2 he fun h' hk => ⟨rfl, I.turnedL (t' := s.toks) (ch := [z, TI, TO, i1, i2]) (fun c o hb q =>
      hk c o (fun q' => hb (by simp [q'])) (fun q' => hb (by simp [q'])) (fun q' => hb (by simp [q'])) (fun q' => hb (by simp [q'])) q) hf⟩
  self := fun A i s Q E st h => wpAny_pyIter_zip st.z h
def iZipT (K : PySem.W.Frag) (ta : TA) : TI := fun σ H R => ta σ H fun vs H1 => ∃ a b xs ys, vs = [.ref a, .ref b] ∧ SqT K H1 a xs ∧ SqT K H1 b ys ∧ R (ItzT K a b) H1
theorem pi_zipT {X : Cx} {e e2 : Expr} {ta : TA} {p pos tpos : Pos} {elts : List Expr} {kk : Nat} (hg : Gl X "zip") (hm : X.mg "zip" = none) (ha : PA X [e, e2] ta)
    (hs : starEach [e, e2] X.env = (false, eval e X.env) :: starEach [e2] X.env := by rfl) (hpl : (backTo pos (starEach [e2] X.env)).any (·.1) = false := by rfl) :
    PI X (.Tuple elts kk tpos) (.Call (.Name "zip" p) [e, e2] [] pos) (iZipT X.K ta) := by
  intro pins s σ H R I h
  refine Call_ (ld_blt I hg hm boot_zip5 (PyProof.Rows.callWith_type1 (thn (ha pos pins s σ H _ I h) fun us s1 ⟨vs, H1, I1, r1, q1⟩ => ?_) hs hpl))
  obtain ⟨a, b, xs, ys, ex, hqx, hqy, q⟩ := q1
  subst ex
  cases r1 with
  | cons r rr =>
    cases rr with
    | cons r' rr =>
      cases rr
      cases r
      cases r'
      obtain ⟨its, rv, p1, _⟩ := I1.tuple hqx
      obtain ⟨its2, rv2, p2, _⟩ := I1.tuple hqy
      have la : a < s1.heap.objs.size := p1.lt
      have lb : b < s1.heap.objs.size := p2.lt
      refine TupIt.call_zip p1 p2 fun h' hz hk => wpAny_pyIter_zip hz.z ?_
      have I2 : Inv X pins σ H1 { s1 with heap := h' } := I1.kept (t' := s1.toks) hk
      refine ⟨s1.heap.objs.size + 4, [s1.heap.objs.size + 4, s1.heap.objs.size + 2, s1.heap.objs.size + 3, s1.heap.objs.size, s1.heap.objs.size + 1], _, _, H1, rfl, I2, turn_zipT (PySem.W.ktu_apart s1.heap.objs.size a b la lb), hz, fun c hcm => ?_, q⟩
      have e' : c = s1.heap.objs.size + 4 ∨ c = s1.heap.objs.size + 2 ∨ c = s1.heap.objs.size + 3 ∨ c = s1.heap.objs.size ∨ c = s1.heap.objs.size + 1 := by simpa using hcm
      have hle : s1.heap.objs.size ≤ c := by
        rcases e' with z | z | z | z | z
        · rw [z]; exact Nat.le_add_right _ _
        · rw [z]; exact Nat.le_add_right _ _
        · rw [z]; exact Nat.le_add_right _ _
        · rw [z]; exact Nat.le_refl _
        · rw [z]; exact Nat.le_add_right _ _
      exact I1.fpOk hle (I1.hok.fresh hle)
/-- a comprehension over zip of two tuples, the second no longer than the first -/
theorem lc_zipT {K : PySem.W.Frag} {a b : Addr} {xs ys : List V} {g : TG} {tt : TT} {te : TE} {vs : List Nat} {σ : St} {H1 : Hp} {D : Addr} {Qd : Hp → Prop} (hle : ys.length ≤ xs.length) (Pv : Nat → Hp → Prop) (h0 : Pv 0 (upd H1 D (.lst []))) (hl : ∀ i H, i ≤ ys.length → Pv i H → SqT K H a xs ∧ SqT K H b ys)
    (hs : ∀ i x y H T, xs[i]? = some x → ys[i]? = some y → H T = none → Pv i H → g (.ref T) (wipe σ vs) (upd H T (.tup [x, y])) fun σ2 H2 => wipe σ2 vs = wipe σ vs ∧ tt σ2 H2 fun b H3 =>
      if b = true then te σ2 H3 fun y H4 => ∃ acc, H4 D = some (.lst acc) ∧ acc.length < sizeLine ∧ Pv (i + 1) (upd H4 D (.lst (acc ++ [y]))) else Pv (i + 1) H3) (hd : ∀ H, Pv ys.length H → Qd H) :
    ∃ W : Nat → Nat → Hp → Prop, (∃ m, W 0 m (upd H1 D (.lst []))) ∧ ∀ i m H, W i m H →
      ((ItzT K a b).stop i H ∧ Qd H) ∨ ((ItzT K a b).go i H ∧ ∃ Nx : Hp → Prop, (∀ H', Nx H' → ∃ m', m' < m ∧ W (i + 1) m' H') ∧ ∀ x H', (ItzT K a b).yld i H x H' → g x (wipe σ vs) H' fun σ2 H2 => wipe σ2 vs = wipe σ vs ∧ tt σ2 H2 fun b H3 =>
        if b = true then te σ2 H3 fun y H4 => ∃ acc, H4 D = some (.lst acc) ∧ acc.length < sizeLine ∧ Nx (upd H4 D (.lst (acc ++ [y]))) else Nx H3) := by
  refine ⟨fun i m H => m = ys.length - i ∧ i ≤ ys.length ∧ Pv i H, ⟨ys.length, by simp, Nat.zero_le _, h0⟩, ?_⟩
  rintro i m H ⟨rfl, hi, p⟩
  obtain ⟨q, q'⟩ := hl i H hi p
  by_cases hlt : i < ys.length
  · have hlt' : i < xs.length := Nat.lt_of_lt_of_le hlt hle
    refine .inr ⟨⟨xs, ys, xs[i], ys[i], q, q', by simp [hlt'], by simp [hlt]⟩, Pv (i + 1), fun H' p' => ⟨ys.length - (i + 1), by omega, rfl, hlt, p'⟩, fun v H' y => ?_⟩
    obtain ⟨T, x, y, rfl, hT, rfl, y1, y2⟩ := y
    exact hs i x y H T (y1 xs q) (y2 ys q') hT p
  · have e : i = ys.length := by omega
    subst e
    exact .inl ⟨⟨xs, ys, q, q', .inr (Nat.le_refl _)⟩, hd H p⟩
end L2
section
set_option Elab.async false
set_option linter.all false
set_option maxRecDepth 100000
set_option maxHeartbeats 2000000
namespace L2
open PySem PySem.Spec PyProof.Rows
open PySem.W (WData Codec OpenSpec Well WellAll ReadsW ReadsAllW)
mutual
/-- x stands for the datum d, lists and tuples all the way -/
inductive Dw (K : PySem.W.Frag) (H : Hp) : V → WData → Prop
  | non : Dw K H .non .none
  | bl (b : Bool) : Dw K H (.bl b) (.bool b)
  | int (i : Int) : Dw K H (.int i) (.int i)
  | str (x : Str) : Dw K H (.str x) (.str x)
  | byt (b : Array UInt8) : Dw K H (.byt b) (.bytes b.toList)
  | lst {a : Addr} {xs : List V} {ds : List WData} : SqL K H a xs → DwAll K H xs ds → Dw K H (.ref a) (.list ds)
  | tup {a : Addr} {xs : List V} {ds : List WData} : SqT K H a xs → DwAll K H xs ds → Dw K H (.ref a) (.tuple ds)
inductive DwAll (K : PySem.W.Frag) (H : Hp) : List V → List WData → Prop
  | nil : DwAll K H [] []
  | cons {v : V} {vs : List V} {d : WData} {ds : List WData} : Dw K H v d → DwAll K H vs ds → DwAll K H (v :: vs) (d :: ds)
end
theorem dw_ints {K : PySem.W.Frag} {H : Hp} : ∀ ns : List Int, DwAll K H (ns.map V.int) (ns.map WData.int)
  | [] => .nil
  | n :: r => .cons (.int n) (dw_ints r)
theorem ints_dw {K : PySem.W.Frag} {H : Hp} : ∀ (ns : List Int) (xs : List V), DwAll K H xs (ns.map WData.int) → xs = ns.map V.int
  | [], xs, h => by
    cases h
    rfl
  | n :: r, xs, h => by
    cases h with
    | cons h1 h2 =>
      cases h1
      rw [ints_dw r _ h2] <;> rfl
section
variable {P : Program} {w : World} {K : PySem.W.Frag} {H : Hp} {h : Heap} {R : PySem.W.WRecords} {cl : Str → Option Addr}
theorem sqL_at {a : Addr} {xs : List V} (hok : HOk P w H h) (KX : K.In h) (q : SqL K H a xs) : ∃ (its : List Value) (o : Obj) (n : Nat), Vals xs its ∧ h.get? a = some o ∧ o.cls = .type "list" ∧ o.data = .seq its.toArray n := by
  rcases q with q | ⟨o, its, n, e, hc, _, hd, _, hv⟩
  · obtain ⟨_, its, n, hv, e⟩ := (show ObjOk P w H h a (.lst xs) from q.ok hok)
    exact ⟨its, _, n, hv, e, rfl, rfl⟩
  · exact ⟨its.toList, o, n, hv, KX _ _ e, hc, by simp [hd]⟩
theorem sqT_at {a : Addr} {xs : List V} (hok : HOk P w H h) (KX : K.In h) (q : SqT K H a xs) : ∃ (its : List Value) (o : Obj) (n : Nat), Vals xs its ∧ h.get? a = some o ∧ o.cls = .type "tuple" ∧ o.data = .seq its.toArray n := by
  rcases q with q | ⟨o, its, n, e, hc, hd, _, hv⟩
  · obtain ⟨_, its, hv, o, e, hc, n, hd⟩ := (show ObjOk P w H h a (.tup xs) from q.ok hok)
    exact ⟨its, o, n, hv, e, hc, hd⟩
  · exact ⟨its.toList, o, n, hv, KX _ _ e, hc, by simp [hd]⟩
mutual
theorem Dw.reads (hok : HOk P w H h) (KX : K.In h) : ∀ (d : WData) (v : V) (u : Value), Dw K H v d → RelV v u → ∃ as, ReadsW R cl h u d as
  | .none, _, _, x, r => by
    cases x
    cases r
    exact ⟨_, ReadsW.none⟩
  | .bool b, _, _, x, r => by
    cases x
    cases r
    exact ⟨_, ReadsW.bool b⟩
  | .int i, _, _, x, r => by
    cases x
    obtain ⟨t, rfl⟩ := r
    exact ⟨_, ReadsW.int i t⟩
  | .str s, _, _, x, r => by
    cases x
    obtain ⟨t, rfl⟩ := r
    exact ⟨_, ReadsW.str s t⟩
  | .bytes b, _, _, x, r => by
    cases x
    obtain ⟨t, rfl⟩ := r
    exact ⟨_, ReadsW.bytes _ t⟩
  | .list ds, _, _, x, r => by
    cases x with
    | lst hs ha =>
      cases r
      obtain ⟨its, o, n, rv, ho, hc, hd⟩ := sqL_at hok KX hs
      obtain ⟨as, hr⟩ := Dw.readsAll hok KX ds _ its ha rv
      exact ⟨_, ReadsW.list ho hc hd hr⟩
  | .tuple ds, _, _, x, r => by
    cases x with
    | tup hs ha =>
      cases r
      obtain ⟨its, o, n, rv, ho, hc, hd⟩ := sqT_at hok KX hs
      obtain ⟨as, hr⟩ := Dw.readsAll hok KX ds _ its ha rv
      exact ⟨_, ReadsW.tuple ho hc hd hr⟩
  | .float _, _, _, x, _ => by cases x
  | .dict _, _, _, x, _ => by cases x
  | .bytearray _, _, _, x, _ => by cases x
  | .set _, _, _, x, _ => by cases x
  | .frozenset _, _, _, x, _ => by cases x
  | .obj _ _, _, _, x, _ => by cases x
theorem Dw.readsAll (hok : HOk P w H h) (KX : K.In h) : ∀ (ds : List WData) (vs : List V) (us : List Value), DwAll K H vs ds → Vals vs us → ∃ as, ReadsAllW R cl h us ds as
  | [], _, _, x, r => by
    cases x
    cases r
    exact ⟨_, ReadsAllW.nil⟩
  | d :: ds, _, _, x, r => by
    cases x with
    | cons h1 h2 =>
      cases r with
      | cons r1 r2 =>
        obtain ⟨as, q1⟩ := Dw.reads hok KX d _ _ h1 r1
        obtain ⟨bs, q2⟩ := Dw.readsAll hok KX ds _ _ h2 r2
        exact ⟨_, ReadsAllW.cons q1 q2⟩
end
end
mutual
/-- data that a codec tells -/
def plW : WData → Bool
  | .none => true
  | .bool _ => true
  | .int _ => true
  | .str _ => true
  | .bytes _ => true
  | .list xs => plWs xs
  | .tuple xs => plWs xs
  | _ => false
def plWs : List WData → Bool
  | [] => true
  | x :: r => plW x && plWs r
end
theorem plWs_map {α : Type} {f : α → WData} (h : ∀ a, plW (f a) = true) : ∀ l : List α, plWs (l.map f) = true
  | [] => rfl
  | x :: r => by
    show (plW (f x) && plWs (r.map f)) = true
    rw [h x, plWs_map h r] <;> rfl
theorem pl_enc : ∀ (c : Codec) (a : c.denote), plW (c.enc a) = true
  | .unit, _ => rfl
  | .bool, _ => rfl
  | .int _ _, _ => rfl
  | .nat _ _, _ => rfl
  | .u8, _ => rfl
  | .bytes _ _, _ => rfl
  | .text _ _ _ _, _ => rfl
  | .list _ _ c, a => plWs_map (fun x => pl_enc c x) a
  | .pair c d, a => by
    show (plW (c.enc a.1) && (plW (d.enc a.2) && true)) = true
    rw [pl_enc c a.1, pl_enc d a.2] <;> rfl
  | .triple c d e, a => by
    show (plW (c.enc a.1) && (plW (d.enc a.2.1) && (plW (e.enc a.2.2) && true))) = true
    rw [pl_enc c a.1, pl_enc d a.2.1, pl_enc e a.2.2] <;> rfl
  | .option c, none => rfl
  | .option c, some x => pl_enc c x
theorem pl_encAll : ∀ (cs : List Codec) (a : Codec.denoteAll cs), plWs (Codec.encAll cs a) = true
  | [], _ => rfl
  | c :: cs, a => by
    show (plW (c.enc a.1) && plWs (Codec.encAll cs a.2)) = true
    rw [pl_enc c a.1, pl_encAll cs a.2] <;> rfl
theorem weight_mem : ∀ {xs : List WData} {d : WData}, d ∈ xs → d.weight ≤ WData.weightAll xs
  | [], d, h => absurd h (by simp)
  | x :: r, d, h => by
    show d.weight ≤ x.weight + 1 + WData.weightAll r
    rcases List.mem_cons.mp h with e | m
    · rw [e]
      omega
    · have z := weight_mem m
      omega
def toV : Value → V
  | .none => .non
  | .bool b => .bl b
  | .int i _ => .int i
  | .str x _ => .str x
  | .bytes b _ => .byt b
  | .ref a => .ref a
  | _ => .non
/-- a value of the arguments, its objects among A -/
def OkU (A : List Addr) : Value → Prop
  | .none => True
  | .bool _ => True
  | .int _ _ => True
  | .str _ _ => True
  | .bytes _ _ => True
  | .ref a => a ∈ A
  | _ => False
theorem OkU.mono {A B : List Addr} (h : ∀ a ∈ A, a ∈ B) : ∀ {u : Value}, OkU A u → OkU B u := fun {u} x => by
  cases u with
  | ref a => exact h a x
  | none => trivial
  | bool b => trivial
  | int i t => trivial
  | str s t => trivial
  | bytes b t => trivial
  | _ => exact False.elim x
theorem relV_toV {A : List Addr} {u : Value} (x : OkU A u) : RelV (toV u) u := by
  cases u with
  | ref a => rfl
  | none => rfl
  | bool b => rfl
  | int i t => exact ⟨t, rfl⟩
  | str s t => exact ⟨t, rfl⟩
  | bytes b t => exact ⟨t, rfl⟩
  | _ => exact False.elim x
theorem vals_toV {A : List Addr} : ∀ {vs : List Value}, (∀ u ∈ vs, OkU A u) → Vals (vs.map toV) vs
  | [], _ => .nil
  | u :: r, h => .cons (relV_toV (h u (List.mem_cons_self ..))) (vals_toV fun x hx => h x (List.mem_cons_of_mem _ hx))
/-- an object of the arguments -/
def ArgOb (h : Heap) (A : List Addr) (a : Addr) : Prop := ∃ vs : List Value, vs.length ≤ sizeLine ∧ (∀ u ∈ vs, OkU A u) ∧
  (h.get? a = some { cls := .type "list", data := .seq vs.toArray } ∨ h.get? a = some { cls := .type "tuple", data := .seq vs.toArray })
theorem ArgOb.mono {h : Heap} {A B : List Addr} {a : Addr} (k : ∀ a ∈ A, a ∈ B) (x : ArgOb h A a) : ArgOb h B a := by
  obtain ⟨vs, h1, h2, h3⟩ := x
  exact ⟨vs, h1, fun u hu => (h2 u hu).mono k, h3⟩
theorem wellAll_len {P : Params} {h : Heap} : ∀ {vs : List Value} {ds : List WData}, WellAll P h vs ds → vs.length = ds.length
  | _, _, .nil => rfl
  | _, _, .cons _ b => by
    show _ + 1 = _ + 1
    rw [wellAll_len b]
theorem well_list {P : Params} {h : Heap} {v : Value} {ds : List WData} (x : Well P h v (.list ds)) : ∃ (a : Addr) (vs : List Value), v = .ref a ∧ h.get? a = some { cls := .type "list", data := .seq vs.toArray } ∧ WellAll P h vs ds := by
  cases x with
  | list ho hall => exact ⟨_, _, rfl, ho, hall⟩
theorem well_tuple {P : Params} {h : Heap} {v : Value} {ds : List WData} (x : Well P h v (.tuple ds)) : ∃ (a : Addr) (vs : List Value), v = .ref a ∧ h.get? a = some { cls := .type "tuple", data := .seq vs.toArray } ∧ WellAll P h vs ds := by
  cases x with
  | tuple ho hall => exact ⟨_, _, rfl, ho, hall⟩
theorem well_cons {P : Params} {h : Heap} {us : List Value} {d : WData} {ds : List WData} (x : WellAll P h us (d :: ds)) : ∃ (v : Value) (vs : List Value), us = v :: vs ∧ Well P h v d ∧ WellAll P h vs ds := by
  cases x with
  | cons a b => exact ⟨_, _, rfl, a, b⟩
theorem line_of {n : Nat} (h : n ≤ 1048576) : n ≤ sizeLine := Nat.le_trans h (by decide)
section
variable {P : Params} {h : Heap}
mutual
theorem area_one : ∀ (d : WData) (v : Value), Well P h v d → plW d = true → d.weight ≤ 1048576 → ∃ A : List Addr, OkU A v ∧ ∀ a ∈ A, ArgOb h A a
  | .none, _, x, _, _ => by
    cases x
    exact ⟨[], trivial, fun a m => absurd m (by simp)⟩
  | .bool b, _, x, _, _ => by
    cases x
    exact ⟨[], trivial, fun a m => absurd m (by simp)⟩
  | .int i, _, x, _, _ => by
    cases x
    exact ⟨[], trivial, fun a m => absurd m (by simp)⟩
  | .str s, _, x, _, _ => by
    cases x
    exact ⟨[], trivial, fun a m => absurd m (by simp)⟩
  | .bytes b, _, x, _, _ => by
    cases x
    exact ⟨[], trivial, fun a m => absurd m (by simp)⟩
  | .list ds, _, x, p, z => by
    obtain ⟨a, vs, rfl, ho, hall⟩ := well_list x
    have z2 : WData.weightAll ds ≤ 1048576 := z
    obtain ⟨A, h1, h2⟩ := area_all ds _ hall p fun d hd => Nat.le_trans (weight_mem hd) z2
    have k : ∀ b ∈ A, b ∈ a :: A := fun b hb => List.mem_cons_of_mem _ hb
    refine ⟨a :: A, List.mem_cons_self .., fun b hb => ?_⟩
    rcases List.mem_cons.mp hb with e | m
    · rw [e]
      exact ⟨vs, line_of (by rw [wellAll_len hall]; exact Nat.le_trans (PySem.W.length_le_weightAllW ds) z2), fun u hu => (h1 u hu).mono k, .inl ho⟩
    · exact (h2 b m).mono k
  | .tuple ds, _, x, p, z => by
    obtain ⟨a, vs, rfl, ho, hall⟩ := well_tuple x
    have z2 : WData.weightAll ds ≤ 1048576 := z
    obtain ⟨A, h1, h2⟩ := area_all ds _ hall p fun d hd => Nat.le_trans (weight_mem hd) z2
    have k : ∀ b ∈ A, b ∈ a :: A := fun b hb => List.mem_cons_of_mem _ hb
    refine ⟨a :: A, List.mem_cons_self .., fun b hb => ?_⟩
    rcases List.mem_cons.mp hb with e | m
    · rw [e]
      exact ⟨vs, line_of (by rw [wellAll_len hall]; exact Nat.le_trans (PySem.W.length_le_weightAllW ds) z2), fun u hu => (h1 u hu).mono k, .inr ho⟩
    · exact (h2 b m).mono k
  | .float _, _, _, p, _ => Bool.noConfusion (show false = true from p)
  | .dict _, _, _, p, _ => Bool.noConfusion (show false = true from p)
  | .bytearray _, _, _, p, _ => Bool.noConfusion (show false = true from p)
  | .set _, _, _, p, _ => Bool.noConfusion (show false = true from p)
  | .frozenset _, _, _, p, _ => Bool.noConfusion (show false = true from p)
  | .obj _ _, _, _, p, _ => Bool.noConfusion (show false = true from p)
theorem area_all : ∀ (ds : List WData) (vs : List Value), WellAll P h vs ds → plWs ds = true → (∀ d ∈ ds, d.weight ≤ 1048576) → ∃ A : List Addr, (∀ u ∈ vs, OkU A u) ∧ ∀ a ∈ A, ArgOb h A a
  | [], _, x, _, _ => by
    cases x
    exact ⟨[], fun u m => absurd m (by simp), fun a m => absurd m (by simp)⟩
  | d :: ds, _, x, p, z => by
    obtain ⟨v, vs, rfl, x1, x2⟩ := well_cons x
    have q : plW d = true ∧ plWs ds = true := Bool.and_eq_true_iff.mp p
    obtain ⟨A, a1, a2⟩ := area_one d v x1 q.1 (z d (List.mem_cons_self ..))
    obtain ⟨B, b1, b2⟩ := area_all ds vs x2 q.2 fun e he => z e (List.mem_cons_of_mem _ he)
    have kA : ∀ b ∈ A, b ∈ A ++ B := fun b hb => List.mem_append.mpr (.inl hb)
    have kB : ∀ b ∈ B, b ∈ A ++ B := fun b hb => List.mem_append.mpr (.inr hb)
    refine ⟨A ++ B, fun u hu => ?_, fun b hb => ?_⟩
    · rcases List.mem_cons.mp hu with e | m
      · rw [e]
        exact a1.mono kA
      · exact (b1 u m).mono kB
    · rcases List.mem_append.mp hb with m | m
      · exact (a2 b m).mono kA
      · exact (b2 b m).mono kB
end
end
/-- what is tracked of an argument's object -/
def hoOf (o : Obj) : Option HO := match o.data with
  | .seq vs _ => if (o.cls == Value.type "list") = true then some (.frz o (.lst (vs.toList.map toV))) else some (.frz o (.tup (vs.toList.map toV)))
  | _ => none
def argH (K : PySem.W.Frag) (h : Heap) (A : List Addr) : Hp := fun b => if b ∈ A then (if (K.lookup b).isNone = true then (h.get? b).bind hoOf else none) else none
/-- nothing is tracked but what is known to the object -/
def OnlyF (H : Hp) : Prop := ∀ b, H b = none ∨ ∃ o u, H b = some (.frz o u)
theorem hoOf_lst (vs : List Value) : hoOf { cls := .type "list", data := .seq vs.toArray } = some (.frz { cls := .type "list", data := .seq vs.toArray } (.lst (vs.map toV))) := by
  show (if (Value.type "list" == Value.type "list") = true then some (HO.frz { cls := .type "list", data := .seq vs.toArray } (.lst (vs.toArray.toList.map toV))) else some (HO.frz { cls := .type "list", data := .seq vs.toArray } (.tup (vs.toArray.toList.map toV)))) = _
  rw [if_pos (beq_self_eq_true _)]
theorem hoOf_tup (vs : List Value) : hoOf { cls := .type "tuple", data := .seq vs.toArray } = some (.frz { cls := .type "tuple", data := .seq vs.toArray } (.tup (vs.map toV))) := by
  show (if (Value.type "tuple" == Value.type "list") = true then some (HO.frz { cls := .type "tuple", data := .seq vs.toArray } (.lst (vs.toArray.toList.map toV))) else some (HO.frz { cls := .type "tuple", data := .seq vs.toArray } (.tup (vs.toArray.toList.map toV)))) = _
  rw [if_neg (by decide)]
section
variable {P : Program} {w : World} {K : PySem.W.Frag} {h : Heap} {A : List Addr}
theorem argH_at {b : Addr} {o : Obj} (hb : b ∈ A) (hk : K.lookup b = none) (e : h.get? b = some o) : argH K h A b = hoOf o := by
  unfold argH
  rw [if_pos hb, hk, if_pos (show (none : Option Obj).isNone = true from rfl), e] <;> rfl
theorem of_argH {b : Addr} {u : HO} (q : argH K h A b = some u) : b ∈ A ∧ K.lookup b = none := by
  unfold argH at q
  by_cases hb : b ∈ A
  · rw [if_pos hb] at q
    cases hk : K.lookup b with
    | none => exact ⟨hb, rfl⟩
    | some o =>
      rw [hk, if_neg (by simp)] at q
      cases q
  · rw [if_neg hb] at q
    cases q
/-- what stands tracked -/
theorem argH_is (ar : ∀ a ∈ A, ArgOb h A a) {b : Addr} {u : HO} (q : argH K h A b = some u) : K.lookup b = none ∧ ∃ vs : List Value, vs.length ≤ sizeLine ∧ (∀ u ∈ vs, OkU A u) ∧
    ((h.get? b = some { cls := .type "list", data := .seq vs.toArray } ∧ u = .frz { cls := .type "list", data := .seq vs.toArray } (.lst (vs.map toV))) ∨
     (h.get? b = some { cls := .type "tuple", data := .seq vs.toArray } ∧ u = .frz { cls := .type "tuple", data := .seq vs.toArray } (.tup (vs.map toV)))) := by
  obtain ⟨hb, hk⟩ := of_argH q
  obtain ⟨vs, h1, h2, h3⟩ := ar b hb
  refine ⟨hk, vs, h1, h2, ?_⟩
  rcases h3 with e | e
  · rw [argH_at hb hk e, hoOf_lst] at q
    exact .inl ⟨e, (Option.some.inj q).symm⟩
  · rw [argH_at hb hk e, hoOf_tup] at q
    exact .inr ⟨e, (Option.some.inj q).symm⟩
theorem argH_only (ar : ∀ a ∈ A, ArgOb h A a) : OnlyF (argH K h A) := fun b => by
  cases q : argH K h A b with
  | none => exact .inl rfl
  | some u =>
    obtain ⟨_, vs, _, _, ⟨_, e⟩ | ⟨_, e⟩⟩ := argH_is ar q
    · exact .inr ⟨_, _, by rw [e]⟩
    · exact .inr ⟨_, _, by rw [e]⟩
theorem argH_ok (ar : ∀ a ∈ A, ArgOb h A a) : HOk P w (argH K h A) h := fun b u q => by
  obtain ⟨_, vs, h1, h2, ⟨e, rfl⟩ | ⟨e, rfl⟩⟩ := argH_is ar q
  · exact ⟨e, by rw [List.length_map]; exact h1, vs, _, vals_toV h2, e⟩
  · exact ⟨e, by rw [List.length_map]; exact h1, vs, vals_toV h2, _, e, rfl, _, rfl⟩
theorem seq_inj {c c' : Value} {vs us : List Value} (e : (some { cls := c, data := .seq vs.toArray } : Option Obj) = some { cls := c', data := .seq us.toArray }) : c = c' ∧ vs = us := by
  have e1 := Option.some.inj e
  have e2 : c = c' := congrArg Obj.cls e1
  have e3 : Data.seq vs.toArray = Data.seq us.toArray := congrArg Obj.data e1
  injection e3 with e4
  refine ⟨e2, ?_⟩
  have e5 := congrArg Array.toList e4
  simpa using e5
/-- a list argument -/
theorem argL (KX : K.In h) (ar : ∀ a ∈ A, ArgOb h A a) {a : Addr} {vs : List Value} (ha : a ∈ A) (e : h.get? a = some { cls := .type "list", data := .seq vs.toArray }) : (∀ u ∈ vs, OkU A u) ∧ SqL K (argH K h A) a (vs.map toV) := by
  obtain ⟨us, h1, h2, h3⟩ := ar a ha
  have hu : us = vs := by
    rcases h3 with q | q
    · rw [e] at q
      exact (seq_inj q).2.symm
    · rw [e] at q
      exact absurd (Value.type.inj (seq_inj q).1) (by decide)
  subst hu
  refine ⟨h2, ?_⟩
  cases hk : K.lookup a with
  | none => exact .inl (.inr ⟨_, by rw [argH_at ha hk e, hoOf_lst]⟩)
  | some o =>
    have e2 := KX a o hk
    rw [e] at e2
    obtain rfl := Option.some.inj e2
    exact .inr ⟨_, us.toArray, _, hk, rfl, rfl, rfl, by rw [List.size_toArray]; exact h1, by simpa using vals_toV h2⟩
theorem argT (KX : K.In h) (ar : ∀ a ∈ A, ArgOb h A a) {a : Addr} {vs : List Value} (ha : a ∈ A) (e : h.get? a = some { cls := .type "tuple", data := .seq vs.toArray }) : (∀ u ∈ vs, OkU A u) ∧ SqT K (argH K h A) a (vs.map toV) := by
  obtain ⟨us, h1, h2, h3⟩ := ar a ha
  have hu : us = vs := by
    rcases h3 with q | q
    · rw [e] at q
      exact absurd (Value.type.inj (seq_inj q).1) (by decide)
    · rw [e] at q
      exact (seq_inj q).2.symm
  subst hu
  refine ⟨h2, ?_⟩
  cases hk : K.lookup a with
  | none => exact .inl (.inr ⟨_, by rw [argH_at ha hk e, hoOf_tup]⟩)
  | some o =>
    have e2 := KX a o hk
    rw [e] at e2
    obtain rfl := Option.some.inj e2
    exact .inr ⟨_, us.toArray, _, hk, rfl, rfl, by rw [List.size_toArray]; exact h1, by simpa using vals_toV h2⟩
mutual
theorem dw_one {Pm : Params} (KX : K.In h) (ar : ∀ a ∈ A, ArgOb h A a) : ∀ (d : WData) (v : Value), Well Pm h v d → plW d = true → OkU A v → Dw K (argH K h A) (toV v) d
  | .none, _, x, _, _ => by
    cases x
    exact .non
  | .bool b, _, x, _, _ => by
    cases x
    exact .bl b
  | .int i, _, x, _, _ => by
    cases x
    exact .int i
  | .str s, _, x, _, _ => by
    cases x
    exact .str s
  | .bytes b, _, x, _, _ => by
    cases x
    have z := Dw.byt (K := K) (H := argH K h A) b.toArray
    exact z
  | .list ds, _, x, p, hu => by
    obtain ⟨a, vs, rfl, ho, hall⟩ := well_list x
    obtain ⟨h2, hs⟩ := argL KX ar hu ho
    exact .lst hs (dw_all KX ar ds _ hall p h2)
  | .tuple ds, _, x, p, hu => by
    obtain ⟨a, vs, rfl, ho, hall⟩ := well_tuple x
    obtain ⟨h2, hs⟩ := argT KX ar hu ho
    exact .tup hs (dw_all KX ar ds _ hall p h2)
  | .float _, _, _, p, _ => Bool.noConfusion (show false = true from p)
  | .dict _, _, _, p, _ => Bool.noConfusion (show false = true from p)
  | .bytearray _, _, _, p, _ => Bool.noConfusion (show false = true from p)
  | .set _, _, _, p, _ => Bool.noConfusion (show false = true from p)
  | .frozenset _, _, _, p, _ => Bool.noConfusion (show false = true from p)
  | .obj _ _, _, _, p, _ => Bool.noConfusion (show false = true from p)
theorem dw_all {Pm : Params} (KX : K.In h) (ar : ∀ a ∈ A, ArgOb h A a) : ∀ (ds : List WData) (vs : List Value), WellAll Pm h vs ds → plWs ds = true → (∀ u ∈ vs, OkU A u) → DwAll K (argH K h A) (vs.map toV) ds
  | [], _, x, _, _ => by
    cases x
    exact .nil
  | d :: ds, _, x, p, hu => by
    obtain ⟨v, vs, rfl, x1, x2⟩ := well_cons x
    have q : plW d = true ∧ plWs ds = true := Bool.and_eq_true_iff.mp p
    exact .cons (dw_one KX ar d v x1 q.1 (hu _ (List.mem_cons_self ..))) (dw_all KX ar ds vs x2 q.2 fun u m => hu u (List.mem_cons_of_mem _ m))
end
end
theorem spec_call {P : Program} {w : World} {K : PySem.W.Frag} {mg mb : Str → Option Value} {CX : CXT} {k : Nat} {fa : Addr} {fd : FuncData} {ps : List Str} {sp : Sp} {s₁ : Shared} {vals : List Value} {ds : List WData} {R : PySem.W.WRecords} {cl : Str → Option Addr} {d0 : WData}
    (KX : K.In s₁.heap) (hns : s₁.heap.Ns mainGlobals mg) (hb : s₁.heap.Ns builtinsNs mb) (hbb : ∀ x : Str, x ≠ "__name__" → mb x = bootBuiltins x) (hlim : s₁.heap.NoLimit) (hg : s₁.gens = #[])
    (hwl : WellAll w.params s₁.heap vals ds) (hpl : plWs ds = true) (hwt : ∀ d ∈ ds, d.weight ≤ 1048576) (hr : Room k callerA)
    (F : ∀ base : Heap, K.In base → base.Ns mainGlobals mg → FnOk P w K mg base CX k fa fd ps sp) (hbind : ∀ (s : Shared) (us : List Value), us.length = ps.length → BindsTo s fd ⟨us, []⟩ (ps.zip us)) (hlen : ds.length = ps.length)
    (hsp : ∀ (H : Hp) (xs : List V), OnlyF H → DwAll K H xs ds → sp xs H (fun v H' => Dw K H' v d0) fun _ _ _ => False)
    (hCX : ∀ H e s', CX [] H s₁ (fun _ _ _ => False) e s' → False) :
    codeAny (model P w) callerA (.call (.ref fa) ⟨vals, []⟩) (fun r s' => ∃ u as, r = .ok (.ret u) ∧ ReadsW R cl s'.heap u d0 as ∧ OldK s₁.heap s'.heap ∧ s'.os = s₁.os ∧ AllBare s'.gens) s₁ := by
  obtain ⟨A, ho, ar⟩ := area_all ds vals hwl hpl hwt
  have hO : OnlyF (argH K s₁.heap A) := argH_only ar
  have hok : HOk P w (argH K s₁.heap A) s₁.heap := argH_ok ar
  have hS := dw_all KX ar ds vals hwl hpl ho
  have hV := vals_toV ho
  have hK : ∀ b u, argH K s₁.heap A b = some u → K.lookup b = none := fun b u q => (argH_is ar q).1
  have noA : ∀ {b : Addr} {o : Obj} {es : Array DictEntry} {ep : Nat}, s₁.heap.get? b = some o → o.data = .dict es ep → argH K s₁.heap A b = none := fun {b o es ep} e d => by
    cases q : argH K s₁.heap A b with
    | none => rfl
    | some u =>
      obtain ⟨_, vs, _, _, ⟨e2, _⟩ | ⟨e2, _⟩⟩ := argH_is ar q
      · rw [e2] at e
        cases e
        have d' : Data.seq vs.toArray _ = Data.dict es ep := d
        cases d'
      · rw [e2] at e
        cases e
        have d' : Data.seq vs.toArray _ = Data.dict es ep := d
        cases d'
  generalize argH K s₁.heap A = H at hO hok hS hK noA
  have base_of : ∀ {b : Addr} {o : Obj}, s₁.heap.get? b = some o → H b = none → (hidT s₁.heap H).get? b = some o := fun e n => hidT_get e n
  have nsK : ∀ {b : Addr} {m : Str → Option Value}, s₁.heap.Ns b m → (hidT s₁.heap H).Ns b m := fun {b m} ⟨o, es, ep, e, d, r⟩ => ⟨o, es, ep, base_of e (noA e d), d, r⟩
  have nK : ∀ b o, K.lookup b = some o → H b = none := fun b o e => by
    cases q : H b with
    | none => rfl
    | some u =>
      rw [hK b u q] at e
      cases e
  have hKb : K.In (hidT s₁.heap H) := fun b o e => base_of (KX b o e) (nK b o e)
  have hM : Mod K mg (hidT s₁.heap H) := ⟨hKb, nsK hns, ⟨mb, nsK hb, hbb⟩, let ⟨mc, h1, h2⟩ := hlim; ⟨mc, nsK h1, h2⟩⟩
  have e0 : Env0 P w K mg (hidT s₁.heap H) callerA [] s₁ H := ⟨rfl, hM, fun b o e => of_hidT e, Nat.le_of_eq (hidT_size _ _), trivial, fun b hb => absurd (show b ∈ ([] : List Addr) from hb) (by simp), hok, .of_eq hg⟩
  have hl : vals.length = ps.length := by rw [wellAll_len hwl]; exact hlen
  refine codeAny_mono ((F _ hKb (nsK hns)).run callerA [] s₁ H ⟨vals, []⟩ vals (vals.map toV) _ _ hr e0 (hbind s₁ vals hl) hV (hsp H _ hO hS)) fun r s' x => ?_
  cases r with
  | error e => exact (hCX H e s' x).elim
  | ok fl =>
    cases fl with
    | next => exact False.elim x
    | brk => exact False.elim x
    | cont => exact False.elim x
    | ret u =>
      obtain ⟨v, H', os, bare, un, hok', r', q⟩ := x
      have kept : ∀ b o, s₁.heap.get? b = some o → s'.heap.get? b = some o := fun b o e => by
        cases q2 : H b with
        | none => exact un.keep b o e q2 (by intro z; exact absurd (show b ∈ ([] : List Addr) from z) (by simp)) (by simp)
        | some u2 =>
          rcases hO b with z | ⟨ob, u3, z⟩
          · rw [q2] at z
            cases z
          · have z2 := un.frzs b ob _ z
            obtain ⟨e1, _⟩ := hok b _ z
            obtain ⟨e2, _⟩ := hok' b _ z2
            rw [e] at e1
            cases e1
            exact e2
      have KX' : K.In s'.heap := fun b o e => kept b o (KX b o e)
      obtain ⟨as, hrd⟩ := Dw.reads (R := R) (cl := cl) hok' KX' d0 v u q r'
      exact ⟨u, as, rfl, hrd, OldK.of_keep kept, os, bare⟩
theorem layable_weight {ds : List WData} (h : WData.layableAll ds = true) : ∀ d ∈ ds, d.weight ≤ 1048576 := fun d hd =>
  (PySem.W.layableW_iff.mp (List.all_eq_true.mp h d hd)).2.2
theorem encAll_len : ∀ (cs : List Codec) (a : Codec.denoteAll cs), (Codec.encAll cs a).length = cs.length
  | [], _ => rfl
  | c :: cs, a => by
    show (Codec.encAll cs a.2).length + 1 = cs.length + 1
    rw [encAll_len cs a.2]
/-- the goal that k_headS leaves (case hc), from the promise of the row's def: whatever the arguments that the codecs let and the row asks for, the def gives what stands for enc (f ..) -/
theorem walk_spec {r : OpenSpec} {k : Nat} {q : Program} {loose : List Str} {XP : (Str → Option Value) → Heap → Prop} {YP : World → Heap → Prop} {d : DefRec} {K : Params → PySem.W.Frag} {CX : World → CXT} {ps : List Str} {sp : World → Sp}
    (hwell : r.wellSaid = true) (hdf : d.params.defaults = []) (hlen : r.args.length = ps.length) (hr : Room k callerA)
    (hY : ∀ (w : World) (h : Heap), YP w h → (K w.params).In h)
    (F : ∀ (w : World) (mg : Str → Option Value) (fa : Addr) (h : Heap), YP w h → (K w.params).In h → h.Ns mainGlobals mg → mg d.name = some (.ref fa) →
      ∃ fd : FuncData, (∀ (s : Shared) (us : List Value), us.length = ps.length → BindsTo s fd ⟨us, []⟩ (ps.zip us)) ∧
        ∀ base : Heap, (K w.params).In base → base.Ns mainGlobals mg → FnOk r.prog w (K w.params) mg base (CX w) k fa fd ps (sp w))
    (hsp : ∀ (w : World) (H : Hp) (xs : List V) (a : Codec.denoteAll r.args), OnlyF H → Codec.withinAll r.args a = true → Codec.app r.args r.asked a = true → DwAll (K w.params) H xs (Codec.encAll r.args a) →
      sp w xs H (fun v H' => Dw (K w.params) H' v (r.ret.enc (Codec.app r.args r.f a))) fun _ _ _ => False)
    (hCX : ∀ (w : World) (H : Hp) (s : Shared) (e : Value) (s' : Shared), CX w [] H s (fun _ _ _ => False) e s' → False) :
    PySem.W.WalkOS q loose XP YP r d [] (fun f vs => PySem.call f vs) := by
  intro w s_0 s₁ mg mb G Y fa o pm cd doc dV kV ho hd hcd hD hmg hg args vals as hpre hlay hrd hwl hlo
  obtain ⟨a, e1, e2⟩ := PySem.W.os_pre_some hpre
  obtain ⟨e3, hwi⟩ := Codec.encAll_of_decAll r.args args a e1
  subst e3
  have KX := hY w _ Y
  obtain ⟨fd, hb, hF⟩ := F w mg fa _ Y KX G.T.g hmg
  refine PySem.W.enter_call (codeAny_mono (spec_call (R := []) (cl := classAt s_0.heap) (d0 := r.ret.enc (Codec.app r.args r.f a)) KX G.T.g G.T.b G.T.builtins G.T.nolimit hg hwl (pl_encAll _ _) (layable_weight hlay) hr hF hb (by rw [encAll_len]; exact hlen)
    (fun H xs hO hS => hsp w H xs a hO hwi e2 hS) fun H e s' => hCX w H s₁ e s') fun r' s' hq => ?_)
  obtain ⟨u, as', rfl, h1, h2, h3, h4⟩ := hq
  exact ⟨.inl ⟨u, _, as', rfl, fun _ => rfl, h1, (OpenSpec.post_iff hwell hwi _ _).mpr rfl, fun z => Bool.noConfusion (show false = true from z)⟩, h2, h3, h4⟩
/-- the same where the promise hangs on the written part alone -/
theorem walk_specK {r : OpenSpec} {k : Nat} {q : Program} {loose : List Str} {XP : (Str → Option Value) → Heap → Prop} {YP : World → Heap → Prop} {d : DefRec} {K : Params → PySem.W.Frag} {CX : CXT} {ps : List Str} {sp : PySem.W.Frag → Sp}
    (hwell : r.wellSaid = true) (hdf : d.params.defaults = []) (hlen : r.args.length = ps.length) (hr : Room k callerA)
    (hY : ∀ (w : World) (h : Heap), YP w h → (K w.params).In h)
    (F : ∀ (w : World) (mg : Str → Option Value) (fa : Addr) (h : Heap), YP w h → (K w.params).In h → h.Ns mainGlobals mg → mg d.name = some (.ref fa) →
      ∃ fd : FuncData, (∀ (s : Shared) (us : List Value), us.length = ps.length → BindsTo s fd ⟨us, []⟩ (ps.zip us)) ∧
        ∀ base : Heap, (K w.params).In base → base.Ns mainGlobals mg → FnOk r.prog w (K w.params) mg base CX k fa fd ps (sp (K w.params)))
    (hsp : ∀ (K : PySem.W.Frag) (H : Hp) (xs : List V) (a : Codec.denoteAll r.args), OnlyF H → Codec.withinAll r.args a = true → Codec.app r.args r.asked a = true → DwAll K H xs (Codec.encAll r.args a) →
      sp K xs H (fun v H' => Dw K H' v (r.ret.enc (Codec.app r.args r.f a))) fun _ _ _ => False)
    (hCX : ∀ (H : Hp) (s : Shared) (e : Value) (s' : Shared), CX [] H s (fun _ _ _ => False) e s' → False) :
    PySem.W.WalkOS q loose XP YP r d [] (fun f vs => PySem.call f vs) :=
  walk_spec (K := K) (CX := fun _ => CX) (sp := fun w => sp (K w.params)) hwell hdf hlen hr hY F (fun w H xs a h1 h2 h3 h4 => hsp (K w.params) H xs a h1 h2 h3 h4) fun _ H s e s' => hCX H s e s'
end L2
end
set_option linter.all false
namespace ST
open Vbsgaj
structure VC (c : Company) : Prop where
  n1 : 1 ≤ c.prices.length
  n8 : c.prices.length ≤ 8
  pl : c.place < c.prices.length
  pr : ∀ p ∈ c.prices, 1 ≤ p ∧ p ≤ 1000000
  py : 0 ≤ c.pay ∧ c.pay ≤ 1000000
structure VG (g : Game) : Prop where
  ma : 0 ≤ g.moneyA
  mb : 0 ≤ g.moneyB
  tu : g.turn = 0 ∨ g.turn = 1
  le : g.left ≤ 8
  nc : g.companies.length ≤ 3
  co : ∀ c ∈ g.companies, VC c
theorem VC.price_at {c : Company} (h : VC c) : c.prices[c.place]? = some (price c) := by
  unfold price
  rw [List.getD_eq_getElem?_getD, List.getElem?_eq_getElem h.pl]
  rfl
theorem VC.price_in {c : Company} (h : VC c) : 1 ≤ price c ∧ price c ≤ 1000000 := h.pr _ (List.mem_of_getElem? h.price_at)
theorem VC.down {c : Company} (h : VC c) : VC (down c) := ⟨h.n1, h.n8, by have := h.pl; show c.place - 1 < c.prices.length; omega, h.pr, h.py⟩
theorem VC.up {c : Company} (h : VC c) : VC (up c) := ⟨h.n1, h.n8, by
  have := h.pl
  show (if c.place + 1 < c.prices.length then c.place + 1 else c.place) < c.prices.length
  split <;> omega, h.pr, h.py⟩
def chD (x d : Nat) (c : Company) : Company := if d = 1 then bought x c else if d = 2 then sold x c else if d = 3 then up c else down c
theorem changed_eq (x o : Nat) (c : Company) : changed x o c = chD x (kindOf o) c := rfl
theorem VC.bought {c : Company} (h : VC c) (x : Nat) : VC (bought x c) := by
  unfold Vbsgaj.bought; split <;> exact ⟨h.n1, h.n8, h.pl, h.pr, h.py⟩
theorem VC.sold {c : Company} (h : VC c) (x : Nat) : VC (sold x c) := by
  unfold Vbsgaj.sold
  refine VC.down ?_
  split <;> exact ⟨h.n1, h.n8, h.pl, h.pr, h.py⟩
theorem VC.chD {c : Company} (h : VC c) (x d : Nat) : VC (chD x d c) := by
  unfold ST.chD
  split
  · exact h.bought x
  · split
    · exact h.sold x
    · split
      · exact h.up
      · exact h.down
def sh1 (c : Company) : List Int × Int := (c.prices, c.pay)
def shape (g : Game) : List (List Int × Int) := g.companies.map sh1
theorem sh1_chD (x d : Nat) (c : Company) : sh1 (chD x d c) = sh1 c := by
  unfold chD bought sold up down
  (repeat' split) <;> rfl
/-- both players' money behind a deed -/
def addP (x : Nat) (n : Int) (m : Int × Int) : Int × Int := if x = 0 then (m.1 + n, m.2) else (m.1, m.2 + n)
def monD (x d : Nat) (c : Company) (m : Int × Int) : Int × Int :=
  if d = 1 then addP x (-(price c)) m else if d = 2 then addP x (price c) m else if d = 3 then (m.1 + c.pay * c.a, m.2 + c.pay * c.b) else m
theorem moved_eq (x o : Nat) (c : Company) (g : Game) : moved x o c g = { g with moneyA := (monD x (kindOf o) c (g.moneyA, g.moneyB)).1, moneyB := (monD x (kindOf o) c (g.moneyA, g.moneyB)).2 } := by
  unfold moved monD addP give
  split
  · split <;> rfl
  · split
    · split <;> rfl
    · split
      · simp [Int.mul_comm]
      · rfl
theorem played_pass (g : Game) : played g 0 = ⟨g.moneyA, g.moneyB, 1 - g.turn, g.left - 1, g.companies⟩ := rfl
theorem played_co {g : Game} {o k : Nat} {c : Company} (h0 : o ≠ 0) (hk : companyOf o = k) (hc : g.companies[k]? = some c) :
    played g o = ⟨(monD g.turn (kindOf o) c (g.moneyA, g.moneyB)).1, (monD g.turn (kindOf o) c (g.moneyA, g.moneyB)).2, 1 - g.turn, g.left - 1, g.companies.set k (chD g.turn (kindOf o) c)⟩ := by
  unfold played
  rw [if_neg h0, hk, hc]
  simp only [moved_eq, changed_eq, setAt]
theorem may_co {g : Game} {o : Nat} (h0 : o ≠ 0) (hm : may g o = true) : ∃ c, g.companies[companyOf o]? = some c ∧
    (kindOf o = 1 → 0 < c.pool ∧ price c ≤ moneyOf g.turn g) ∧ (kindOf o = 2 → 0 < shareOf g.turn c) := by
  unfold may at hm
  rw [if_neg h0] at hm
  cases e : g.companies[companyOf o]? with
  | none => rw [e] at hm; cases hm
  | some c =>
    rw [e] at hm
    refine ⟨c, rfl, fun k => ?_, fun k => ?_⟩
    · simp only [k, if_true, Bool.and_eq_true, decide_eq_true_eq] at hm
      exact hm
    · simp only [k] at hm
      simpa using hm
theorem played_left (g : Game) (o : Nat) : (played g o).left = g.left - 1 := by
  unfold played; rfl
theorem played_len (g : Game) (o : Nat) : (played g o).companies.length = g.companies.length := by
  unfold played
  cases (if o = 0 then none else g.companies[companyOf o]?) with
  | none => rfl
  | some c => simp [setAt]
theorem map_set {α β : Type} (f : α → β) : ∀ (l : List α) (k : Nat) (x c : α), l[k]? = some c → f x = f c → (l.set k x).map f = l.map f
  | [], _, _, _, h, _ => by simp at h
  | a :: l, 0, x, c, h, e => by
    have : a = c := Option.some.inj h
    subst this
    simp [e]
  | a :: l, k + 1, x, c, h, e => by
    have ih := map_set f l k x c h e
    simp [ih]
theorem played_shape (g : Game) (o : Nat) : shape (played g o) = shape g := by
  by_cases h0 : o = 0
  · subst h0; rfl
  · cases e : g.companies[companyOf o]? with
    | none => unfold played; rw [if_neg h0, e]; rfl
    | some c =>
      rw [played_co h0 rfl e]
      exact map_set sh1 _ _ _ _ e (sh1_chD _ _ _)
theorem monD_nonneg {g : Game} (V : VG g) {o : Nat} (h0 : o ≠ 0) (hm : may g o = true) {c : Company} (hc : g.companies[companyOf o]? = some c) :
    0 ≤ (monD g.turn (kindOf o) c (g.moneyA, g.moneyB)).1 ∧ 0 ≤ (monD g.turn (kindOf o) c (g.moneyA, g.moneyB)).2 := by
  obtain ⟨c', hc', k1, _⟩ := may_co h0 hm
  rw [hc] at hc'
  have e : c = c' := Option.some.inj hc'
  subst e
  have VCc := V.co c (List.mem_of_getElem? hc)
  have hp := VCc.price_in
  have hpy := VCc.py
  have ma := V.ma
  have mb := V.mb
  unfold monD addP
  split
  · rename_i h
    have q := (k1 h).2
    unfold moneyOf at q
    split
    · rename_i hx; rw [if_pos hx] at q; exact ⟨by show 0 ≤ g.moneyA + -(price c); omega, mb⟩
    · rename_i hx; rw [if_neg hx] at q; exact ⟨ma, by show 0 ≤ g.moneyB + -(price c); omega⟩
  · split
    · split
      · exact ⟨by show 0 ≤ g.moneyA + price c; omega, mb⟩
      · exact ⟨ma, by show 0 ≤ g.moneyB + price c; omega⟩
    · split
      · have q1 : 0 ≤ c.pay * (c.a : Int) := Int.mul_nonneg hpy.1 (Int.natCast_nonneg _)
        have q2 : 0 ≤ c.pay * (c.b : Int) := Int.mul_nonneg hpy.1 (Int.natCast_nonneg _)
        exact ⟨by show 0 ≤ g.moneyA + c.pay * c.a; omega, by show 0 ≤ g.moneyB + c.pay * c.b; omega⟩
      · exact ⟨ma, mb⟩
theorem VG.played {g : Game} (V : VG g) {o : Nat} (hm : may g o = true) : VG (played g o) := by
  have tu : (1 - g.turn = 0 ∨ 1 - g.turn = 1) := by rcases V.tu with e | e <;> omega
  have le : g.left - 1 ≤ 8 := by have := V.le; omega
  by_cases h0 : o = 0
  · subst h0
    rw [played_pass]
    exact ⟨V.ma, V.mb, tu, le, V.nc, V.co⟩
  · obtain ⟨c, hc, _⟩ := may_co h0 hm
    obtain ⟨m1, m2⟩ := monD_nonneg V h0 hm hc
    rw [played_co h0 rfl hc]
    refine ⟨m1, m2, tu, le, by show (g.companies.set _ _).length ≤ 3; rw [List.length_set]; exact V.nc, fun d hd => ?_⟩
    have hd : d ∈ g.companies.set (companyOf o) (chD g.turn (kindOf o) c) := hd
    rcases List.mem_or_eq_of_mem_set hd with q | q
    · exact V.co d q
    · subst q; exact (V.co c (List.mem_of_getElem? hc)).chD _ _
def upto (g : Game) (j : Nat) : List Nat := (List.range (4 * j + 1)).filter (may g)
theorem orders_upto (g : Game) : orders g = upto g g.companies.length := rfl
def deeds (c : Company) (x : Nat) (m : Int) : List Nat :=
  (if (decide (0 < c.pool) && decide (price c ≤ m)) = true then [1] else []) ++ (if 0 < shareOf x c then [2] else []) ++ (if presides x c = true then [3, 4] else [])
theorem upto_zero (g : Game) : upto g 0 = [0] := by
  unfold upto
  show (List.range 1).filter (may g) = [0]
  rw [show List.range 1 = [0] from rfl]
  rfl
theorem may_at {g : Game} {j d : Nat} {c : Company} (hc : g.companies[j]? = some c) (h1 : 1 ≤ d) (h4 : d ≤ 4) :
    may g (4 * j + d) = (if d = 1 then decide (0 < c.pool) && decide (price c ≤ moneyOf g.turn g) else if d = 2 then decide (0 < shareOf g.turn c) else presides g.turn c) := by
  have e1 : companyOf (4 * j + d) = j := by unfold companyOf; omega
  have e2 : kindOf (4 * j + d) = d := by unfold kindOf; rw [if_neg (by omega)]; omega
  unfold may
  rw [if_neg (by omega), e1, hc, e2]
theorem upto_succ {g : Game} {j : Nat} {c : Company} (hc : g.companies[j]? = some c) : upto g (j + 1) = upto g j ++ (deeds c g.turn (moneyOf g.turn g)).map (4 * j + ·) := by
  unfold upto
  have e : List.range (4 * (j + 1) + 1) = List.range (4 * j + 1) ++ [4 * j + 1, 4 * j + 2, 4 * j + 3, 4 * j + 4] := by
    rw [show 4 * (j + 1) + 1 = (4 * j + 1) + 1 + 1 + 1 + 1 by omega]
    rw [List.range_succ, List.range_succ, List.range_succ, List.range_succ]
    simp
  rw [e, List.filter_append]
  congr 1
  have h1 := may_at hc (d := 1) (by omega) (by omega)
  have h2 := may_at hc (d := 2) (by omega) (by omega)
  have h3 := may_at hc (d := 3) (by omega) (by omega)
  have h4 := may_at hc (d := 4) (by omega) (by omega)
  simp only [List.filter_cons, h1, h2, h3, h4, List.filter_nil]
  unfold deeds
  simp only [if_true, show ((2 : Nat) = 1) = False by simp, show ((3 : Nat) = 1) = False by simp, show ((3 : Nat) = 2) = False by simp, show ((4 : Nat) = 1) = False by simp, show ((4 : Nat) = 2) = False by simp, if_false]
  cases (decide (0 < c.pool) && decide (price c ≤ moneyOf g.turn g)) <;> cases h : decide (0 < shareOf g.turn c) <;> cases presides g.turn c <;> simp_all
theorem orders_may {g : Game} {o : Nat} : o ∈ orders g ↔ o < 4 * g.companies.length + 1 ∧ may g o = true := by
  unfold orders
  rw [List.mem_filter, List.mem_range]
theorem may_lt {g : Game} {o : Nat} (h : may g o = true) : o < 4 * g.companies.length + 1 := by
  by_cases h0 : o = 0
  · omega
  · obtain ⟨c, hc, _⟩ := may_co h0 h
    have := (List.getElem?_eq_some_iff.mp hc).1
    unfold companyOf at this
    omega
theorem mem_orders {g : Game} {o : Nat} : o ∈ orders g ↔ may g o = true := ⟨fun h => (orders_may.mp h).2, fun h => orders_may.mpr ⟨may_lt h, h⟩⟩
theorem orders_len (g : Game) : (orders g).length ≤ 4 * g.companies.length + 1 := by
  unfold orders
  refine Nat.le_trans (List.length_filter_le _ _) ?_
  rw [List.length_range]
  exact Nat.le_refl _
theorem orders_cons (g : Game) : ∃ r, orders g = 0 :: r := by
  unfold orders
  rw [List.range_succ_eq_map, List.filter_cons]
  exact ⟨_, rfl⟩
theorem orders_ne (g : Game) : orders g ≠ [] := by
  obtain ⟨r, e⟩ := orders_cons g
  rw [e]; exact List.cons_ne_nil _ _
theorem foldl_max : ∀ (l : List Int) (n m : Int), (m = n ∨ m ∈ l) → n ≤ m → (∀ y ∈ l, y ≤ m) → l.foldl max n = m
  | [], n, m, h, _, _ => by
    rcases h with h | h
    · exact h.symm
    · exact nomatch h
  | a :: l, n, m, h, hn, hl => by
    show l.foldl max (max n a) = m
    have ha := hl a (List.mem_cons_self ..)
    refine foldl_max l (max n a) m ?_ (by omega) fun y hy => hl y (List.mem_cons_of_mem _ hy)
    rcases h with h | h
    · left; omega
    · rcases List.mem_cons.mp h with h | h
      · left; omega
      · exact .inr h
theorem foldl_min : ∀ (l : List Int) (n m : Int), (m = n ∨ m ∈ l) → m ≤ n → (∀ y ∈ l, m ≤ y) → l.foldl min n = m
  | [], n, m, h, _, _ => by
    rcases h with h | h
    · exact h.symm
    · exact nomatch h
  | a :: l, n, m, h, hn, hl => by
    show l.foldl min (min n a) = m
    have ha := hl a (List.mem_cons_self ..)
    refine foldl_min l (min n a) m ?_ (by omega) fun y hy => hl y (List.mem_cons_of_mem _ hy)
    rcases h with h | h
    · left; omega
    · rcases List.mem_cons.mp h with h | h
      · left; omega
      · exact .inr h
theorem pick_max {l : List Int} {m : Int} (h : m ∈ l) (hl : ∀ y ∈ l, y ≤ m) : pick true l = m := by
  cases l with
  | nil => exact nomatch h
  | cons n r => exact foldl_max r n m (List.mem_cons.mp h) (hl n (List.mem_cons_self ..)) fun y hy => hl y (List.mem_cons_of_mem _ hy)
theorem pick_min {l : List Int} {m : Int} (h : m ∈ l) (hl : ∀ y ∈ l, m ≤ y) : pick false l = m := by
  cases l with
  | nil => exact nomatch h
  | cons n r => exact foldl_min r n m (List.mem_cons.mp h) (hl n (List.mem_cons_self ..)) fun y hy => hl y (List.mem_cons_of_mem _ hy)
theorem foldl_max_mem : ∀ (l : List Int) (n : Int), l.foldl max n = n ∨ l.foldl max n ∈ l
  | [], n => .inl rfl
  | a :: l, n => by
    show l.foldl max (max n a) = n ∨ l.foldl max (max n a) ∈ a :: l
    rcases foldl_max_mem l (max n a) with h | h
    · rw [h]
      by_cases q : n ≤ a
      · right; rw [show max n a = a by omega]; exact List.mem_cons_self ..
      · left; omega
    · exact .inr (List.mem_cons_of_mem _ h)
theorem foldl_min_mem : ∀ (l : List Int) (n : Int), l.foldl min n = n ∨ l.foldl min n ∈ l
  | [], n => .inl rfl
  | a :: l, n => by
    show l.foldl min (min n a) = n ∨ l.foldl min (min n a) ∈ a :: l
    rcases foldl_min_mem l (min n a) with h | h
    · rw [h]
      by_cases q : n ≤ a
      · left; omega
      · right; rw [show min n a = a by omega]; exact List.mem_cons_self ..
    · exact .inr (List.mem_cons_of_mem _ h)
theorem pick_mem {l : List Int} (h : l ≠ []) (b : Bool) : pick b l ∈ l := by
  cases l with
  | nil => exact absurd rfl h
  | cons n r =>
    cases b
    · exact List.mem_cons.mpr (foldl_min_mem r n)
    · exact List.mem_cons.mpr (foldl_max_mem r n)
theorem valueOf_zero {kind : Nat} {g : Game} (h : g.left = 0) : valueOf kind g = goal kind g := by
  unfold valueOf; rw [h]; rfl
theorem valueOf_played (kind : Nat) (g : Game) (o : Nat) : valueOf kind (played g o) = value kind (g.left - 1) (played g o) := by
  unfold valueOf; rw [played_left]
theorem valueOf_pos {kind : Nat} {g : Game} (h : 0 < g.left) : valueOf kind g = pick (wants kind g.turn) ((orders g).map fun o => valueOf kind (played g o)) := by
  obtain ⟨t, ht⟩ : ∃ t, g.left = t + 1 := ⟨g.left - 1, by omega⟩
  have e : (fun o => valueOf kind (played g o)) = fun o => value kind t (played g o) := by
    funext o; rw [valueOf_played, ht]; rfl
  rw [e]
  unfold valueOf
  rw [ht]
  rfl
theorem bestOrder_eq (kind : Nat) (g : Game) : bestOrder kind g = ((orders g).find? fun o => valueOf kind (played g o) == valueOf kind g).getD 0 := by
  unfold bestOrder
  have e : (fun o => value kind (g.left - 1) (played g o) == valueOf kind g) = fun o => valueOf kind (played g o) == valueOf kind g := by
    funext o; rw [valueOf_played]
  show ((orders g).find? fun o => value kind (g.left - 1) (played g o) == valueOf kind g).getD 0 = _
  rw [e]
theorem best_head {kind : Nat} {g : Game} (h : 0 < g.left) : ((orders g).filter fun o => valueOf kind (played g o) == valueOf kind g).head? = some (bestOrder kind g) := by
  rw [List.head?_filter, bestOrder_eq]
  have m : valueOf kind g ∈ (orders g).map fun o => valueOf kind (played g o) := by
    rw [valueOf_pos h]
    exact pick_mem (by simpa using orders_ne g) _
  obtain ⟨o, ho, e⟩ := List.mem_map.mp m
  cases q : (orders g).find? fun o => valueOf kind (played g o) == valueOf kind g with
  | none =>
    have := List.find?_eq_none.mp q o ho
    simp [e] at this
  | some o' => rfl
theorem best_may {kind : Nat} {g : Game} (h : 0 < g.left) : may g (bestOrder kind g) = true := by
  have q := best_head (kind := kind) h
  have m : bestOrder kind g ∈ (orders g).filter fun o => valueOf kind (played g o) == valueOf kind g := List.mem_of_head? q
  exact mem_orders.mp (List.mem_filter.mp m).1
def cnt (N : Nat) : Nat → Nat
  | 0 => 0
  | t + 1 => N * cnt N t + 1
theorem cnt_small : ∀ m, m < 4 → ∀ t, t < 9 → power (4 * m + 1) t ≤ 100000 → cnt (4 * m + 1) t ≤ 25000 := by decide +kernel
theorem few_cnt {g : Game} (V : VG g) (h : few g = true) : cnt (4 * g.companies.length + 1) g.left ≤ 25000 :=
  cnt_small _ (by have := V.nc; omega) _ (by have := V.le; omega) (of_decide_eq_true h)
abbrev GK' := (Int × Int) × Int × Int × List (Int × (Int × Int) × Int)
def stand (c : Company) : Int × (Int × Int) × Int := ((c.place : Int), ((c.a : Int), (c.b : Int)), (c.pool : Int))
def keyOf (g : Game) : GK' := ((g.moneyA, g.moneyB), (g.turn : Int), (g.left : Int), g.companies.map stand)
theorem stands_inj : ∀ {l m : List Company}, l.map stand = m.map stand → l.map sh1 = m.map sh1 → l = m
  | [], [], _, _ => rfl
  | [], _ :: _, h, _ => by simp at h
  | _ :: _, [], h, _ => by simp at h
  | a :: l, b :: m, h, k => by
    rw [List.map_cons, List.map_cons] at h k
    injection h with h1 h2
    injection k with k1 k2
    have := stands_inj h2 k2
    subst this
    obtain ⟨p, q, r, s, t, u⟩ := a
    obtain ⟨p', q', r', s', t', u'⟩ := b
    simp only [stand, sh1, Prod.mk.injEq, Int.natCast_inj] at h1 k1
    obtain ⟨e1, ⟨e2, e3⟩, e4⟩ := h1
    obtain ⟨e5, e6⟩ := k1
    subst e1 e2 e3 e4 e5 e6
    rfl
theorem key_inj {g g' : Game} (h : keyOf g = keyOf g') (k : shape g = shape g') : g = g' := by
  obtain ⟨a, b, t, l, c⟩ := g
  obtain ⟨a', b', t', l', c'⟩ := g'
  simp only [keyOf, Prod.mk.injEq, Int.natCast_inj] at h
  obtain ⟨⟨e1, e2⟩, e3, e4, e5⟩ := h
  have := stands_inj e5 k
  subst e1 e2 e3 e4 this
  rfl
end ST
set_option Elab.async false
set_option linter.all false
set_option maxRecDepth 100000
namespace ST
open PySem PySem.Spec PyProof.Rows L2 NKey
def top (i : Nat) : Stmt := PySem.Challenge.pw_shareturns_s01_answers.main.body.getD i (.Pass ⟨0, 0, 0, 0⟩)
/-- a def of the top; a method; an __init__ -/
def Fn (K : PySem.W.Frag) (mg : Str → Option Value) (x : Str) (st : Stmt) (ps : List Str) : Prop := ∃ (f : Addr) (fd : FuncData), Fun K x x st f fd ∧ Binds K fd ps [] ∧ mg x = some (.ref f)
def Mt (K : PySem.W.Frag) (C : Addr) (m qual : Str) (st : Stmt) (ps : List Str) : Prop := ∃ (f : Addr) (fd : FuncData), Fun K m qual st f fd ∧ Binds K fd ps [] ∧ Meth K C m f
def Ini (K : PySem.W.Frag) (C : Addr) (qual : Str) (st : Stmt) (ps : List Str) : Prop := ∃ (f : Addr) (fd : FuncData), Fun K "__init__" qual st f fd ∧ Binds K fd ps [] ∧ Mk K C f
/-- a tuple of the top -/
def KTup (K : PySem.W.Frag) (a : Addr) (xs : List V) : Prop := ∃ (o : Obj) (its : Array Value) (n : Nat), K.lookup a = some o ∧ o.cls = .type "tuple" ∧ o.data = .seq its n ∧ its.size ≤ sizeLine ∧ Vals xs its.toList
theorem KTup.sq {K : PySem.W.Frag} {H : Hp} {a : Addr} {xs : List V} (h : KTup K a xs) : SqT K H a xs := .inr h
abbrev s_first_game : Stmt := top 3
abbrev s_at_place : Stmt := top 4
abbrev s_with_company : Stmt := top 5
abbrev s_price_of : Stmt := top 6
abbrev s_worth_of : Stmt := top 7
abbrev s_swapped : Stmt := top 9
abbrev s_turned_round : Stmt := top 10
abbrev s_with_shares : Stmt := top 11
abbrev s_scaled : Stmt := top 12
abbrev s_scaled_company : Stmt := top 13
abbrev s_all_times : Stmt := top 14
abbrev s_with_other_turn : Stmt := top 15
abbrev s_with_place : Stmt := top 16
abbrev s_orders_of : Stmt := top 24
abbrev s_deeds_of : Stmt := top 25
abbrev s_game_behind : Stmt := top 26
abbrev s_money_behind : Stmt := top 27
abbrev s_company_behind : Stmt := top 28
abbrev s_with_more : Stmt := top 29
abbrev s_traded : Stmt := top 30
abbrev s_moved : Stmt := top 31
abbrev s_best_line : Stmt := top 33
abbrev s_duel_line : Stmt := top 34
abbrev s_game_at_end : Stmt := top 35
abbrev s_too_many_positions : Stmt := top 39
abbrev s_reached : Stmt := top 40
abbrev s_plays_for_most : Stmt := top 41
abbrev s_key_of : Stmt := top 42
abbrev s_company_fits : Stmt := top 60
abbrev s_prices_fit : Stmt := top 61
abbrev s_players_fit : Stmt := top 62
abbrev s_money_fits : Stmt := top 63
abbrev s_search_refusal : Stmt := top 64
abbrev s_both_worths : Stmt := top 65
abbrev s_line_told : Stmt := top 66
abbrev s_add_company : Stmt := top 67
abbrev s_set_players : Stmt := top 68
abbrev s_show : Stmt := top 69
abbrev s_list_orders : Stmt := top 70
abbrev s_play : Stmt := top 71
abbrev s_undo : Stmt := top 72
abbrev s_tell_worths : Stmt := top 73
abbrev s_tell_value : Stmt := top 74
abbrev s_tell_best : Stmt := top 75
abbrev s_tell_values : Stmt := top 76
abbrev s_tell_line : Stmt := top 77
abbrev s_tell_duel : Stmt := top 78
abbrev s_swap_players : Stmt := top 79
abbrev s_scale_money : Stmt := top 80
abbrev s_clear_all : Stmt := top 81
abbrev s_tell_tempo : Stmt := top 82
abbrev s_set_place : Stmt := top 83
abbrev s_answers : Stmt := top 88
abbrev s_initCC : Stmt := inClass (top 1) 0
abbrev s_initCG : Stmt := inClass (top 2) 0
abbrev s_initCS : Stmt := inClass (top 43) 0
abbrev s_initCD : Stmt := inClass (top 59) 0
abbrev s_value : Stmt := inClass (top 43) 1
abbrev s_chosen_value : Stmt := inClass (top 43) 2
abbrev s_best_order : Stmt := inClass (top 43) 3
abbrev s_begin_with : Stmt := inClass (top 59) 1
structure Tx (K : PySem.W.Frag) (mg : Str → Option Value) where
  CC : Addr
  CG : Addr
  CS : Addr
  CD : Addr
  aGOALS : Addr
  aPLAYERS : Addr
  aNUMBERS_OF : Addr
  aROWS_OF : Addr
  aDEED_OF : Addr
  d_add_company : Addr
  d_set_players : Addr
  d_show : Addr
  d_list_orders : Addr
  d_play : Addr
  d_undo : Addr
  d_tell_worths : Addr
  d_tell_value : Addr
  d_tell_best : Addr
  d_tell_values : Addr
  d_tell_line : Addr
  d_tell_duel : Addr
  d_swap_players : Addr
  d_scale_money : Addr
  d_clear_all : Addr
  d_tell_tempo : Addr
  d_set_place : Addr
  clCC : Cls K CC
  clCG : Cls K CG
  clCS : Cls K CS
  clCD : Cls K CD
  neC : CC ≠ CD
  neG : CG ≠ CD
  neS : CS ≠ CD
  n_place : NoAttr K CC "place"
  n_pay : NoAttr K CC "pay"
  n_shares : NoAttr K CC "shares"
  n_pool : NoAttr K CC "pool"
  n_prices : NoAttr K CC "prices"
  n_money : NoAttr K CG "money"
  n_turn : NoAttr K CG "turn"
  n_left : NoAttr K CG "left"
  n_companies : NoAttr K CG "companies"
  n_goal : NoAttr K CS "goal"
  n_known : NoAttr K CS "known"
  n_game : NoAttr K CD "game"
  n_past : NoAttr K CD "past"
  n_searches : NoAttr K CD "searches"
  b_len : mg "len" = none
  b_range : mg "range" = none
  b_enumerate : mg "enumerate" = none
  b_max : mg "max" = none
  b_min : mg "min" = none
  b_tuple : mg "tuple" = none
  b_all : mg "all" = none
  b_zip : mg "zip" = none
  i_PASS : ∃ t, mg "PASS" = some (.int (0) t)
  i_BUY : ∃ t, mg "BUY" = some (.int (1) t)
  i_SELL : ∃ t, mg "SELL" = some (.int (2) t)
  i_PAY_OUT : ∃ t, mg "PAY_OUT" = some (.int (3) t)
  i_KEEP : ∃ t, mg "KEEP" = some (.int (4) t)
  i_DEEDS : ∃ t, mg "DEEDS" = some (.int (4) t)
  i_MOST_POSITIONS : ∃ t, mg "MOST_POSITIONS" = some (.int (100000) t)
  i_NO_COMPANY : ∃ t, mg "NO_COMPANY" = some (.int (-1) t)
  i_WRONG_NUMBER : ∃ t, mg "WRONG_NUMBER" = some (.int (-2) t)
  i_NOT_ALLOWED : ∃ t, mg "NOT_ALLOWED" = some (.int (-3) t)
  i_NO_ROOM : ∃ t, mg "NO_ROOM" = some (.int (-4) t)
  i_NO_TURNS : ∃ t, mg "NO_TURNS" = some (.int (-5) t)
  i_NOTHING_PLAYED : ∃ t, mg "NOTHING_PLAYED" = some (.int (-6) t)
  i_TOO_MANY_POSITIONS : ∃ t, mg "TOO_MANY_POSITIONS" = some (.int (-7) t)
  i_MOST_COMPANIES : ∃ t, mg "MOST_COMPANIES" = some (.int (3) t)
  i_MOST_PRICES : ∃ t, mg "MOST_PRICES" = some (.int (8) t)
  i_MOST_SHARES : ∃ t, mg "MOST_SHARES" = some (.int (9) t)
  i_MOST_TURNS : ∃ t, mg "MOST_TURNS" = some (.int (8) t)
  i_MOST_MONEY : ∃ t, mg "MOST_MONEY" = some (.int (1000000) t)
  i_MOST_TIMES : ∃ t, mg "MOST_TIMES" = some (.int (1000000) t)
  m_GOALS : mg "GOALS" = some (.ref aGOALS)
  t_GOALS : KTup K aGOALS [.int 0, .int 1, .int 2]
  m_PLAYERS : mg "PLAYERS" = some (.ref aPLAYERS)
  t_PLAYERS : KTup K aPLAYERS [.int 0, .int 1]
  m_NUMBERS_OF : mg "NUMBERS_OF" = some (.ref aNUMBERS_OF)
  t_NUMBERS_OF : KTup K aNUMBERS_OF [.int 5, .int 4, .int 0, .int 0, .int 1, .int 0, .int 0, .int 1, .int 1, .int 1, .int 1, .int 1, .int 0, .int 1, .int 0, .int 1, .int 2]
  m_ROWS_OF : mg "ROWS_OF" = some (.ref aROWS_OF)
  t_ROWS_OF : KTup K aROWS_OF [.int 1, .int 0, .int 0, .int 0, .int 0, .int 0, .int 0, .int 0, .int 0, .int 0, .int 0, .int 1, .int 0, .int 0, .int 0, .int 0, .int 0]
  m_DEED_OF : mg "DEED_OF" = some (.ref aDEED_OF)
  t_DEED_OF : KTup K aDEED_OF [.ref d_add_company, .ref d_set_players, .ref d_show, .ref d_list_orders, .ref d_play, .ref d_undo, .ref d_tell_worths, .ref d_tell_value, .ref d_tell_best, .ref d_tell_values, .ref d_tell_line, .ref d_tell_duel, .ref d_swap_players, .ref d_scale_money, .ref d_clear_all, .ref d_tell_tempo, .ref d_set_place]
  m_add_company : mg "add_company" = some (.ref d_add_company)
  m_set_players : mg "set_players" = some (.ref d_set_players)
  m_show : mg "show" = some (.ref d_show)
  m_list_orders : mg "list_orders" = some (.ref d_list_orders)
  m_play : mg "play" = some (.ref d_play)
  m_undo : mg "undo" = some (.ref d_undo)
  m_tell_worths : mg "tell_worths" = some (.ref d_tell_worths)
  m_tell_value : mg "tell_value" = some (.ref d_tell_value)
  m_tell_best : mg "tell_best" = some (.ref d_tell_best)
  m_tell_values : mg "tell_values" = some (.ref d_tell_values)
  m_tell_line : mg "tell_line" = some (.ref d_tell_line)
  m_tell_duel : mg "tell_duel" = some (.ref d_tell_duel)
  m_swap_players : mg "swap_players" = some (.ref d_swap_players)
  m_scale_money : mg "scale_money" = some (.ref d_scale_money)
  m_clear_all : mg "clear_all" = some (.ref d_clear_all)
  m_tell_tempo : mg "tell_tempo" = some (.ref d_tell_tempo)
  m_set_place : mg "set_place" = some (.ref d_set_place)
  k_Company : mg "Company" = some (.ref CC)
  F_initCC : Ini K CC "Company.__init__" s_initCC ["self", "place", "pay", "shares", "pool", "prices"]
  k_Game : mg "Game" = some (.ref CG)
  F_initCG : Ini K CG "Game.__init__" s_initCG ["self", "money", "turn", "left", "companies"]
  k_Search : mg "Search" = some (.ref CS)
  F_initCS : Ini K CS "Search.__init__" s_initCS ["self", "goal"]
  k_Desk : mg "Desk" = some (.ref CD)
  F_initCD : Ini K CD "Desk.__init__" s_initCD ["self"]
  F_value : Mt K CS "value" "Search.value" s_value ["self", "game"]
  F_chosen_value : Mt K CS "chosen_value" "Search.chosen_value" s_chosen_value ["self", "game"]
  F_best_order : Mt K CS "best_order" "Search.best_order" s_best_order ["self", "game"]
  F_begin_with : Mt K CD "begin_with" "Desk.begin_with" s_begin_with ["self", "game"]
  F_first_game : Fn K mg "first_game" s_first_game []
  F_at_place : Fn K mg "at_place" s_at_place ["company", "place"]
  F_with_company : Fn K mg "with_company" s_with_company ["companies", "number", "company"]
  F_price_of : Fn K mg "price_of" s_price_of ["company"]
  F_worth_of : Fn K mg "worth_of" s_worth_of ["game", "player"]
  F_swapped : Fn K mg "swapped" s_swapped ["game"]
  F_turned_round : Fn K mg "turned_round" s_turned_round ["pair"]
  F_with_shares : Fn K mg "with_shares" s_with_shares ["company", "shares"]
  F_scaled : Fn K mg "scaled" s_scaled ["game", "times"]
  F_scaled_company : Fn K mg "scaled_company" s_scaled_company ["company", "times"]
  F_all_times : Fn K mg "all_times" s_all_times ["numbers", "times"]
  F_with_other_turn : Fn K mg "with_other_turn" s_with_other_turn ["game"]
  F_with_place : Fn K mg "with_place" s_with_place ["game", "number", "place"]
  F_orders_of : Fn K mg "orders_of" s_orders_of ["game"]
  F_deeds_of : Fn K mg "deeds_of" s_deeds_of ["company", "player", "money"]
  F_game_behind : Fn K mg "game_behind" s_game_behind ["game", "order"]
  F_money_behind : Fn K mg "money_behind" s_money_behind ["money", "company", "player", "deed"]
  F_company_behind : Fn K mg "company_behind" s_company_behind ["company", "player", "deed"]
  F_with_more : Fn K mg "with_more" s_with_more ["pair", "player", "more"]
  F_traded : Fn K mg "traded" s_traded ["company", "player", "bought"]
  F_moved : Fn K mg "moved" s_moved ["company", "step"]
  F_best_line : Fn K mg "best_line" s_best_line ["search", "game"]
  F_duel_line : Fn K mg "duel_line" s_duel_line ["search", "game", "player", "row"]
  F_game_at_end : Fn K mg "game_at_end" s_game_at_end ["game", "given"]
  F_too_many_positions : Fn K mg "too_many_positions" s_too_many_positions ["game"]
  F_reached : Fn K mg "reached" s_reached ["game", "goal"]
  F_plays_for_most : Fn K mg "plays_for_most" s_plays_for_most ["player", "goal"]
  F_key_of : Fn K mg "key_of" s_key_of ["game"]
  F_company_fits : Fn K mg "company_fits" s_company_fits ["company"]
  F_prices_fit : Fn K mg "prices_fit" s_prices_fit ["prices"]
  F_players_fit : Fn K mg "players_fit" s_players_fit ["game"]
  F_money_fits : Fn K mg "money_fits" s_money_fits ["game"]
  F_search_refusal : Fn K mg "search_refusal" s_search_refusal ["number_fits", "game"]
  F_both_worths : Fn K mg "both_worths" s_both_worths ["game"]
  F_line_told : Fn K mg "line_told" s_line_told ["game", "given"]
  F_add_company : Fn K mg "add_company" s_add_company ["desk", "numbers", "row"]
  F_set_players : Fn K mg "set_players" s_set_players ["desk", "numbers", "row"]
  F_show : Fn K mg "show" s_show ["desk", "numbers", "row"]
  F_list_orders : Fn K mg "list_orders" s_list_orders ["desk", "numbers", "row"]
  F_play : Fn K mg "play" s_play ["desk", "numbers", "row"]
  F_undo : Fn K mg "undo" s_undo ["desk", "numbers", "row"]
  F_tell_worths : Fn K mg "tell_worths" s_tell_worths ["desk", "numbers", "row"]
  F_tell_value : Fn K mg "tell_value" s_tell_value ["desk", "numbers", "row"]
  F_tell_best : Fn K mg "tell_best" s_tell_best ["desk", "numbers", "row"]
  F_tell_values : Fn K mg "tell_values" s_tell_values ["desk", "numbers", "row"]
  F_tell_line : Fn K mg "tell_line" s_tell_line ["desk", "numbers", "row"]
  F_tell_duel : Fn K mg "tell_duel" s_tell_duel ["desk", "numbers", "row"]
  F_swap_players : Fn K mg "swap_players" s_swap_players ["desk", "numbers", "row"]
  F_scale_money : Fn K mg "scale_money" s_scale_money ["desk", "numbers", "row"]
  F_clear_all : Fn K mg "clear_all" s_clear_all ["desk", "numbers", "row"]
  F_tell_tempo : Fn K mg "tell_tempo" s_tell_tempo ["desk", "numbers", "row"]
  F_set_place : Fn K mg "set_place" s_set_place ["desk", "numbers", "row"]
section
variable (P : Program) (w : World) (K : PySem.W.Frag) (mg : Str → Option Value) (base : Heap)
def Cal (k : Nat) (x : Str) (ps : List Str) (sp : Sp) : Prop := ∃ (f : Addr) (fd : FuncData), FnOk P w K mg base CX0 k f fd ps sp ∧ mg x = some (.ref f) ∧ PySem.W.keepIn K (.ref f) = true ∧ Binds K fd ps []
def MCal (C : Addr) (k : Nat) (m : Str) (ps : List Str) (sp : Sp) : Prop := ∃ (f : Addr) (fd : FuncData), FnOk P w K mg base CX0 k f fd ps sp ∧ Meth K C m f ∧ Binds K fd ps []
/-- a class that is made: R tells what a caller has to show of the arguments -/
def Mak (k : Nat) (x : Str) (R : List V → Hp → VK → Prop) : Prop := ∃ (C f : Addr) (fd : FuncData) (ps : List Str) (sp : Sp), FnOk P w K mg base CX0 k f fd ps sp ∧ Mk K C f ∧ mg x = some (.ref C) ∧ Binds K fd ps [] ∧
  ∀ vs H Q, R vs H Q → ∀ y dx, H y = none → H dx = none → dx ≠ y → sp (.ref y :: (vs ++ [])) (upd (upd H dx (.own y)) y (.ins C dx [])) (fun v H2 => v = .non ∧ Q (.ref y) H2) E0
end
section
variable {P : Program} {w : World} {K : PySem.W.Frag} {mg : Str → Option Value} {base : Heap}
theorem Fn.cal {x : Str} {st : Stmt} {N ps : List Str} {k : Nat} {sp : Sp} (F : Fn K mg x st ps) (S : FnScope N ps (defScope st)) (len : ∀ vs H Q E, sp vs H Q E → vs.length = ps.length)
    (hbody : ∀ (f : Addr) (cdv : Value) (A : Around) (outer : List Env) (s : Shared) (H : Hp) (vs : List V) (Q : VK) (E : XK), Room k (A.deeper (envOfC x (defScope st) s.heap.objs.size f cdv)) → sp vs H Q E →
      ∃ t, PSs (cxOf CX0 P w K mg base N x (defScope st) f cdv A outer s H E).nox (defBody st) t ∧ t { nx := fun _ H' => Q .non H', rt := Q } (start N vs) H) : Cal P w K mg base (k + 1) x ps sp := by
  obtain ⟨f, fd, F, b, m⟩ := F
  exact ⟨f, fd, F.ok S len (fun cdv A outer s H vs Q E hr h => hbody f cdv A outer s H vs Q E hr h), m, F.kp, b⟩
theorem Mt.cal {C : Addr} {x qual : Str} {st : Stmt} {N ps : List Str} {k : Nat} {sp : Sp} (F : Mt K C x qual st ps) (S : FnScope N ps (defScope st)) (len : ∀ vs H Q E, sp vs H Q E → vs.length = ps.length)
    (hbody : ∀ (f : Addr) (cdv : Value) (A : Around) (outer : List Env) (s : Shared) (H : Hp) (vs : List V) (Q : VK) (E : XK), Room k (A.deeper (envOfC qual (defScope st) s.heap.objs.size f cdv)) → sp vs H Q E →
      ∃ t, PSs (cxOf CX0 P w K mg base N qual (defScope st) f cdv A outer s H E).nox (defBody st) t ∧ t { nx := fun _ H' => Q .non H', rt := Q } (start N vs) H) : MCal P w K mg base C (k + 1) x ps sp := by
  obtain ⟨f, fd, F, b, m⟩ := F
  exact ⟨f, fd, F.ok S len (fun cdv A outer s H vs Q E hr h => hbody f cdv A outer s H vs Q E hr h), m, b⟩
theorem Ini.mak {C : Addr} {x qual : Str} {st : Stmt} {N ps : List Str} {k : Nat} {sp : Sp} {R : List V → Hp → VK → Prop} (F : Ini K C qual st ps) (hm : mg x = some (.ref C)) (S : FnScope N ps (defScope st)) (len : ∀ vs H Q E, sp vs H Q E → vs.length = ps.length)
    (imp : ∀ vs H Q, R vs H Q → ∀ y dx, H y = none → H dx = none → dx ≠ y → sp (.ref y :: (vs ++ [])) (upd (upd H dx (.own y)) y (.ins C dx [])) (fun v H2 => v = .non ∧ Q (.ref y) H2) E0)
    (hbody : ∀ (f : Addr) (cdv : Value) (A : Around) (outer : List Env) (s : Shared) (H : Hp) (vs : List V) (Q : VK) (E : XK), Room k (A.deeper (envOfC qual (defScope st) s.heap.objs.size f cdv)) → sp vs H Q E →
      ∃ t, PSs (cxOf CX0 P w K mg base N qual (defScope st) f cdv A outer s H E).nox (defBody st) t ∧ t { nx := fun _ H' => Q .non H', rt := Q } (start N vs) H) : Mak P w K mg base (k + 1) x R := by
  obtain ⟨f, fd, F, b, m⟩ := F
  exact ⟨C, f, fd, ps, sp, F.ok S len (fun cdv A outer s H vs Q E hr h => hbody f cdv A outer s H vs Q E hr h), m, hm, b, imp⟩
end
def sp0 (φ : Hp → VK → Prop) : Sp := fun vs H Q _ => vs = [] ∧ φ H Q
def sp1 (φ : V → Hp → VK → Prop) : Sp := fun vs H Q _ => ∃ a, vs = [a] ∧ φ a H Q
def sp2 (φ : V → V → Hp → VK → Prop) : Sp := fun vs H Q _ => ∃ a b, vs = [a, b] ∧ φ a b H Q
def sp3 (φ : V → V → V → Hp → VK → Prop) : Sp := fun vs H Q _ => ∃ a b c, vs = [a, b, c] ∧ φ a b c H Q
def sp4 (φ : V → V → V → V → Hp → VK → Prop) : Sp := fun vs H Q _ => ∃ a b c d, vs = [a, b, c, d] ∧ φ a b c d H Q
theorem sp0_len {φ : Hp → VK → Prop} (vs : List V) (H : Hp) (Q : VK) (E : XK) (h : sp0 φ vs H Q E) : vs.length = 0 := by obtain ⟨rfl, _⟩ := h; rfl
theorem sp1_len {φ : V → Hp → VK → Prop} (vs : List V) (H : Hp) (Q : VK) (E : XK) (h : sp1 φ vs H Q E) : vs.length = 1 := by obtain ⟨_, rfl, _⟩ := h; rfl
theorem sp2_len {φ : V → V → Hp → VK → Prop} (vs : List V) (H : Hp) (Q : VK) (E : XK) (h : sp2 φ vs H Q E) : vs.length = 2 := by obtain ⟨_, _, rfl, _⟩ := h; rfl
theorem sp3_len {φ : V → V → V → Hp → VK → Prop} (vs : List V) (H : Hp) (Q : VK) (E : XK) (h : sp3 φ vs H Q E) : vs.length = 3 := by obtain ⟨_, _, _, rfl, _⟩ := h; rfl
theorem sp4_len {φ : V → V → V → V → Hp → VK → Prop} (vs : List V) (H : Hp) (Q : VK) (E : XK) (h : sp4 φ vs H Q E) : vs.length = 4 := by obtain ⟨_, _, _, _, rfl, _⟩ := h; rfl
def tC0 (φ : Hp → VK → Prop) : TE := fun _ H Q => φ H Q
def tC1 (φ : V → Hp → VK → Prop) (t1 : TE) : TE := fun σ H Q => t1 σ H fun v H1 => φ v H1 Q
def tC2 (φ : V → V → Hp → VK → Prop) (t1 t2 : TE) : TE := fun σ H Q => t1 σ H fun v H1 => t2 σ H1 fun v2 H2 => φ v v2 H2 Q
def tC3 (φ : V → V → V → Hp → VK → Prop) (t1 t2 t3 : TE) : TE := fun σ H Q => t1 σ H fun v H1 => t2 σ H1 fun v2 H2 => t3 σ H2 fun v3 H3 => φ v v2 v3 H3 Q
def tC4 (φ : V → V → V → V → Hp → VK → Prop) (t1 t2 t3 t4 : TE) : TE := fun σ H Q => t1 σ H fun v H1 => t2 σ H1 fun v2 H2 => t3 σ H2 fun v3 H3 => t4 σ H3 fun v4 H4 => φ v v2 v3 v4 H4 Q
def tM2 (C : Addr) (m : Str) (φ : V → V → Hp → VK → Prop) (to t1 : TE) : TE := fun σ H Q => to σ H fun x H1 => ∃ a dx fs, x = .ref a ∧ H1 a = some (.ins C dx fs) ∧ fs.lookup m = none ∧ t1 σ H1 fun v H2 => φ x v H2 Q
def tMk (R : List V → Hp → VK → Prop) (t : TA) : TE := fun σ H Q => t σ H fun vs H1 => R vs H1 Q
section
variable {X : Cx} {k : Nat} {x : Str} {ps : List Str} {p pos apos : Pos} {e e2 e3 e4 o : Expr} {es : List Expr} {t1 t2 t3 t4 to : TE} {t : TA}
theorem PE.eq {t t' : TE} (h : PE X e t) (q : t = t') : PE X e t' := q ▸ h
theorem pe_c0 {φ : Hp → VK → Prop} (c : Cal X.prog X.w X.K X.mg X.base k x ps (sp0 φ)) (hr : Room k X.A) (hg : Gl X x := by rfl) (hdb : (x == ("__debug__" : Str)) = false := by decide) : PE X (.Call (.Name x p) [] [] pos) (tC0 φ) := by
  obtain ⟨f, fd, F, m, kp, b⟩ := c
  refine PE.eq (pe_call0 (E := E0) F hr hg m kp b .nil pass0 hdb) ?_
  funext σ H Q
  exact propext ⟨fun h => h.2, fun h => ⟨rfl, h⟩⟩
theorem pe_c1 {φ : V → Hp → VK → Prop} (c : Cal X.prog X.w X.K X.mg X.base k x ps (sp1 φ)) (hr : Room k X.A) (h1 : PE X e t1) (hg : Gl X x := by rfl) (hdb : (x == ("__debug__" : Str)) = false := by decide) (hs : starEach [e] X.env = (false, eval e X.env) :: starEach [] X.env := by rfl) (hpl : (backTo pos (starEach [] X.env)).any (·.1) = false := by rfl) :
    PE X (.Call (.Name x p) [e] [] pos) (tC1 φ t1) := by
  obtain ⟨f, fd, F, m, kp, b⟩ := c
  refine PE.eq (pe_call (E := E0) F hr hg m kp b .nil pass0 (pa_cons h1 pa_nil hs) hdb hs hpl) ?_
  funext σ H Q
  show t1 σ H _ = t1 σ H _
  congr 1
  funext v H1
  exact propext ⟨fun ⟨_, q, h⟩ => by cases q; exact h, fun h => ⟨_, rfl, h⟩⟩
theorem pe_c2 {φ : V → V → Hp → VK → Prop} (c : Cal X.prog X.w X.K X.mg X.base k x ps (sp2 φ)) (hr : Room k X.A) (h1 : PE X e t1) (h2 : PE X e2 t2) (hg : Gl X x := by rfl) (hdb : (x == ("__debug__" : Str)) = false := by decide)
    (hs : starEach [e, e2] X.env = (false, eval e X.env) :: starEach [e2] X.env := by rfl) (hs2 : starEach [e2] X.env = (false, eval e2 X.env) :: starEach [] X.env := by rfl) (hpl : (backTo pos (starEach [e2] X.env)).any (·.1) = false := by rfl) :
    PE X (.Call (.Name x p) [e, e2] [] pos) (tC2 φ t1 t2) := by
  obtain ⟨f, fd, F, m, kp, b⟩ := c
  refine PE.eq (pe_call (E := E0) F hr hg m kp b .nil pass0 (pa_cons h1 (pa_cons h2 pa_nil hs2) hs) hdb hs hpl) ?_
  funext σ H Q
  show t1 σ H _ = t1 σ H _
  congr 1
  funext v H1
  show t2 σ H1 _ = t2 σ H1 _
  congr 1
  funext v2 H2
  exact propext ⟨fun ⟨_, _, q, h⟩ => by cases q; exact h, fun h => ⟨_, _, rfl, h⟩⟩
theorem pe_c3 {φ : V → V → V → Hp → VK → Prop} (c : Cal X.prog X.w X.K X.mg X.base k x ps (sp3 φ)) (hr : Room k X.A) (h1 : PE X e t1) (h2 : PE X e2 t2) (h3 : PE X e3 t3) (hg : Gl X x := by rfl) (hdb : (x == ("__debug__" : Str)) = false := by decide)
    (hs : starEach [e, e2, e3] X.env = (false, eval e X.env) :: starEach [e2, e3] X.env := by rfl) (hs2 : starEach [e2, e3] X.env = (false, eval e2 X.env) :: starEach [e3] X.env := by rfl) (hs3 : starEach [e3] X.env = (false, eval e3 X.env) :: starEach [] X.env := by rfl) (hpl : (backTo pos (starEach [e2, e3] X.env)).any (·.1) = false := by rfl) :
    PE X (.Call (.Name x p) [e, e2, e3] [] pos) (tC3 φ t1 t2 t3) := by
  obtain ⟨f, fd, F, m, kp, b⟩ := c
  refine PE.eq (pe_call (E := E0) F hr hg m kp b .nil pass0 (pa_cons h1 (pa_cons h2 (pa_cons h3 pa_nil hs3) hs2) hs) hdb hs hpl) ?_
  funext σ H Q
  show t1 σ H _ = t1 σ H _
  congr 1
  funext v H1
  show t2 σ H1 _ = t2 σ H1 _
  congr 1
  funext v2 H2
  show t3 σ H2 _ = t3 σ H2 _
  congr 1
  funext v3 H3
  exact propext ⟨fun ⟨_, _, _, q, h⟩ => by cases q; exact h, fun h => ⟨_, _, _, rfl, h⟩⟩
theorem pe_c4 {φ : V → V → V → V → Hp → VK → Prop} (c : Cal X.prog X.w X.K X.mg X.base k x ps (sp4 φ)) (hr : Room k X.A) (h1 : PE X e t1) (h2 : PE X e2 t2) (h3 : PE X e3 t3) (h4 : PE X e4 t4) (hg : Gl X x := by rfl) (hdb : (x == ("__debug__" : Str)) = false := by decide)
    (hs : starEach [e, e2, e3, e4] X.env = (false, eval e X.env) :: starEach [e2, e3, e4] X.env := by rfl) (hs2 : starEach [e2, e3, e4] X.env = (false, eval e2 X.env) :: starEach [e3, e4] X.env := by rfl) (hs3 : starEach [e3, e4] X.env = (false, eval e3 X.env) :: starEach [e4] X.env := by rfl) (hs4 : starEach [e4] X.env = (false, eval e4 X.env) :: starEach [] X.env := by rfl)
    (hpl : (backTo pos (starEach [e2, e3, e4] X.env)).any (·.1) = false := by rfl) :
    PE X (.Call (.Name x p) [e, e2, e3, e4] [] pos) (tC4 φ t1 t2 t3 t4) := by
  obtain ⟨f, fd, F, m, kp, b⟩ := c
  refine PE.eq (pe_call (E := E0) F hr hg m kp b .nil pass0 (pa_cons h1 (pa_cons h2 (pa_cons h3 (pa_cons h4 pa_nil hs4) hs3) hs2) hs) hdb hs hpl) ?_
  funext σ H Q
  show t1 σ H _ = t1 σ H _
  congr 1
  funext v H1
  show t2 σ H1 _ = t2 σ H1 _
  congr 1
  funext v2 H2
  show t3 σ H2 _ = t3 σ H2 _
  congr 1
  funext v3 H3
  show t4 σ H3 _ = t4 σ H3 _
  congr 1
  funext v4 H4
  exact propext ⟨fun ⟨_, _, _, _, q, h⟩ => by cases q; exact h, fun h => ⟨_, _, _, _, rfl, h⟩⟩
/-- o.m(e) of an own class, two parameters -/
theorem pe_m2 {C : Addr} {m : Str} {φ : V → V → Hp → VK → Prop} {pl : Sem Bool} (c : MCal X.prog X.w X.K X.mg X.base C k m ps (sp2 φ)) (hr : Room k X.A) (cl : Cls X.K C) (ho : PE X o to) (h1 : PE X e t1)
    (hst : starEach [e] X.env = (false, eval e X.env) :: starEach [] X.env := by rfl) (hpl : (backTo pos (starEach [] X.env)).any (·.1) = false := by rfl)
    (ht : eval (.Call (.Attribute o m apos) [e] [] pos) X.env = (do
      let ov ← eval o X.env
      standAt apos.atName
      let (f, first) ← holding [ov] (getMethod ov m pl)
      callWith pos f first (backTo pos (starEach [e] X.env)) (backToKw pos (keywordEach [] X.env))) := by rfl) :
    PE X (.Call (.Attribute o m apos) [e] [] pos) (tM2 C m φ to t1) := by
  obtain ⟨f, fd, F, mm, b⟩ := c
  refine PE.eq (pe_meth (E := E0) ho cl mm F hr b .nil pass0 (pa_cons h1 pa_nil hst) hst hpl ht) ?_
  funext σ H Q
  show to σ H _ = to σ H _
  congr 1
  funext v H1
  have e : (fun (v2 : V) (H2 : Hp) => sp2 φ (v :: ([v2] ++ [])) H2 Q E0) = fun v2 H2 => φ v v2 H2 Q := by
    funext v2 H2
    exact propext ⟨fun ⟨_, _, q, h⟩ => by cases q; exact h, fun h => ⟨_, _, rfl, h⟩⟩
  show (∃ a dx fs, _ ∧ _ ∧ _ ∧ t1 σ H1 fun (v2 : V) (H2 : Hp) => sp2 φ (v :: ([v2] ++ [])) H2 Q E0) = _
  rw [e] <;> rfl
theorem pe_mk {R : List V → Hp → VK → Prop} (c : Mak X.prog X.w X.K X.mg X.base k x R) (hr : Room (k + 1) X.A) (ha : PA X (e :: es) t) (hg : Gl X x := by rfl) (hdb : (x == ("__debug__" : Str)) = false := by decide)
    (hs : starEach (e :: es) X.env = (false, eval e X.env) :: starEach es X.env := by rfl) (hpl : (backTo pos (starEach es X.env)).any (·.1) = false := by rfl) : PE X (.Call (.Name x p) (e :: es) [] pos) (tMk R t) := by
  obtain ⟨C, f, fd, ps, sp, F, M, m, b, imp⟩ := c
  intro pins s σ H Q I h
  refine wpAny_Call_Name_kw (ld_glob I hg m ?_ hdb)
  refine PySem.W.callWith_K (h₀ := X.base) I.ok.mod.kin M.kp (thn (ha pos pins s σ H _ I h) fun us s1 ⟨vs, H1, I1, r, q⟩ => ⟨I1.kIn, ?_⟩) hs hpl
  exact run_make (E := E0) M F hr b .nil pass0 I1 r (imp vs H1 Q q)
theorem pe_mk0 {R : List V → Hp → VK → Prop} (c : Mak X.prog X.w X.K X.mg X.base k x R) (hr : Room (k + 1) X.A) (hg : Gl X x := by rfl) (hdb : (x == ("__debug__" : Str)) = false := by decide) : PE X (.Call (.Name x p) [] [] pos) (tC0 (R [])) := by
  obtain ⟨C, f, fd, ps, sp, F, M, m, b, imp⟩ := c
  intro pins s σ H Q I h
  refine wpAny_Call_Name_kw (ld_glob I hg m ?_ hdb)
  exact PySem.W.callWith_K0 I.kIn M.kp (run_make (us := []) (E := E0) M F hr b .nil pass0 I .nil (imp [] H Q h))
/-- a global int, a global object -/
theorem pe_gi {n : Int} (h : ∃ t, X.mg x = some (.int n t)) (hg : Gl X x := by rfl) (hd : (x == ("__debug__" : Str)) = false := by decide) : PE X (.Name x pos) (tC (.int n)) := by
  obtain ⟨t, h⟩ := h
  exact pe_glob hg h ⟨t, rfl⟩ hd
theorem pe_gr {a : Addr} (h : X.mg x = some (.ref a)) (hg : Gl X x := by rfl) (hd : (x == ("__debug__" : Str)) = false := by decide) : PE X (.Name x pos) (tC (.ref a)) := pe_glob hg h rfl hd
/-- t + u of any two tuples: some tuple that holds both -/
def rCatU (K : PySem.W.Frag) : R2 := fun x y H Q => ∃ a b xs ys, x = .ref a ∧ y = .ref b ∧ SqT K H a xs ∧ SqT K H b ys ∧ xs.length + ys.length ≤ sizeLine ∧ ∀ p H', Same H H' → SqT K H' p (xs ++ ys) → Q (.ref p) H'
theorem same_new {H : Hp} {p : Addr} (h : H p = none) (o : HO) : Same H (upd H p o) := fun b u q => by rw [upd_ne (ne_of_none q h)]; exact q
theorem _root_.L2.Same.rfl {H : Hp} : Same H H := fun _ _ h => h
theorem _root_.L2.Same.sqT {K : PySem.W.Frag} {H H' : Hp} {a : Addr} {xs : List V} (e : Same H H') (h : SqT K H a xs) : SqT K H' a xs := by
  rcases h with (h | ⟨o, h⟩) | h
  · exact .inl (.inl (e _ _ h))
  · exact .inl (.inr ⟨o, e _ _ h⟩)
  · exact .inr h
theorem op_catU : OpR X (binaryOp .Add) (rCatU X.K) := by
  intro pins s σ H x y v u Q I rx ry h
  obtain ⟨a, b, xs, ys, ex, ey, ha, hb, hz, q⟩ := h
  by_cases hx : xs = []
  · subst hx ex ey
    cases rx
    cases ry
    obtain ⟨its, r1, p1, _⟩ := I.tuple ha
    obtain ⟨its2, r2, p2, _⟩ := I.tuple hb
    obtain ⟨⟨cls, dd, data, sl⟩, ho, hc, n, hd⟩ := id p1
    obtain ⟨⟨cls2, dd2, data2, sl2⟩, ho2, hc2, n2, hd2⟩ := id p2
    simp only at hc hd hc2 hd2
    subst hc hd hc2 hd2
    have e0 : its = [] := r1.nil_iff.mpr rfl
    exact concat_meets ⟨_, ho, rfl⟩ ⟨_, ho2, rfl⟩ noFill_tuple_add seq_tuple_add PySem.F.slot_tuple_add PySem.F.entry_tuple_add (PySem.F.args_tuple_add_2 _ _)
      (tuple_addW0 a b its.toArray its2.toArray n n2 dd dd2 sl sl2 (by simp [e0])) ⟨ho, ho2, ⟨.ref b, H, I, rfl, q b H Same.rfl hb⟩⟩
  · exact op_catT pins s σ H x y v u Q I rx ry ⟨a, b, xs, ys, ex, ey, ha, hb, hx, hz, fun z => q a H Same.rfl (by rw [z, List.append_nil]; exact ha), fun z p hp => q p _ (same_new hp _) (SqT.of upd_same)⟩
end
structure RC where
  pl : Int
  py : Int
  s0 : Int
  s1 : Int
  po : Int
  ps : List Int
abbrev coF (v1 v2 v3 v4 v5 : V) : List (Str × V) := [("place", v1), ("pay", v2), ("shares", v3), ("pool", v4), ("prices", v5)]
abbrev gaF (v1 v2 v3 v4 : V) : List (Str × V) := [("money", v1), ("turn", v2), ("left", v3), ("companies", v4)]
abbrev seF (v1 v2 : V) : List (Str × V) := [("goal", v1), ("known", v2)]
abbrev deF (v1 v2 v3 : V) : List (Str × V) := [("game", v1), ("past", v2), ("searches", v3)]
section
variable {K : PySem.W.Frag} {mg : Str → Option Value} (T : Tx K mg)
/-- what never changes once it stands -/
def Still : HO → Prop
  | .tup _ => True
  | .ins C _ _ => C ≠ T.CD
  | .frz _ _ => True
  | _ => False
def Im (H H' : Hp) : Prop := ∀ b o, Still T o → H b = some o → H' b = some o
def CoR (H : Hp) (a : Addr) (r : RC) : Prop := ∃ dx sh pr, H a = some (.ins T.CC dx (coF (.int r.pl) (.int r.py) (.ref sh) (.int r.po) (.ref pr))) ∧ SqT K H sh [.int r.s0, .int r.s1] ∧ SqT K H pr (r.ps.map V.int)
def rc (c : Vbsgaj.Company) : RC := ⟨c.place, c.pay, c.a, c.b, c.pool, c.prices⟩
abbrev Co (H : Hp) (a : Addr) (c : Vbsgaj.Company) : Prop := CoR T H a (rc c)
def GaR (H : Hp) (a : Addr) (m0 m1 tu le : Int) (cs : List Addr) : Prop := ∃ dx mo co, H a = some (.ins T.CG dx (gaF (.ref mo) (.int tu) (.int le) (.ref co))) ∧ SqT K H mo [.int m0, .int m1] ∧ SqT K H co (cs.map V.ref)
def Cos (H : Hp) (cs : List Addr) (l : List Vbsgaj.Company) : Prop := cs.length = l.length ∧ ∀ (i : Nat) (a : Addr), cs[i]? = some a → ∃ c, l[i]? = some c ∧ Co T H a c
def Ga (H : Hp) (a : Addr) (g : Vbsgaj.Game) : Prop := ∃ cs, GaR T H a g.moneyA g.moneyB g.turn g.left cs ∧ Cos T H cs g.companies
end
section
variable {K : PySem.W.Frag} {mg : Str → Option Value} {T : Tx K mg} {H H' H2 : Hp}
theorem _root_.L2.Same.im (h : Same H H') : Im T H H' := fun b o _ e => h b o e
theorem Im.trans (a : Im T H H') (b : Im T H' H2) : Im T H H2 := fun c o s h => b c o s (a c o s h)
theorem Im.sqT {a : Addr} {xs : List V} (e : Im T H H') (h : SqT K H a xs) : SqT K H' a xs := by
  rcases h with (h | ⟨o, h⟩) | h
  · exact .inl (.inl (e _ _ True.intro h))
  · exact .inl (.inr ⟨o, e _ _ True.intro h⟩)
  · exact .inr h
theorem Im.coR {a : Addr} {r : RC} (e : Im T H H') (h : CoR T H a r) : CoR T H' a r := by
  obtain ⟨dx, sh, pr, h1, h2, h3⟩ := h
  exact ⟨dx, sh, pr, e _ _ T.neC h1, e.sqT h2, e.sqT h3⟩
theorem Im.gaR {a : Addr} {m0 m1 tu le : Int} {cs : List Addr} (e : Im T H H') (h : GaR T H a m0 m1 tu le cs) : GaR T H' a m0 m1 tu le cs := by
  obtain ⟨dx, mo, co, h1, h2, h3⟩ := h
  exact ⟨dx, mo, co, e _ _ T.neG h1, e.sqT h2, e.sqT h3⟩
theorem Im.cos {cs : List Addr} {l : List Vbsgaj.Company} (e : Im T H H') (h : Cos T H cs l) : Cos T H' cs l :=
  ⟨h.1, fun i a ha => let ⟨c, h1, h2⟩ := h.2 i a ha; ⟨c, h1, e.coR h2⟩⟩
theorem Im.ga {a : Addr} {g : Vbsgaj.Game} (e : Im T H H') (h : Ga T H a g) : Ga T H' a g := by
  obtain ⟨cs, h1, h2⟩ := h
  exact ⟨cs, e.gaR h1, e.cos h2⟩
end
end ST
set_option Elab.async false
set_option linter.all false
set_option maxRecDepth 100000
namespace ST
open PySem PySem.Spec PyProof.Rows L2 NKey
theorem lk_place (a b c d e : V) : (coF a b c d e).lookup ("place" : Str) = some a := by rfl
theorem lk_pay (a b c d e : V) : (coF a b c d e).lookup ("pay" : Str) = some b := by rfl
theorem lk_shares (a b c d e : V) : (coF a b c d e).lookup ("shares" : Str) = some c := by rfl
theorem lk_pool (a b c d e : V) : (coF a b c d e).lookup ("pool" : Str) = some d := by rfl
theorem lk_prices (a b c d e : V) : (coF a b c d e).lookup ("prices" : Str) = some e := by rfl
theorem lk_money (a b c d : V) : (gaF a b c d).lookup ("money" : Str) = some a := by rfl
theorem lk_turn (a b c d : V) : (gaF a b c d).lookup ("turn" : Str) = some b := by rfl
theorem lk_left (a b c d : V) : (gaF a b c d).lookup ("left" : Str) = some c := by rfl
theorem lk_companies (a b c d : V) : (gaF a b c d).lookup ("companies" : Str) = some d := by rfl
theorem lk_goal (a b : V) : (seF a b).lookup ("goal" : Str) = some a := by rfl
theorem lk_known (a b : V) : (seF a b).lookup ("known" : Str) = some b := by rfl
theorem lk_game (a b c : V) : (deF a b c).lookup ("game" : Str) = some a := by rfl
theorem lk_past (a b c : V) : (deF a b c).lookup ("past" : Str) = some b := by rfl
theorem lk_searches (a b c : V) : (deF a b c).lookup ("searches" : Str) = some c := by rfl
section
variable {K : PySem.W.Frag} {mg : Str → Option Value} {T : Tx K mg} {H H' H2 : Hp} {a : Addr} {r : RC} {Q : V → Prop}
def RdF (K : PySem.W.Frag) (H : Hp) (a : Addr) (f : Str) (Q : V → Prop) : Prop := ∃ a' C dx fs v, V.ref a = .ref a' ∧ H a' = some (.ins C dx fs) ∧ Cls K C ∧ NoAttr K C f ∧ fs.lookup f = some v ∧ Q v
theorem rd_place (h : CoR T H a r) (q : Q (.int r.pl)) : RdF K H a "place" Q := by
  obtain ⟨dx, sh, pr, h1, h2, h3⟩ := h
  exact ⟨a, T.CC, dx, _, _, rfl, h1, T.clCC, T.n_place, lk_place _ _ _ _ _, q⟩
theorem rd_pay (h : CoR T H a r) (q : Q (.int r.py)) : RdF K H a "pay" Q := by
  obtain ⟨dx, sh, pr, h1, h2, h3⟩ := h
  exact ⟨a, T.CC, dx, _, _, rfl, h1, T.clCC, T.n_pay, lk_pay _ _ _ _ _, q⟩
theorem rd_pool (h : CoR T H a r) (q : Q (.int r.po)) : RdF K H a "pool" Q := by
  obtain ⟨dx, sh, pr, h1, h2, h3⟩ := h
  exact ⟨a, T.CC, dx, _, _, rfl, h1, T.clCC, T.n_pool, lk_pool _ _ _ _ _, q⟩
theorem rd_shares (h : CoR T H a r) (q : ∀ b, SqT K H b [.int r.s0, .int r.s1] → Q (.ref b)) : RdF K H a "shares" Q := by
  obtain ⟨dx, sh, pr, h1, h2, h3⟩ := h
  exact ⟨a, T.CC, dx, _, _, rfl, h1, T.clCC, T.n_shares, lk_shares _ _ _ _ _, q sh h2⟩
theorem rd_prices (h : CoR T H a r) (q : ∀ b, SqT K H b (r.ps.map V.int) → Q (.ref b)) : RdF K H a "prices" Q := by
  obtain ⟨dx, sh, pr, h1, h2, h3⟩ := h
  exact ⟨a, T.CC, dx, _, _, rfl, h1, T.clCC, T.n_prices, lk_prices _ _ _ _ _, q pr h3⟩
variable {m0 m1 tu le : Int} {cs : List Addr}
theorem rd_turn (h : GaR T H a m0 m1 tu le cs) (q : Q (.int tu)) : RdF K H a "turn" Q := by
  obtain ⟨dx, mo, co, h1, h2, h3⟩ := h
  exact ⟨a, T.CG, dx, _, _, rfl, h1, T.clCG, T.n_turn, lk_turn _ _ _ _, q⟩
theorem rd_left (h : GaR T H a m0 m1 tu le cs) (q : Q (.int le)) : RdF K H a "left" Q := by
  obtain ⟨dx, mo, co, h1, h2, h3⟩ := h
  exact ⟨a, T.CG, dx, _, _, rfl, h1, T.clCG, T.n_left, lk_left _ _ _ _, q⟩
theorem rd_money (h : GaR T H a m0 m1 tu le cs) (q : ∀ b, SqT K H b [.int m0, .int m1] → Q (.ref b)) : RdF K H a "money" Q := by
  obtain ⟨dx, mo, co, h1, h2, h3⟩ := h
  exact ⟨a, T.CG, dx, _, _, rfl, h1, T.clCG, T.n_money, lk_money _ _ _ _, q mo h2⟩
theorem rd_companies (h : GaR T H a m0 m1 tu le cs) (q : ∀ b, SqT K H b (cs.map V.ref) → Q (.ref b)) : RdF K H a "companies" Q := by
  obtain ⟨dx, mo, co, h1, h2, h3⟩ := h
  exact ⟨a, T.CG, dx, _, _, rfl, h1, T.clCG, T.n_companies, lk_companies _ _ _ _, q co h3⟩
end
theorem at0 {x y : V} : atI [x, y] (0 : Int) = some x := by rfl
theorem at1 {x y : V} : atI [x, y] (1 : Int) = some y := by rfl
theorem at_map {α : Type} {f : α → V} {l : List α} {k : Nat} {c : α} (h : l[k]? = some c) : atI (l.map f) (k : Int) = some (f c) := atI_nat (by rw [List.getElem?_map, h]; rfl)
theorem at_mapZ {α : Type} {f : α → V} {l : List α} {k : Int} {c : α} (h0 : 0 ≤ k) (h : l[k.toNat]? = some c) : atI (l.map f) k = some (f c) := by
  have e : k = ((k.toNat : Nat) : Int) := by omega
  rw [e]
  exact at_map (by rw [← h] <;> rfl)
theorem szn (n : Nat) {l : List V} (e : l.length = n) (h : n ≤ 1000 := by decide) : l.length ≤ sizeLine := by rw [e]; exact Nat.le_of_lt (small1000 h)
theorem sz {n : Nat} (h : n ≤ 1000) : n ≤ sizeLine := Nat.le_of_lt (small1000 h)
/-- a pair by the player -/
def nth (x : Nat) (i j : Int) : Int := if x = 0 then i else j
theorem at_pl {x : Nat} {i j : Int} (h : x = 0 ∨ x = 1) : atI [V.int i, V.int j] (x : Int) = some (.int (nth x i j)) := by
  rcases h with h | h <;> subst h <;> rfl
theorem at_other {x : Nat} {i j : Int} (h : x = 0 ∨ x = 1) : atI [V.int i, V.int j] (1 - (x : Int)) = some (.int (nth x j i)) := by
  rcases h with h | h <;> subst h <;> rfl
theorem sc_initCC : FnScope ["self", "place", "pay", "shares", "pool", "prices"] ["self", "place", "pay", "shares", "pool", "prices"] (defScope s_initCC) := ⟨rfl, rfl, rfl, by decide +kernel, rfl, by decide +kernel, by decide +kernel⟩
theorem sc_initCG : FnScope ["self", "money", "turn", "left", "companies"] ["self", "money", "turn", "left", "companies"] (defScope s_initCG) := ⟨rfl, rfl, rfl, by decide +kernel, rfl, by decide +kernel, by decide +kernel⟩
section
variable {P : Program} {w : World} {K : PySem.W.Frag} {mg : Str → Option Value} {base : Heap}
def RCo (T : Tx K mg) : List V → Hp → VK → Prop := fun vs H Q => ∃ v1 v2 v3 v4 v5, vs = [v1, v2, v3, v4, v5] ∧ ∀ p dx H', Same H H' → H' p = some (.ins T.CC dx (coF v1 v2 v3 v4 v5)) → Q (.ref p) H'
def RGa (T : Tx K mg) : List V → Hp → VK → Prop := fun vs H Q => ∃ v1 v2 v3 v4, vs = [v1, v2, v3, v4] ∧ ∀ p dx H', Same H H' → H' p = some (.ins T.CG dx (gaF v1 v2 v3 v4)) → Q (.ref p) H'
def spIni (C : Addr) (n : Nat) (fs : List V → List (Str × V)) : Sp := fun vs H Q _ => ∃ (p dx : Addr) (us : List V), vs = .ref p :: us ∧ us.length = n ∧ H p = some (.ins C dx []) ∧ Q .non (upd H p (.ins C dx (fs us)))
theorem spIni_len {C : Addr} {n : Nat} {fs : List V → List (Str × V)} (vs : List V) (H : Hp) (Q : VK) (E : XK) (h : spIni C n fs vs H Q E) : vs.length = n + 1 := by
  obtain ⟨p, dx, us, rfl, h, _⟩ := h
  rw [List.length_cons, h]
theorem same_made {H : Hp} {x dx : Addr} (nx : H x = none) (nd : H dx = none) (o u : HO) : Same H (upd (upd H dx o) x u) := fun b z h => by
  rw [upd_ne (ne_of_none h nx), upd_ne (ne_of_none h nd)]; exact h
theorem mk_company (T : Tx K mg) : Mak P w K mg base 1 "Company" (RCo T) := by
  refine T.F_initCC.mak (k := 0) (sp := spIni T.CC 5 fun us => match us with | [a, b, c, d, e] => coF a b c d e | _ => []) T.k_Company sc_initCC spIni_len ?_ ?_
  · rintro vs H Q ⟨v1, v2, v3, v4, v5, rfl, q⟩ y dx ny nd ne
    refine ⟨y, dx, _, rfl, rfl, upd_same, rfl, q y dx _ ?_ upd_same⟩
    rw [upd_upd]
    exact same_made ny nd _ _
  · rintro f cdv A outer s H vs Q E hr ⟨p, dx, us, rfl, hl, hp, q⟩
    match us, hl with
    | [a, b, c, d, e], _ =>
      refine ⟨_, pss_cons (ps_fld (pv 0) (pv 1) rfl) (pss_cons (ps_fld (pv 0) (pv 2) rfl) (pss_cons (ps_fld (pv 0) (pv 3) rfl) (pss_cons (ps_fld (pv 0) (pv 4) rfl) (pss_one (ps_fld (pv 0) (pv 5) rfl))))), ?_⟩
      refine ⟨_, rfl, _, rfl, p, T.CC, dx, _, rfl, hp, T.clCC, T.n_place, (by show 0 < 1000; decide), ?_⟩
      refine ⟨_, rfl, _, rfl, p, T.CC, dx, _, rfl, upd_same, T.clCC, T.n_pay, (by show 1 < 1000; decide), ?_⟩
      refine ⟨_, rfl, _, rfl, p, T.CC, dx, _, rfl, upd_same, T.clCC, T.n_shares, (by show 2 < 1000; decide), ?_⟩
      refine ⟨_, rfl, _, rfl, p, T.CC, dx, _, rfl, upd_same, T.clCC, T.n_pool, (by show 3 < 1000; decide), ?_⟩
      refine ⟨_, rfl, _, rfl, p, T.CC, dx, _, rfl, upd_same, T.clCC, T.n_prices, (by show 4 < 1000; decide), ?_⟩
      rw [upd_upd, upd_upd, upd_upd, upd_upd]
      exact q
theorem mk_game (T : Tx K mg) : Mak P w K mg base 1 "Game" (RGa T) := by
  refine T.F_initCG.mak (k := 0) (sp := spIni T.CG 4 fun us => match us with | [a, b, c, d] => gaF a b c d | _ => []) T.k_Game sc_initCG spIni_len ?_ ?_
  · rintro vs H Q ⟨v1, v2, v3, v4, rfl, q⟩ y dx ny nd ne
    refine ⟨y, dx, _, rfl, rfl, upd_same, rfl, q y dx _ ?_ upd_same⟩
    rw [upd_upd]
    exact same_made ny nd _ _
  · rintro f cdv A outer s H vs Q E hr ⟨p, dx, us, rfl, hl, hp, q⟩
    match us, hl with
    | [a, b, c, d], _ =>
      refine ⟨_, pss_cons (ps_fld (pv 0) (pv 1) rfl) (pss_cons (ps_fld (pv 0) (pv 2) rfl) (pss_cons (ps_fld (pv 0) (pv 3) rfl) (pss_one (ps_fld (pv 0) (pv 4) rfl)))), ?_⟩
      refine ⟨_, rfl, _, rfl, p, T.CG, dx, _, rfl, hp, T.clCG, T.n_money, (by show 0 < 1000; decide), ?_⟩
      refine ⟨_, rfl, _, rfl, p, T.CG, dx, _, rfl, upd_same, T.clCG, T.n_turn, (by show 1 < 1000; decide), ?_⟩
      refine ⟨_, rfl, _, rfl, p, T.CG, dx, _, rfl, upd_same, T.clCG, T.n_left, (by show 2 < 1000; decide), ?_⟩
      refine ⟨_, rfl, _, rfl, p, T.CG, dx, _, rfl, upd_same, T.clCG, T.n_companies, (by show 3 < 1000; decide), ?_⟩
      rw [upd_upd, upd_upd, upd_upd]
      exact q
end
end ST
set_option Elab.async false
set_option linter.all false
set_option maxRecDepth 100000
namespace ST
open PySem PySem.Spec PyProof.Rows L2 NKey
theorem Im.updL {K : PySem.W.Frag} {mg : Str → Option Value} {T : Tx K mg} {H : Hp} {D : Addr} {acc : List V} {o : HO} (h : H D = some (.lst acc)) : Im T H (upd H D o) := fun b u su e => by
  rw [upd_ne (ne_of e h (by intro z; subst z; exact su))]
  exact e
/-- over a tuple, each element leaves the heap as it is -/
theorem lc_pureT {K : PySem.W.Frag} {a : Addr} {xs : List V} {te : TE} {vs : List Nat} {j : Nat} {σ : L2.St} {H1 : Hp} {D : Addr} {Qd : Hp → Prop} (f : V → V) (ha : SqT K H1 a xs) (hz : xs.length ≤ 1000) (hD : H1 D = none)
    (hw : ∀ x, wipe ((wipe σ vs).set j (some x)) vs = wipe σ vs) (hs : ∀ (i : Nat) (x : V) (H : Hp) (Q : VK), xs[i]? = some x → Same H1 H → Q (f x) H → te ((wipe σ vs).set j (some x)) H Q) (hd : Qd (upd H1 D (.lst (xs.map f)))) :
    ∃ W : Nat → Nat → Hp → Prop, (∃ m, W 0 m (upd H1 D (.lst []))) ∧ ∀ i m H, W i m H →
      ((Itt K a).stop i H ∧ Qd H) ∨ ((Itt K a).go i H ∧ ∃ Nx : Hp → Prop, (∀ H', Nx H' → ∃ m', m' < m ∧ W (i + 1) m' H') ∧ ∀ x H', (Itt K a).yld i H x H' → gName j x (wipe σ vs) H' fun σ2 H2 => wipe σ2 vs = wipe σ vs ∧ tYes σ2 H2 fun b H3 =>
        if b = true then te σ2 H3 fun y H4 => ∃ acc, H4 D = some (.lst acc) ∧ acc.length < sizeLine ∧ Nx (upd H4 D (.lst (acc ++ [y]))) else Nx H3) := by
  refine lc_tup (xs := xs) (fun i H => H = upd H1 D (.lst ((xs.take i).map f))) rfl (fun i H _ e => by rw [e]; exact (same_new hD _).sqT ha) (fun i x H hx e => ?_) (fun H e => by rw [e, List.take_length]; exact hd)
  refine ⟨hw x, ?_⟩
  show te ((wipe σ vs).set j (some x)) H _
  refine hs i x H _ hx (by rw [e]; exact same_new hD _) ⟨_, by rw [e]; exact upd_same, ?_, ?_⟩
  · rw [List.length_map, List.length_take]
    exact small1000 (by omega)
  · rw [e, upd_upd]
    congr 2
    rw [List.take_add_one, hx, List.map_append]
    rfl
/-- over a tuple, each element may make new things -/
theorem lc_sameT {K : PySem.W.Frag} {mg : Str → Option Value} (T : Tx K mg) {a : Addr} {xs : List V} {te : TE} {vs : List Nat} {j : Nat} {σ : L2.St} {H1 : Hp} {D : Addr} {Qd : Hp → Prop} (R : Nat → V → Hp → Prop) (mono : ∀ i y H H', Im T H H' → R i y H → R i y H')
    (ha : SqT K H1 a xs) (hz : xs.length ≤ 1000) (hD : H1 D = none)
    (hw : ∀ x, wipe ((wipe σ vs).set j (some x)) vs = wipe σ vs) (hs : ∀ (i : Nat) (x : V) (H : Hp) (Q : VK), xs[i]? = some x → Same H1 H → (∀ y H', Same H H' → R i y H' → Q y H') → te ((wipe σ vs).set j (some x)) H Q)
    (hd : ∀ H ys, Same H1 H → H D = some (.lst ys) → ys.length = xs.length → (∀ i y, ys[i]? = some y → R i y H) → Qd H) :
    ∃ W : Nat → Nat → Hp → Prop, (∃ m, W 0 m (upd H1 D (.lst []))) ∧ ∀ i m H, W i m H →
      ((Itt K a).stop i H ∧ Qd H) ∨ ((Itt K a).go i H ∧ ∃ Nx : Hp → Prop, (∀ H', Nx H' → ∃ m', m' < m ∧ W (i + 1) m' H') ∧ ∀ x H', (Itt K a).yld i H x H' → gName j x (wipe σ vs) H' fun σ2 H2 => wipe σ2 vs = wipe σ vs ∧ tYes σ2 H2 fun b H3 =>
        if b = true then te σ2 H3 fun y H4 => ∃ acc, H4 D = some (.lst acc) ∧ acc.length < sizeLine ∧ Nx (upd H4 D (.lst (acc ++ [y]))) else Nx H3) := by
  refine lc_tup (xs := xs) (fun i H => i ≤ xs.length ∧ Same H1 H ∧ ∃ ys, H D = some (.lst ys) ∧ ys.length = i ∧ ∀ i y, ys[i]? = some y → R i y H) ⟨Nat.zero_le _, same_new hD _, [], upd_same, rfl, fun i y h => by simp at h⟩ (fun i H _ e => e.2.1.sqT ha)
    (fun i x H hx e => ?_) (fun H e => by obtain ⟨_, e1, ys, e2, e3, e4⟩ := e; exact hd H ys e1 e2 e3 e4)
  obtain ⟨hi, e1, ys, e2, e3, e4⟩ := e
  refine ⟨hw x, ?_⟩
  show te ((wipe σ vs).set j (some x)) H _
  have hlt : i < xs.length := (List.getElem?_eq_some_iff.mp hx).1
  refine hs i x H _ hx e1 fun y H' s r => ⟨ys, s _ _ e2, small1000 (by omega), hlt, ?_, ys ++ [y], upd_same, by rw [List.length_append, e3]; rfl, fun i' y' h' => ?_⟩
  · intro b o hb
    rw [upd_ne (ne_of_none hb hD)]
    exact s _ _ (e1 _ _ hb)
  · refine mono i' y' H' _ (Im.updL (s _ _ e2)) ?_
    by_cases hl : i' < ys.length
    · rw [List.getElem?_append_left hl] at h'
      exact mono _ _ H H' s.im (e4 _ _ h')
    · have h2 : i' = ys.length := by
        have := (List.getElem?_eq_some_iff.mp h').1
        rw [List.length_append] at this
        simp at this
        omega
      subst h2
      rw [List.getElem?_append_right (Nat.le_refl _), Nat.sub_self] at h'
      have : y = y' := Option.some.inj h'
      subst this
      rw [e3]
      exact r
theorem take_set {α : Type} : ∀ (l : List α) (k : Nat) (y : α), k < l.length → l.take k ++ [y] ++ l.drop (k + 1) = l.set k y
  | [], _, _, h => by simp at h
  | a :: l, 0, y, _ => rfl
  | a :: l, k + 1, y, h => by
    have ih := take_set l k y (by simpa using h)
    simp only [List.take_succ_cons, List.drop_succ_cons, List.set_cons_succ, List.cons_append]
    rw [← ih]
theorem cut_to {xs : List V} {k : Nat} (h : k < xs.length) : cutV xs none (some (k : Int)) = xs.take k := by
  unfold cutV
  rw [HT.sIx_nat, HT.sIx_none, List.drop_zero, Nat.sub_zero, Nat.min_eq_left (by omega)]
theorem cut_from {xs : List V} {k : Nat} (h : k < xs.length) : cutV xs (some ((k : Int) + 1)) none = xs.drop (k + 1) := by
  unfold cutV
  have e : (k : Int) + 1 = ((k + 1 : Nat) : Int) := by omega
  rw [e, HT.sIx_nat, HT.sIx_none, Nat.min_eq_left (by omega)]
  exact List.take_of_length_le (by rw [List.length_drop]; omega)
section
variable {P : Program} {w : World} {K : PySem.W.Frag} {mg : Str → Option Value} {base : Heap}
theorem sc_price_of : FnScope ["company"] ["company"] (defScope s_price_of) := ⟨rfl, rfl, rfl, by decide +kernel, rfl, by decide +kernel, by decide +kernel⟩
def q_price_of (T : Tx K mg) : V → Hp → VK → Prop := fun v H Q => ∃ a r p, v = .ref a ∧ CoR T H a r ∧ 0 ≤ r.pl ∧ r.ps[r.pl.toNat]? = some p ∧ Q (.int p) H
theorem c_price_of (T : Tx K mg) : Cal P w K mg base 1 "price_of" ["company"] (sp1 (q_price_of T)) := by
  refine T.F_price_of.cal (k := 0) sc_price_of sp1_len fun f cdv A outer s H vs Q E hr h => ?_
  obtain ⟨_, rfl, a, r, p, rfl, h, h0, hp, q⟩ := h
  refine ⟨_, pss_one (ps_ret (pe_ix ix_tup (pe_fld (pv 0) rfl) (pe_fld (pv 0) rfl) (fun _ _ => rfl))), ?_⟩
  exact ⟨_, rfl, rd_prices h fun b hb => ⟨_, rfl, rd_place h ⟨b, _, _, _, rfl, rfl, hb, at_mapZ h0 hp, q⟩⟩⟩
theorem at_price {T : Tx K mg} {H : Hp} {a : Addr} {c : Vbsgaj.Company} {Q : VK} (h : Co T H a c) (V : VC c) (q : Q (.int (Vbsgaj.price c)) H) : q_price_of T (.ref a) H Q :=
  ⟨a, rc c, _, rfl, h, Int.natCast_nonneg _, V.price_at, q⟩
theorem sc_first_game : FnScope [] [] (defScope s_first_game) := ⟨rfl, rfl, rfl, by decide +kernel, rfl, by decide +kernel, by decide +kernel⟩
def q_first_game (T : Tx K mg) : Hp → VK → Prop := fun H Q => ∀ p H', Same H H' → Ga T H' p Vbsgaj.begun → Q (.ref p) H'
theorem c_first_game (T : Tx K mg) : Cal P w K mg base 3 "first_game" [] (sp0 (q_first_game T)) := by
  refine T.F_first_game.cal (k := 2) sc_first_game sp0_len fun f cdv A outer s H vs Q E hr h => ?_
  obtain ⟨rfl, q⟩ := h
  refine ⟨_, pss_one (ps_ret (pe_mk (mk_game T) hr (pa_cons (pe_tup (pa_cons pe_int (pa_cons pe_int pa_nil))) (pa_cons pe_int (pa_cons pe_int (pa_cons (pe_tup pa_nil) pa_nil)))))), ?_⟩
  refine ⟨szn 2 rfl, fun t ht => ⟨szn 0 rfl, fun u hu => ⟨_, _, _, _, rfl, fun p dx H' s hp => ?_⟩⟩⟩
  have s1 : Same H H' := (same_new ht _).trans ((same_new hu _).trans s)
  exact q p H' s1 ⟨[], ⟨dx, t, u, hp, SqT.of (s _ _ (same_new hu _ _ _ upd_same)), SqT.of (s _ _ upd_same)⟩, rfl, fun i a h => by simp at h⟩
theorem sc_at_place : FnScope ["company", "place"] ["company", "place"] (defScope s_at_place) := ⟨rfl, rfl, rfl, by decide +kernel, rfl, by decide +kernel, by decide +kernel⟩
def q_at_place (T : Tx K mg) : V → V → Hp → VK → Prop := fun v u H Q => ∃ a r n, v = .ref a ∧ u = .int n ∧ CoR T H a r ∧ ∀ p H', Same H H' → CoR T H' p { r with pl := n } → Q (.ref p) H'
theorem c_at_place (T : Tx K mg) : Cal P w K mg base 3 "at_place" ["company", "place"] (sp2 (q_at_place T)) := by
  refine T.F_at_place.cal (k := 2) sc_at_place sp2_len fun f cdv A outer s H vs Q E hr h => ?_
  obtain ⟨_, _, rfl, a, r, n, rfl, rfl, h, q⟩ := h
  refine ⟨_, pss_one (ps_ret (pe_mk (mk_company T) hr (pa_cons (pv 1) (pa_cons (pe_fld (pv 0) rfl) (pa_cons (pe_fld (pv 0) rfl) (pa_cons (pe_fld (pv 0) rfl) (pa_cons (pe_fld (pv 0) rfl) pa_nil))))))), ?_⟩
  exact ⟨_, rfl, _, rfl, rd_pay h ⟨_, rfl, rd_shares h fun b hb => ⟨_, rfl, rd_pool h ⟨_, rfl, rd_prices h fun c hc => ⟨_, _, _, _, _, rfl, fun p dx H' s hp => q p H' s ⟨dx, b, c, hp, s.sqT hb, s.sqT hc⟩⟩⟩⟩⟩⟩
theorem sc_with_company : FnScope ["companies", "number", "company"] ["companies", "number", "company"] (defScope s_with_company) := ⟨rfl, rfl, rfl, by decide +kernel, rfl, by decide +kernel, by decide +kernel⟩
def q_with_company (K : PySem.W.Frag) : V → V → V → Hp → VK → Prop := fun v1 v2 y H Q => ∃ a xs, ∃ k : Nat, v1 = .ref a ∧ v2 = .int k ∧ SqT K H a xs ∧ xs.length ≤ 900 ∧ k < xs.length ∧ ∀ p H', Same H H' → SqT K H' p (xs.set k y) → Q (.ref p) H'
theorem c_with_company (T : Tx K mg) : Cal P w K mg base 1 "with_company" ["companies", "number", "company"] (sp3 (q_with_company K)) := by
  refine T.F_with_company.cal (k := 0) sc_with_company sp3_len fun f cdv A outer s H vs Q E hr h => ?_
  obtain ⟨_, _, y, rfl, a, xs, k, rfl, rfl, h, hz, hk, q⟩ := h
  refine ⟨_, pss_one (ps_ret (pe_op op_catU (pe_op op_catU (pe_slice sl_tup (pv 0) po_none (po_some (pv 1))) (pe_tup (pa_cons (pv 2) pa_nil))) (pe_slice sl_tup (pv 0) (po_some (pe_op op_add (pv 1) pe_int)) po_none))), ?_⟩
  refine ⟨_, rfl, _, rfl, _, rfl, a, xs, rfl, h, ?_, fun p1 hp1 => ⟨_, rfl, szn 1 rfl, fun p2 hp2 => ⟨p1, p2, _, _, rfl, rfl, SqT.of (same_new hp2 _ _ _ upd_same), SqT.of upd_same, ?_, fun p3 H3 s3 h3 => ?_⟩⟩⟩
  · rw [HT.sIx_nat]; omega
  · refine sz ?_
    have := cutV_length xs none (some (k : Int))
    simp only [List.length_cons, List.length_nil]
    omega
  · have s4 : Same H H3 := (same_new hp1 _).trans ((same_new hp2 _).trans s3)
    refine ⟨_, rfl, ⟨_, rfl, _, _, rfl, rfl, _, rfl, a, xs, rfl, s4.sqT h, ?_, fun p4 hp4 => ⟨p3, p4, _, _, rfl, rfl, (same_new hp4 _).sqT h3, SqT.of upd_same, ?_, fun p5 H5 s5 h5 => ?_⟩⟩⟩
    · have e : (k : Int) + 1 = ((k + 1 : Nat) : Int) := by omega
      rw [e, HT.sIx_nat]; omega
    · rw [cut_to hk, cut_from hk]
      refine sz ?_
      rw [List.length_append, List.length_take, List.length_drop]
      simp only [List.length_cons, List.length_nil]
      omega
    · rw [cut_to hk, cut_from hk, take_set _ _ _ hk] at h5
      exact q p5 H5 (s4.trans ((same_new hp4 _).trans s5)) h5
theorem sc_worth_of : FnScope ["game", "player", "worth", "company"] ["game", "player"] (defScope s_worth_of) := ⟨rfl, rfl, rfl, by decide +kernel, rfl, by decide +kernel, by decide +kernel⟩
def q_worth_of (T : Tx K mg) : V → V → Hp → VK → Prop := fun v u H Q => ∃ a g, ∃ x : Nat, v = .ref a ∧ u = .int x ∧ (x = 0 ∨ x = 1) ∧ Ga T H a g ∧ VG g ∧ Q (.int (Vbsgaj.worth x g)) H
theorem nth_share {x : Nat} {c : Vbsgaj.Company} : nth x (c.a : Int) (c.b : Int) = (Vbsgaj.shareOf x c : Int) := by
  unfold nth Vbsgaj.shareOf; split <;> rfl
theorem c_worth_of (T : Tx K mg) : Cal P w K mg base 2 "worth_of" ["game", "player"] (sp2 (q_worth_of T)) := by
  refine T.F_worth_of.cal (k := 1) sc_worth_of sp2_len fun f cdv A outer s H vs Q E hr h => ?_
  obtain ⟨_, _, rfl, a, g, x, rfl, rfl, hx, ⟨cs, hg, hc⟩, G, q⟩ := h
  refine ⟨_, pss_cons (ps_set (i := 2) sc_worth_of.nd rfl (Or.inl rfl) (pe_ix ix_tup (pe_fld (pv 0) rfl) (pv 1) (fun _ _ => rfl)))
    (pss_cons (ps_for PassesOwn.never rfl (pi_tup (pe_fld (pv 0) rfl)) (pg_name (i := 3) sc_worth_of.nd rfl (Or.inl rfl))
      (pss_one (ps_aug (i := 2) sc_worth_of.nd rfl (Or.inl rfl) (pe_op op_mul (pe_c1 (c_price_of T) hr (pv 3)) (pe_ix ix_tup (pe_fld (pv 3) rfl) (pv 1) (fun _ _ => rfl))) ip_add)))
      (pss_one (ps_ret (pv 2)))), ?_⟩
  refine ⟨_, rfl, rd_money hg fun b hb => ⟨_, rfl, b, _, _, _, rfl, rfl, hb, at_pl hx, ?_⟩⟩
  refine ⟨_, rfl, rd_companies hg fun d hd => ⟨d, rfl, ⟨_, hd⟩, for_tup (K := K) (a := d) (xs := cs.map V.ref)
    (fun i σ H' => ∃ v3, σ = [some (.ref a), some (.int x), some (.int (Vbsgaj.moneyOf x g + ((g.companies.take i).map fun c => (Vbsgaj.shareOf x c : Int) * Vbsgaj.price c).sum)), v3] ∧ H' = H) ⟨none, ?_, rfl⟩ (fun i σ H' _ ⟨_, _, e⟩ => e ▸ hd) ?_ ?_⟩⟩
  · rw [List.take_zero]
    show _ = [_, _, some (V.int (Vbsgaj.moneyOf x g + 0)), _]
    rw [Int.add_zero]
    rfl
  · rintro i y σ H' hi ⟨v3, rfl, rfl⟩
    rw [List.getElem?_map] at hi
    cases e : cs[i]? with
    | none => rw [e] at hi; cases hi
    | some ca =>
      rw [e] at hi
      have ey : y = V.ref ca := (Option.some.inj hi).symm
      subst ey
      obtain ⟨c, hci, hco⟩ := hc.2 i ca e
      have VCc := G.co c (List.mem_of_getElem? hci)
      refine ⟨_, rfl, _, rfl, at_price hco VCc ⟨_, rfl, rd_shares hco fun b hb => ⟨_, rfl, b, _, _, _, rfl, rfl, hb, at_pl hx, _, _, rfl, rfl, .inl ?_, _, _, rfl, rfl, some (.ref ca), ?_, rfl⟩⟩⟩
      · have := VCc.price_in; constructor <;> omega
      · show _ = _
        rw [List.take_add_one, hci]
        simp only [List.set, Option.toList_some, List.map_append, List.map_cons, List.map_nil, List.sum_append, List.sum_cons, List.sum_nil]
        show [_, _, some (V.int (_ + Vbsgaj.price c * nth x (c.a : Int) (c.b : Int))), _] = _
        rw [nth_share, Int.mul_comm]
        congr 5
        omega
  · rintro σ H' ⟨v3, rfl, rfl⟩
    refine ⟨_, rfl, ?_⟩
    rw [List.length_map, hc.1, List.take_length]
    exact q
end
end ST
set_option Elab.async false
set_option linter.all false
set_option maxRecDepth 100000
namespace ST
open PySem PySem.Spec PyProof.Rows L2 NKey
theorem ref_of {cs : List Addr} {i : Nat} {x : V} (h : (cs.map V.ref)[i]? = some x) : ∃ a, cs[i]? = some a ∧ x = V.ref a := by
  rw [List.getElem?_map] at h
  cases e : cs[i]? with
  | none => rw [e] at h; cases h
  | some a => rw [e] at h; exact ⟨a, rfl, (Option.some.inj h).symm⟩
theorem int_of {ns : List Int} {i : Nat} {x : V} (h : (ns.map V.int)[i]? = some x) : ∃ n, ns[i]? = some n ∧ x = V.int n := by
  rw [List.getElem?_map] at h
  cases e : ns[i]? with
  | none => rw [e] at h; cases h
  | some a => rw [e] at h; exact ⟨a, rfl, (Option.some.inj h).symm⟩
/-- from a list of values, each a company's: the addresses -/
theorem refs_of {α : Type} {R : Nat → V → Prop} {S : Nat → Addr → Prop} : ∀ {ys : List V}, (∀ i y, ys[i]? = some y → ∃ p, y = V.ref p ∧ S i p) → ∃ ps : List Addr, ys = ps.map V.ref ∧ ∀ (i : Nat) (p : Addr), ps[i]? = some p → S i p
  | [], _ => ⟨[], rfl, fun i p h => by simp at h⟩
  | y :: ys, h => by
    obtain ⟨p, e, hp⟩ := h 0 y rfl
    obtain ⟨ps, e2, hps⟩ := refs_of (α := α) (R := R) (S := fun i q => S (i + 1) q) (ys := ys) fun i y' hy => h (i + 1) y' hy
    refine ⟨p :: ps, by rw [e, e2]; rfl, fun i q hq => ?_⟩
    cases i with
    | zero => have : p = q := Option.some.inj hq; subst this; exact hp
    | succ i => exact hps i q hq
section
variable {P : Program} {w : World} {K : PySem.W.Frag} {mg : Str → Option Value} {base : Heap}
theorem sc_turned_round : FnScope ["pair"] ["pair"] (defScope s_turned_round) := ⟨rfl, rfl, rfl, by decide +kernel, rfl, by decide +kernel, by decide +kernel⟩
def q_turned_round (K : PySem.W.Frag) : V → Hp → VK → Prop := fun v H Q => ∃ a x y, v = .ref a ∧ SqT K H a [x, y] ∧ ∀ p H', Same H H' → SqT K H' p [y, x] → Q (.ref p) H'
theorem c_turned_round (T : Tx K mg) : Cal P w K mg base 1 "turned_round" ["pair"] (sp1 (q_turned_round K)) := by
  refine T.F_turned_round.cal (k := 0) sc_turned_round sp1_len fun f cdv A outer s H vs Q E hr h => ?_
  obtain ⟨_, rfl, a, x, y, rfl, h, q⟩ := h
  refine ⟨_, pss_one (ps_ret (pe_tup (pa_cons (pe_ix ix_tup (pv 0) pe_int (fun _ _ => rfl)) (pa_cons (pe_ix ix_tup (pv 0) pe_int (fun _ _ => rfl)) pa_nil)))), ?_⟩
  exact ⟨_, rfl, a, _, _, _, rfl, rfl, h, at1, _, rfl, a, _, _, _, rfl, rfl, h, at0, szn 2 rfl, fun p hp => q p _ (same_new hp _) (SqT.of upd_same)⟩
theorem sc_with_shares : FnScope ["company", "shares"] ["company", "shares"] (defScope s_with_shares) := ⟨rfl, rfl, rfl, by decide +kernel, rfl, by decide +kernel, by decide +kernel⟩
def q_with_shares (T : Tx K mg) : V → V → Hp → VK → Prop := fun v u H Q => ∃ a r b i j, v = .ref a ∧ u = .ref b ∧ CoR T H a r ∧ SqT K H b [.int i, .int j] ∧ ∀ p H', Same H H' → CoR T H' p { r with s0 := i, s1 := j } → Q (.ref p) H'
theorem c_with_shares (T : Tx K mg) : Cal P w K mg base 3 "with_shares" ["company", "shares"] (sp2 (q_with_shares T)) := by
  refine T.F_with_shares.cal (k := 2) sc_with_shares sp2_len fun f cdv A outer s H vs Q E hr h => ?_
  obtain ⟨_, _, rfl, a, r, b, i, j, rfl, rfl, h, hb, q⟩ := h
  refine ⟨_, pss_one (ps_ret (pe_mk (mk_company T) hr (pa_cons (pe_fld (pv 0) rfl) (pa_cons (pe_fld (pv 0) rfl) (pa_cons (pv 1) (pa_cons (pe_fld (pv 0) rfl) (pa_cons (pe_fld (pv 0) rfl) pa_nil))))))), ?_⟩
  exact ⟨_, rfl, rd_place h ⟨_, rfl, rd_pay h ⟨_, rfl, _, rfl, rd_pool h ⟨_, rfl, rd_prices h fun c hc => ⟨_, _, _, _, _, rfl, fun p dx H' s hp => q p H' s ⟨dx, b, c, hp, s.sqT hb, s.sqT hc⟩⟩⟩⟩⟩⟩
theorem sc_swapped : FnScope ["game", "companies", "company"] ["game"] (defScope s_swapped) := ⟨rfl, rfl, rfl, by decide +kernel, rfl, by decide +kernel, by decide +kernel⟩
def q_swapped (T : Tx K mg) : V → Hp → VK → Prop := fun v H Q => ∃ a g, v = .ref a ∧ Ga T H a g ∧ VG g ∧ ∀ p H', Same H H' → Ga T H' p (Vbsgaj.swapped g) → Q (.ref p) H'
theorem turn_flip {n : Nat} (h : n = 0 ∨ n = 1) : (1 : Int) - (n : Int) = ((1 - n : Nat) : Int) := by omega
theorem c_swapped (T : Tx K mg) : Cal P w K mg base 5 "swapped" ["game"] (sp1 (q_swapped T)) := by
  refine T.F_swapped.cal (k := 4) sc_swapped sp1_len fun f cdv A outer s H vs Q E hr h => ?_
  obtain ⟨_, rfl, a, g, rfl, ⟨cs, hg, hc⟩, G, q⟩ := h
  refine ⟨_, pss_cons (ps_setLc (i := 1) (own := [("company", 2)]) rfl sc_swapped.nd rfl rfl (sw_true rfl rfl rfl rfl) (pi_tup (pe_fld (pv 0) rfl)) (blkOk_by rfl) (fun _ _ _ _ _ => pg_name (i := 2) sc_swapped.nd rfl (Or.inl rfl)) (fun _ _ _ _ _ => pts_nil)
      (by intro _ _ _ _ _; exact pe_c2 (t2 := tC1 (q_turned_round K) (tFld K (tVar 2) "shares")) (c_with_shares T) (hr.mono (by decide)) (pv 2) (pe_c1 (c_turned_round T) (hr.mono (by decide)) (pe_fld (pv 2) rfl))))
    (pss_one (ps_ret (pe_mk (mk_game T) (hr.mono (by decide)) (pa_cons (pe_c1 (c_turned_round T) (hr.mono (by decide)) (pe_fld (pv 0) rfl)) (pa_cons (pe_op op_sub pe_int (pe_fld (pv 0) rfl)) (pa_cons (pe_fld (pv 0) rfl) (pa_cons (pe_callTy call_tuple_of rfl T.b_tuple boot_tuple (pa_cons (pv 1) pa_nil)) pa_nil))))))), ?_⟩
  refine ⟨_, rfl, rd_companies hg fun d hd => ⟨d, rfl, ⟨_, hd⟩, fun D hD => lc_sameT T (fun i y H' => ∃ p c, y = .ref p ∧ g.companies[i]? = some c ∧ Co T H' p (Vbsgaj.swapCompany c)) (fun i y H1 H2 e ⟨p, c, e1, e2, e3⟩ => ⟨p, c, e1, e2, e.coR e3⟩) hd ?_ hD (fun _ => rfl) ?_ ?_⟩⟩
  · have := G.nc; have := hc.1; rw [List.length_map]; omega
  · intro i x H1 Q1 hx s1 k
    obtain ⟨ca, hca, rfl⟩ := ref_of hx
    obtain ⟨c, hci, hco⟩ := hc.2 i ca hca
    have hco := s1.im.coR hco
    refine ⟨_, rfl, _, rfl, rd_shares hco fun b hb => ⟨b, _, _, rfl, hb, fun p2 H2 s2 h2 => ⟨ca, rc c, p2, _, _, rfl, rfl, s2.im.coR hco, h2, fun p3 H3 s3 h3 => ?_⟩⟩⟩
    exact k _ H3 (s2.trans s3) ⟨p3, c, rfl, hci, h3⟩
  · intro H1 ys s1 hD1 hl hR
    obtain ⟨ps, e, hps⟩ := refs_of (α := Nat) (R := fun _ _ => True) (S := fun i p => ∃ c, g.companies[i]? = some c ∧ Co T H1 p (Vbsgaj.swapCompany c)) fun i y hy => by
      obtain ⟨p, c, e1, e2, e3⟩ := hR i y hy
      exact ⟨p, e1, c, e2, e3⟩
    subst e
    have hg1 := s1.im.gaR hg
    refine ⟨_, rfl, rd_money hg1 fun b hb => ⟨b, _, _, rfl, hb, fun p2 H2 s2 h2 => ⟨_, rfl, rd_turn (s2.im.gaR hg1) ⟨_, _, rfl, rfl, _, rfl, rd_left (s2.im.gaR hg1) ⟨_, rfl, D, _, rfl, .inl ⟨SqL.of (s2 _ _ hD1), fun l hl' => ⟨_, _, _, _, rfl, fun p dx H' s' hp => ?_⟩⟩⟩⟩⟩⟩⟩
    have s3 : Same H2 H' := (same_new hl' _).trans s'
    refine q p H' (s1.trans (s2.trans s3)) ⟨ps, ⟨dx, p2, l, ?_, s3.sqT h2, SqT.of (s' _ _ upd_same)⟩, ?_, fun i p' hp' => ?_⟩
    · rw [hp]
      show some (HO.ins T.CG dx (gaF _ (V.int ((1 : Int) - (g.turn : Int))) _ _)) = _
      rw [turn_flip G.tu] <;> rfl
    · show ps.length = (g.companies.map Vbsgaj.swapCompany).length
      rw [List.length_map, ← hc.1]
      simpa using hl
    · obtain ⟨c, hci, hco⟩ := hps i p' hp'
      refine ⟨Vbsgaj.swapCompany c, ?_, (s2.trans s3).im.coR hco⟩
      show (g.companies.map Vbsgaj.swapCompany)[i]? = _
      rw [List.getElem?_map, hci]
      rfl
theorem sc_all_times : FnScope ["numbers", "times", "number"] ["numbers", "times"] (defScope s_all_times) := ⟨rfl, rfl, rfl, by decide +kernel, rfl, by decide +kernel, by decide +kernel⟩
def mulV (k : Int) : V → V := fun v => match v with | .int n => .int (n * k) | v => v
def q_all_times (K : PySem.W.Frag) : V → V → Hp → VK → Prop := fun v u H Q => ∃ (a : Addr) (ns : List Int) (k : Int), v = .ref a ∧ u = .int k ∧ SqT K H a (ns.map V.int) ∧ ns.length ≤ 1000 ∧ 0 ≤ k ∧ k ≤ 1000000 ∧ ∀ p H', Same H H' → SqT K H' p ((ns.map (k * ·)).map V.int) → Q (.ref p) H'
theorem c_all_times (T : Tx K mg) : Cal P w K mg base 1 "all_times" ["numbers", "times"] (sp2 (q_all_times K)) := by
  refine T.F_all_times.cal (k := 0) sc_all_times sp2_len fun f cdv A outer s H vs Q E hr h => ?_
  obtain ⟨_, _, rfl, a, ns, k, rfl, rfl, h, hl, k0, k1, q⟩ := h
  refine ⟨_, pss_one (ps_ret (pe_callTy call_tuple_of rfl T.b_tuple boot_tuple (pa_cons (pe_lc (own := [("number", 2)]) rfl sc_all_times.nd (pi_tup (pv 0)) (blkOk_by rfl) (fun _ _ _ _ _ => pg_name (i := 2) sc_all_times.nd rfl (Or.inl rfl)) (fun _ _ _ _ _ => pts_nil)
      (fun _ _ _ _ _ => pe_op op_mul (pv 2) (pv 1))) pa_nil))), ?_⟩
  refine ⟨_, rfl, a, rfl, ⟨_, h⟩, fun D hD => lc_pureT (mulV k) h (by rw [List.length_map]; exact hl) hD (fun _ => rfl) ?_ ?_⟩
  · intro i x H1 Q1 hx s1 k'
    obtain ⟨n, hn, rfl⟩ := int_of hx
    refine ⟨_, rfl, _, rfl, _, _, rfl, rfl, .inr ⟨by omega, by omega⟩, k'⟩
  · refine ⟨D, _, rfl, .inl ⟨SqL.of upd_same, fun l hl => q l _ ((same_new hD _).trans (same_new hl _)) ?_⟩⟩
    have e : (ns.map V.int).map (mulV k) = (ns.map (k * ·)).map V.int := by
      rw [List.map_map, List.map_map]
      congr 1
      funext n
      show V.int (n * k) = V.int (k * n)
      rw [Int.mul_comm]
    rw [← e]
    exact SqT.of upd_same
theorem sc_scaled_company : FnScope ["company", "times", "prices"] ["company", "times"] (defScope s_scaled_company) := ⟨rfl, rfl, rfl, by decide +kernel, rfl, by decide +kernel, by decide +kernel⟩
def q_scaled_company (T : Tx K mg) : V → V → Hp → VK → Prop := fun v u H Q => ∃ a r k, v = .ref a ∧ u = .int k ∧ CoR T H a r ∧ r.ps.length ≤ 1000 ∧ 0 ≤ k ∧ k ≤ 1000000 ∧ ∀ p H', Same H H' → CoR T H' p { r with py := k * r.py, ps := r.ps.map (k * ·) } → Q (.ref p) H'
theorem c_scaled_company (T : Tx K mg) : Cal P w K mg base 3 "scaled_company" ["company", "times"] (sp2 (q_scaled_company T)) := by
  refine T.F_scaled_company.cal (k := 2) sc_scaled_company sp2_len fun f cdv A outer s H vs Q E hr h => ?_
  obtain ⟨_, _, rfl, a, r, k, rfl, rfl, h, hl, k0, k1, q⟩ := h
  refine ⟨_, pss_cons (ps_set (i := 2) sc_scaled_company.nd rfl (Or.inl rfl) (pe_c2 (c_all_times T) (hr.mono (by decide)) (pe_fld (pv 0) rfl) (pv 1)))
    (pss_one (ps_ret (pe_mk (mk_company T) hr (pa_cons (pe_fld (pv 0) rfl) (pa_cons (pe_op op_mul (pe_fld (pv 0) rfl) (pv 1)) (pa_cons (pe_fld (pv 0) rfl) (pa_cons (pe_fld (pv 0) rfl) (pa_cons (pv 2) pa_nil)))))))), ?_⟩
  refine ⟨_, rfl, rd_prices h fun b hb => ⟨_, rfl, b, _, _, rfl, rfl, hb, hl, k0, k1, fun p1 H1 s1 h1 => ?_⟩⟩
  have h' := s1.im.coR h
  refine ⟨_, rfl, rd_place h' ⟨_, rfl, rd_pay h' ⟨_, rfl, _, _, rfl, rfl, .inr ⟨by omega, by omega⟩, _, rfl, rd_shares h' fun c hc => ⟨_, rfl, rd_pool h' ⟨_, rfl, _, _, _, _, _, rfl, fun p dx H' s hp => q p H' (s1.trans s) ⟨dx, c, p1, ?_, s.sqT hc, s.sqT h1⟩⟩⟩⟩⟩⟩
  rw [hp, Int.mul_comm]
theorem sc_scaled : FnScope ["game", "times", "companies", "company"] ["game", "times"] (defScope s_scaled) := ⟨rfl, rfl, rfl, by decide +kernel, rfl, by decide +kernel, by decide +kernel⟩
def q_scaled (T : Tx K mg) : V → V → Hp → VK → Prop := fun v u H Q => ∃ a g k, v = .ref a ∧ u = .int k ∧ Ga T H a g ∧ VG g ∧ 0 ≤ k ∧ k ≤ 1000000 ∧ ∀ p H', Same H H' → Ga T H' p (Vbsgaj.scaled k g) → Q (.ref p) H'
theorem c_scaled (T : Tx K mg) : Cal P w K mg base 5 "scaled" ["game", "times"] (sp2 (q_scaled T)) := by
  refine T.F_scaled.cal (k := 4) sc_scaled sp2_len fun f cdv A outer s H vs Q E hr h => ?_
  obtain ⟨_, _, rfl, a, g, k, rfl, rfl, ⟨cs, hg, hc⟩, G, k0, k1, q⟩ := h
  refine ⟨_, pss_cons (ps_setLc (i := 2) (own := [("company", 3)]) rfl sc_scaled.nd rfl rfl (sw_true rfl rfl rfl rfl) (pi_tup (pe_fld (pv 0) rfl)) (blkOk_by rfl) (fun _ _ _ _ _ => pg_name (i := 3) sc_scaled.nd rfl (Or.inl rfl)) (fun _ _ _ _ _ => pts_nil)
      (fun _ _ _ _ _ => pe_c2 (c_scaled_company T) (hr.mono (by decide)) (pv 3) (pv 1)))
    (pss_one (ps_ret (pe_mk (mk_game T) (hr.mono (by decide)) (pa_cons (pe_c2 (c_all_times T) (hr.mono (by decide)) (pe_fld (pv 0) rfl) (pv 1)) (pa_cons (pe_fld (pv 0) rfl) (pa_cons (pe_fld (pv 0) rfl) (pa_cons (pe_callTy call_tuple_of rfl T.b_tuple boot_tuple (pa_cons (pv 2) pa_nil)) pa_nil))))))), ?_⟩
  refine ⟨_, rfl, rd_companies hg fun d hd => ⟨d, rfl, ⟨_, hd⟩, fun D hD => lc_sameT T (fun i y H' => ∃ p c, y = .ref p ∧ g.companies[i]? = some c ∧ Co T H' p (Vbsgaj.scaleCompany k c)) (fun i y H1 H2 e ⟨p, c, e1, e2, e3⟩ => ⟨p, c, e1, e2, e.coR e3⟩) hd ?_ hD (fun _ => rfl) ?_ ?_⟩⟩
  · have := G.nc; have := hc.1; rw [List.length_map]; omega
  · intro i x H1 Q1 hx s1 k'
    obtain ⟨ca, hca, rfl⟩ := ref_of hx
    obtain ⟨c, hci, hco⟩ := hc.2 i ca hca
    have hco := s1.im.coR hco
    have := (G.co c (List.mem_of_getElem? hci)).n8
    refine ⟨_, rfl, _, rfl, ca, rc c, k, rfl, rfl, hco, by show c.prices.length ≤ 1000; omega, k0, k1, fun p3 H3 s3 h3 => ?_⟩
    exact k' _ H3 s3 ⟨p3, c, rfl, hci, h3⟩
  · intro H1 ys s1 hD1 hl hR
    obtain ⟨ps, e, hps⟩ := refs_of (α := Nat) (R := fun _ _ => True) (S := fun i p => ∃ c, g.companies[i]? = some c ∧ Co T H1 p (Vbsgaj.scaleCompany k c)) fun i y hy => by
      obtain ⟨p, c, e1, e2, e3⟩ := hR i y hy
      exact ⟨p, e1, c, e2, e3⟩
    subst e
    have hg1 := s1.im.gaR hg
    refine ⟨_, rfl, rd_money hg1 fun b hb => ⟨_, rfl, b, [g.moneyA, g.moneyB], k, rfl, rfl, hb, by show 2 ≤ 1000; decide, k0, k1, fun p2 H2 s2 h2 => ⟨_, rfl, rd_turn (s2.im.gaR hg1) ⟨_, rfl, rd_left (s2.im.gaR hg1) ⟨_, rfl, D, _, rfl, .inl ⟨SqL.of (s2 _ _ hD1), fun l hl' => ⟨_, _, _, _, rfl, fun p dx H' s' hp => ?_⟩⟩⟩⟩⟩⟩⟩
    have s3 : Same H2 H' := (same_new hl' _).trans s'
    refine q p H' (s1.trans (s2.trans s3)) ⟨ps, ⟨dx, p2, l, hp, s3.sqT h2, SqT.of (s' _ _ upd_same)⟩, ?_, fun i p' hp' => ?_⟩
    · show ps.length = (g.companies.map (Vbsgaj.scaleCompany k)).length
      rw [List.length_map, ← hc.1]
      simpa using hl
    · obtain ⟨c, hci, hco⟩ := hps i p' hp'
      refine ⟨Vbsgaj.scaleCompany k c, ?_, (s2.trans s3).im.coR hco⟩
      show (g.companies.map (Vbsgaj.scaleCompany k))[i]? = _
      rw [List.getElem?_map, hci]
      rfl
theorem sc_with_other_turn : FnScope ["game"] ["game"] (defScope s_with_other_turn) := ⟨rfl, rfl, rfl, by decide +kernel, rfl, by decide +kernel, by decide +kernel⟩
def q_with_other_turn (T : Tx K mg) : V → Hp → VK → Prop := fun v H Q => ∃ a g, v = .ref a ∧ Ga T H a g ∧ VG g ∧ ∀ p H', Same H H' → Ga T H' p { g with turn := 1 - g.turn } → Q (.ref p) H'
theorem c_with_other_turn (T : Tx K mg) : Cal P w K mg base 3 "with_other_turn" ["game"] (sp1 (q_with_other_turn T)) := by
  refine T.F_with_other_turn.cal (k := 2) sc_with_other_turn sp1_len fun f cdv A outer s H vs Q E hr h => ?_
  obtain ⟨_, rfl, a, g, rfl, ⟨cs, hg, hc⟩, G, q⟩ := h
  refine ⟨_, pss_one (ps_ret (pe_mk (mk_game T) hr (pa_cons (pe_fld (pv 0) rfl) (pa_cons (pe_op op_sub pe_int (pe_fld (pv 0) rfl)) (pa_cons (pe_fld (pv 0) rfl) (pa_cons (pe_fld (pv 0) rfl) pa_nil)))))), ?_⟩
  refine ⟨_, rfl, rd_money hg fun b hb => ⟨_, rfl, rd_turn hg ⟨_, _, rfl, rfl, _, rfl, rd_left hg ⟨_, rfl, rd_companies hg fun c hcs => ⟨_, _, _, _, rfl, fun p dx H' s' hp => ?_⟩⟩⟩⟩⟩
  refine q p H' s' ⟨cs, ⟨dx, b, c, ?_, s'.sqT hb, s'.sqT hcs⟩, s'.im.cos hc⟩
  rw [hp]
  show some (HO.ins T.CG dx (gaF _ (V.int ((1 : Int) - (g.turn : Int))) _ _)) = _
  rw [turn_flip G.tu] <;> rfl
theorem sc_with_place : FnScope ["game", "number", "place", "company"] ["game", "number", "place"] (defScope s_with_place) := ⟨rfl, rfl, rfl, by decide +kernel, rfl, by decide +kernel, by decide +kernel⟩
def q_with_place (T : Tx K mg) : V → V → V → Hp → VK → Prop := fun v u z H Q => ∃ a g c, ∃ k n : Nat, v = .ref a ∧ u = .int k ∧ z = .int n ∧ Ga T H a g ∧ VG g ∧ g.companies[k]? = some c ∧
  ∀ p H', Same H H' → Ga T H' p { g with companies := g.companies.set k { c with place := n } } → Q (.ref p) H'
theorem Cos.set {T : Tx K mg} {H : Hp} {cs : List Addr} {l : List Vbsgaj.Company} {k : Nat} {p : Addr} {c : Vbsgaj.Company} (h : Cos T H cs l) (hp : Co T H p c) : Cos T H (cs.set k p) (l.set k c) := by
  refine ⟨by rw [List.length_set, List.length_set]; exact h.1, fun i a ha => ?_⟩
  by_cases e : k = i
  · subst e
    have hk : k < cs.length := by
      have := (List.getElem?_eq_some_iff.mp ha).1
      rwa [List.length_set] at this
    rw [List.getElem?_set_self hk] at ha
    have : p = a := Option.some.inj ha
    subst this
    exact ⟨c, List.getElem?_set_self (by rw [← h.1]; exact hk), hp⟩
  · rw [List.getElem?_set_ne e] at ha
    obtain ⟨d, hd, hco⟩ := h.2 i a ha
    exact ⟨d, by rw [List.getElem?_set_ne e]; exact hd, hco⟩
theorem Cos.at {T : Tx K mg} {H : Hp} {cs : List Addr} {l : List Vbsgaj.Company} {k : Nat} {c : Vbsgaj.Company} (h : Cos T H cs l) (hc : l[k]? = some c) : ∃ a, cs[k]? = some a ∧ Co T H a c ∧ k < cs.length := by
  have hk : k < cs.length := by rw [h.1]; exact (List.getElem?_eq_some_iff.mp hc).1
  obtain ⟨d, hd, hco⟩ := h.2 k cs[k] (List.getElem?_eq_getElem hk)
  rw [hc] at hd
  have : c = d := Option.some.inj hd
  subst this
  exact ⟨_, List.getElem?_eq_getElem hk, hco, hk⟩
theorem c_with_place (T : Tx K mg) : Cal P w K mg base 4 "with_place" ["game", "number", "place"] (sp3 (q_with_place T)) := by
  refine T.F_with_place.cal (k := 3) sc_with_place sp3_len fun f cdv A outer s H vs Q E hr h => ?_
  obtain ⟨_, _, _, rfl, a, g, c, k, n, rfl, rfl, rfl, ⟨cs, hg, hc⟩, G, hk, q⟩ := h
  refine ⟨_, pss_cons (ps_set (i := 3) sc_with_place.nd rfl (Or.inl rfl) (pe_c2 (c_at_place T) hr (pe_ix ix_tup (pe_fld (pv 0) rfl) (pv 1) (fun _ _ => rfl)) (pv 2)))
    (pss_one (ps_ret (pe_mk (mk_game T) (hr.mono (by decide)) (pa_cons (pe_fld (pv 0) rfl) (pa_cons (pe_fld (pv 0) rfl) (pa_cons (pe_fld (pv 0) rfl) (pa_cons (pe_c3 (c_with_company T) (hr.mono (by decide)) (pe_fld (pv 0) rfl) (pv 1) (pv 3)) pa_nil))))))), ?_⟩
  obtain ⟨ca, hca, hco, hlt⟩ := hc.at hk
  refine ⟨_, rfl, rd_companies hg fun d hd => ⟨_, rfl, d, _, _, _, rfl, rfl, hd, at_map hca, _, rfl, ca, rc c, n, rfl, rfl, hco, fun p1 H1 s1 h1 => ?_⟩⟩
  have hg1 := s1.im.gaR hg
  refine ⟨_, rfl, rd_money hg1 fun b hb => ⟨_, rfl, rd_turn hg1 ⟨_, rfl, rd_left hg1 ⟨_, rfl, rd_companies hg1 fun e he => ⟨_, rfl, _, rfl, e, _, k, rfl, rfl, he, ?_, ?_, fun p2 H2 s2 h2 => ⟨_, _, _, _, rfl, fun p dx H' s' hp => ?_⟩⟩⟩⟩⟩⟩
  · have := G.nc; have := hc.1; rw [List.length_map]; omega
  · rw [List.length_map]; exact hlt
  · refine q p H' (s1.trans (s2.trans s')) ⟨cs.set k p1, ⟨dx, b, p2, hp, (s2.trans s').sqT hb, ?_⟩, ?_⟩
    · rw [List.map_set]
      exact s'.sqT h2
    · exact ((s1.trans (s2.trans s')).im.cos hc).set ((s2.trans s').im.coR h1)
end
end ST
set_option Elab.async false
set_option linter.all false
set_option maxRecDepth 100000
namespace ST
open PySem PySem.Spec PyProof.Rows L2 NKey
theorem itI {i j : Int} {A B : Prop} (h1 : i = j → A) (h2 : i ≠ j → B) : if decide (V.int i = V.int j) = true then A else B := by
  by_cases e : i = j
  · subst e; rw [if_pos (decide_eq_true rfl)]; exact h1 rfl
  · rw [if_neg (by intro q; exact e (V.int.inj (of_decide_eq_true q)))]; exact h2 e
theorem itD {p A B : Prop} [Decidable p] (h1 : p → A) (h2 : ¬ p → B) : if decide p = true then A else B := by
  by_cases e : p
  · rw [if_pos (decide_eq_true e)]; exact h1 e
  · rw [if_neg (by intro q; exact e (of_decide_eq_true q))]; exact h2 e
theorem itN {i j : Int} {A B : Prop} (h1 : i ≠ j → A) (h2 : i = j → B) : if (!decide (V.int i = V.int j)) = true then A else B := by
  by_cases e : i = j
  · subst e; rw [if_neg (by simp)]; exact h2 rfl
  · rw [if_pos (by have : ¬ V.int i = V.int j := fun q => e (V.int.inj q); simp [this])]; exact h1 e
section
variable {P : Program} {w : World} {K : PySem.W.Frag} {mg : Str → Option Value} {base : Heap}
theorem sc_with_more : FnScope ["pair", "player", "more"] ["pair", "player", "more"] (defScope s_with_more) := ⟨rfl, rfl, rfl, by decide +kernel, rfl, by decide +kernel, by decide +kernel⟩
def q_with_more (K : PySem.W.Frag) : V → V → V → Hp → VK → Prop := fun v u z H Q => ∃ (a : Addr) (i j : Int) (x : Nat) (n : Int), v = .ref a ∧ u = .int x ∧ z = .int n ∧ SqT K H a [.int i, .int j] ∧
  ∀ p H', Same H H' → SqT K H' p [.int (addP x n (i, j)).1, .int (addP x n (i, j)).2] → Q (.ref p) H'
theorem c_with_more (T : Tx K mg) : Cal P w K mg base 1 "with_more" ["pair", "player", "more"] (sp3 (q_with_more K)) := by
  refine T.F_with_more.cal (k := 0) sc_with_more sp3_len fun f cdv A outer s H vs Q E hr h => ?_
  obtain ⟨_, _, _, rfl, a, i, j, x, n, rfl, rfl, rfl, h, q⟩ := h
  refine ⟨_, pss_cons (ps_if (pt_cmpR op_eq (pv 1) pe_int (nomark _)) (pss_one (ps_ret (pe_tup (pa_cons (pe_op op_add (pe_ix ix_tup (pv 0) pe_int (fun _ _ => rfl)) (pv 2)) (pa_cons (pe_ix ix_tup (pv 0) pe_int (fun _ _ => rfl)) pa_nil))))) pss_nil)
    (pss_one (ps_ret (pe_tup (pa_cons (pe_ix ix_tup (pv 0) pe_int (fun _ _ => rfl)) (pa_cons (pe_op op_add (pe_ix ix_tup (pv 0) pe_int (fun _ _ => rfl)) (pv 2)) pa_nil))))), ?_⟩
  refine ⟨_, rfl, rfl, _, rfl, itI (fun c => ?_) (fun c => ?_)⟩
  · refine ⟨_, rfl, a, _, _, _, rfl, rfl, h, at0, _, rfl, _, _, rfl, rfl, _, rfl, a, _, _, _, rfl, rfl, h, at1, szn 2 rfl, fun p hp => q p _ (same_new hp _) ?_⟩
    have : x = 0 := by omega
    unfold addP
    rw [if_pos this]
    exact SqT.of upd_same
  · refine ⟨_, rfl, a, _, _, _, rfl, rfl, h, at0, _, rfl, a, _, _, _, rfl, rfl, h, at1, _, rfl, _, _, rfl, rfl, szn 2 rfl, fun p hp => q p _ (same_new hp _) ?_⟩
    have : ¬ x = 0 := by omega
    unfold addP
    rw [if_neg this]
    exact SqT.of upd_same
theorem sc_traded : FnScope ["company", "player", "bought", "shares"] ["company", "player", "bought"] (defScope s_traded) := ⟨rfl, rfl, rfl, by decide +kernel, rfl, by decide +kernel, by decide +kernel⟩
def q_traded (T : Tx K mg) : V → V → V → Hp → VK → Prop := fun v u z H Q => ∃ (a : Addr) (r : RC) (x : Nat) (n : Int), v = .ref a ∧ u = .int x ∧ z = .int n ∧ CoR T H a r ∧
  ∀ p H', Same H H' → CoR T H' p { r with s0 := (addP x n (r.s0, r.s1)).1, s1 := (addP x n (r.s0, r.s1)).2, po := r.po - n } → Q (.ref p) H'
theorem c_traded (T : Tx K mg) : Cal P w K mg base 3 "traded" ["company", "player", "bought"] (sp3 (q_traded T)) := by
  refine T.F_traded.cal (k := 2) sc_traded sp3_len fun f cdv A outer s H vs Q E hr h => ?_
  obtain ⟨_, _, _, rfl, a, r, x, n, rfl, rfl, rfl, h, q⟩ := h
  refine ⟨_, pss_cons (ps_set (i := 3) sc_traded.nd rfl (Or.inl rfl) (pe_c3 (c_with_more T) (hr.mono (by decide)) (pe_fld (pv 0) rfl) (pv 1) (pv 2)))
    (pss_one (ps_ret (pe_mk (mk_company T) hr (pa_cons (pe_fld (pv 0) rfl) (pa_cons (pe_fld (pv 0) rfl) (pa_cons (pv 3) (pa_cons (pe_op op_sub (pe_fld (pv 0) rfl) (pv 2)) (pa_cons (pe_fld (pv 0) rfl) pa_nil)))))))), ?_⟩
  refine ⟨_, rfl, rd_shares h fun b hb => ⟨_, rfl, _, rfl, b, _, _, x, n, rfl, rfl, rfl, hb, fun p1 H1 s1 h1 => ?_⟩⟩
  have h' := s1.im.coR h
  exact ⟨_, rfl, rd_place h' ⟨_, rfl, rd_pay h' ⟨_, rfl, _, rfl, rd_pool h' ⟨_, rfl, _, _, rfl, rfl, _, rfl, rd_prices h' fun c hc => ⟨_, _, _, _, _, rfl, fun p dx H' s hp => q p H' (s1.trans s) ⟨dx, p1, c, hp, s.sqT h1, s.sqT hc⟩⟩⟩⟩⟩⟩
theorem sc_moved : FnScope ["company", "step"] ["company", "step"] (defScope s_moved) := ⟨rfl, rfl, rfl, by decide +kernel, rfl, by decide +kernel, by decide +kernel⟩
def mv (pl n : Int) (L : Nat) : Int := if (L : Int) - 1 < (if 0 > pl + n then 0 else pl + n) then (L : Int) - 1 else (if 0 > pl + n then 0 else pl + n)
def q_moved (T : Tx K mg) : V → V → Hp → VK → Prop := fun v u H Q => ∃ (a : Addr) (r : RC) (n : Int), v = .ref a ∧ u = .int n ∧ CoR T H a r ∧ ∀ p H', Same H H' → CoR T H' p { r with pl := mv r.pl n r.ps.length } → Q (.ref p) H'
theorem c_moved (T : Tx K mg) : Cal P w K mg base 4 "moved" ["company", "step"] (sp2 (q_moved T)) := by
  refine T.F_moved.cal (k := 3) sc_moved sp2_len fun f cdv A outer s H vs Q E hr h => ?_
  obtain ⟨_, _, rfl, a, r, n, rfl, rfl, h, q⟩ := h
  refine ⟨_, pss_one (ps_ret (pe_c2 (c_at_place T) hr (pv 0) (pe_callB (call_min2 rfl) rfl T.b_min boot_min (pa_cons (pe_callB (call_max2 rfl) rfl T.b_max boot_max (pa_cons (pe_op op_add (pe_fld (pv 0) rfl) (pv 1)) (pa_cons pe_int pa_nil)))
    (pa_cons (pe_op op_sub (pe_callB call_len_seq rfl T.b_len PySem.boot_len (pa_cons (pe_fld (pv 0) rfl) pa_nil)) pe_int) pa_nil))))), ?_⟩
  refine ⟨_, rfl, _, rfl, rd_place h ⟨_, rfl, _, _, rfl, rfl, _, _, rfl, _, rfl, rd_prices h fun b hb => ⟨b, _, rfl, .inr hb, _, _, rfl, rfl, _, _, rfl, a, r, _, rfl, rfl, h, fun p H' s h' => ?_⟩⟩⟩
  refine q p H' s ?_
  have e : (r.ps.map V.int).length = r.ps.length := List.length_map _
  rw [← e]
  exact h'
theorem mv_down {c : Vbsgaj.Company} (G : VC c) : mv (c.place : Int) (-1) c.prices.length = ((c.place - 1 : Nat) : Int) := by
  have := G.pl
  unfold mv
  (repeat' split) <;> omega
theorem mv_up {c : Vbsgaj.Company} (G : VC c) : mv (c.place : Int) 1 c.prices.length = ((if c.place + 1 < c.prices.length then c.place + 1 else c.place : Nat) : Int) := by
  have := G.pl
  unfold mv
  (repeat' split) <;> omega
theorem rc_up {c : Vbsgaj.Company} (G : VC c) : { rc c with pl := mv (rc c).pl 1 (rc c).ps.length } = rc (Vbsgaj.up c) := by
  show RC.mk (mv (c.place : Int) 1 c.prices.length) _ _ _ _ _ = _
  rw [mv_up G]; rfl
theorem rc_down {c : Vbsgaj.Company} (G : VC c) : { rc c with pl := mv (rc c).pl (-1) (rc c).ps.length } = rc (Vbsgaj.down c) := by
  show RC.mk (mv (c.place : Int) (-1) c.prices.length) _ _ _ _ _ = _
  rw [mv_down G]; rfl
theorem rc_bought {c : Vbsgaj.Company} {x : Nat} (h : 0 < c.pool) : { rc c with s0 := (addP x 1 ((rc c).s0, (rc c).s1)).1, s1 := (addP x 1 ((rc c).s0, (rc c).s1)).2, po := (rc c).po - 1 } = rc (Vbsgaj.bought x c) := by
  have e : (c.pool : Int) - 1 = ((c.pool - 1 : Nat) : Int) := by omega
  show RC.mk _ _ _ _ ((c.pool : Int) - 1) _ = _
  rw [e]
  unfold addP Vbsgaj.bought
  by_cases hx : x = 0
  · rw [if_pos hx, if_pos hx]; rfl
  · rw [if_neg hx, if_neg hx]; rfl
/-- shares sold, the price not yet moved -/
def sold0 (x : Nat) (c : Vbsgaj.Company) : Vbsgaj.Company := if x = 0 then { c with a := c.a - 1, pool := c.pool + 1 } else { c with b := c.b - 1, pool := c.pool + 1 }
theorem sold_eq (x : Nat) (c : Vbsgaj.Company) : Vbsgaj.sold x c = Vbsgaj.down (sold0 x c) := rfl
theorem vc_sold0 {c : Vbsgaj.Company} (G : VC c) (x : Nat) : VC (sold0 x c) := by
  unfold sold0; split <;> exact ⟨G.n1, G.n8, G.pl, G.pr, G.py⟩
theorem rc_sold {c : Vbsgaj.Company} {x : Nat} (h : 0 < Vbsgaj.shareOf x c) : { rc c with s0 := (addP x (-1) ((rc c).s0, (rc c).s1)).1, s1 := (addP x (-1) ((rc c).s0, (rc c).s1)).2, po := (rc c).po - -1 } = rc (sold0 x c) := by
  have e : (c.pool : Int) - -1 = ((c.pool + 1 : Nat) : Int) := by omega
  show RC.mk _ _ _ _ ((c.pool : Int) - -1) _ = _
  rw [e]
  unfold Vbsgaj.shareOf at h
  unfold addP sold0
  by_cases hx : x = 0
  · rw [if_pos hx] at h
    rw [if_pos hx, if_pos hx]
    have e : (c.a : Int) + -1 = ((c.a - 1 : Nat) : Int) := by omega
    show RC.mk _ _ ((c.a : Int) + -1) _ _ _ = _
    rw [e]; rfl
  · rw [if_neg hx] at h
    rw [if_neg hx, if_neg hx]
    have e : (c.b : Int) + -1 = ((c.b - 1 : Nat) : Int) := by omega
    show RC.mk _ _ _ ((c.b : Int) + -1) _ _ = _
    rw [e]; rfl
theorem sc_company_behind : FnScope ["company", "player", "deed"] ["company", "player", "deed"] (defScope s_company_behind) := ⟨rfl, rfl, rfl, by decide +kernel, rfl, by decide +kernel, by decide +kernel⟩
def q_company_behind (T : Tx K mg) : V → V → V → Hp → VK → Prop := fun v u z H Q => ∃ (a : Addr) (c : Vbsgaj.Company) (x d : Nat), v = .ref a ∧ u = .int x ∧ z = .int d ∧ Co T H a c ∧ VC c ∧ (d = 1 → 0 < c.pool) ∧ (d = 2 → 0 < Vbsgaj.shareOf x c) ∧
  ∀ p H', Same H H' → Co T H' p (chD x d c) → Q (.ref p) H'
theorem c_company_behind (T : Tx K mg) : Cal P w K mg base 5 "company_behind" ["company", "player", "deed"] (sp3 (q_company_behind T)) := by
  refine T.F_company_behind.cal (k := 4) sc_company_behind sp3_len fun f cdv A outer s H vs Q E hr h => ?_
  obtain ⟨_, _, _, rfl, a, c, x, d, rfl, rfl, rfl, h, G, h1, h2, q⟩ := h
  refine ⟨_, pss_cons (ps_if (pt_cmpR op_eq (pv 2) (pe_gi T.i_BUY) (nomark _)) (pss_one (ps_ret (pe_c3 (c_traded T) (hr.mono (by decide)) (pv 0) (pv 1) pe_int))) pss_nil)
    (pss_cons (ps_if (pt_cmpR op_eq (pv 2) (pe_gi T.i_SELL) (nomark _)) (pss_one (ps_ret (pe_c2 (c_moved T) hr (pe_c3 (c_traded T) (hr.mono (by decide)) (pv 0) (pv 1) (pe_un un_neg pe_int)) (pe_un un_neg pe_int)))) pss_nil)
    (pss_cons (ps_if (pt_cmpR op_eq (pv 2) (pe_gi T.i_PAY_OUT) (nomark _)) (pss_one (ps_ret (pe_c2 (c_moved T) hr (pv 0) pe_int))) pss_nil)
    (pss_one (ps_ret (pe_c2 (c_moved T) hr (pv 0) (pe_un un_neg pe_int)))))), ?_⟩
  refine ⟨_, rfl, rfl, _, rfl, itI (fun e1 => ?_) (fun e1 => ?_)⟩
  · have e1 : d = 1 := by omega
    refine ⟨_, rfl, _, rfl, a, rc c, x, 1, rfl, rfl, rfl, h, fun p H' s h' => q p H' s ?_⟩
    rw [rc_bought (h1 e1)] at h'
    unfold chD
    rw [if_pos e1]
    exact h'
  refine ⟨_, rfl, rfl, _, rfl, itI (fun e2 => ?_) (fun e2 => ?_)⟩
  · have e1 : ¬ d = 1 := by omega
    have e2 : d = 2 := by omega
    refine ⟨_, rfl, _, rfl, _, rfl, a, rc c, x, -1, rfl, rfl, rfl, h, fun p H' s h' => ?_⟩
    rw [rc_sold (h2 e2)] at h'
    refine ⟨_, rfl, p, rc (sold0 x c), -1, rfl, rfl, h', fun p2 H2 s2 h2 => q p2 H2 (s.trans s2) ?_⟩
    rw [rc_down (vc_sold0 G x)] at h2
    unfold chD
    rw [if_neg e1, if_pos e2, sold_eq]
    exact h2
  refine ⟨_, rfl, rfl, _, rfl, itI (fun e3 => ?_) (fun e3 => ?_)⟩
  · have e1 : ¬ d = 1 := by omega
    have e2 : ¬ d = 2 := by omega
    have e3 : d = 3 := by omega
    refine ⟨_, rfl, a, rc c, 1, rfl, rfl, h, fun p H' s h' => q p H' s ?_⟩
    rw [rc_up G] at h'
    unfold chD
    rw [if_neg e1, if_neg e2, if_pos e3]
    exact h'
  · have e1 : ¬ d = 1 := by omega
    have e2 : ¬ d = 2 := by omega
    have e3 : ¬ d = 3 := by omega
    refine ⟨_, rfl, _, rfl, a, rc c, -1, rfl, rfl, h, fun p H' s h' => q p H' s ?_⟩
    rw [rc_down G] at h'
    unfold chD
    rw [if_neg e1, if_neg e2, if_neg e3]
    exact h'
theorem sc_money_behind : FnScope ["money", "company", "player", "deed"] ["money", "company", "player", "deed"] (defScope s_money_behind) := ⟨rfl, rfl, rfl, by decide +kernel, rfl, by decide +kernel, by decide +kernel⟩
def q_money_behind (T : Tx K mg) : V → V → V → V → Hp → VK → Prop := fun v1 v2 v3 v4 H Q => ∃ (m a : Addr) (i j : Int) (c : Vbsgaj.Company) (x d : Nat), v1 = .ref m ∧ v2 = .ref a ∧ v3 = .int x ∧ v4 = .int d ∧ SqT K H m [.int i, .int j] ∧ Co T H a c ∧ VC c ∧
  ∀ p H', Same H H' → SqT K H' p [.int (monD x d c (i, j)).1, .int (monD x d c (i, j)).2] → Q (.ref p) H'
theorem c_money_behind (T : Tx K mg) : Cal P w K mg base 2 "money_behind" ["money", "company", "player", "deed"] (sp4 (q_money_behind T)) := by
  refine T.F_money_behind.cal (k := 1) sc_money_behind sp4_len fun f cdv A outer s H vs Q E hr h => ?_
  obtain ⟨_, _, _, _, rfl, m, a, i, j, c, x, d, rfl, rfl, rfl, rfl, hm, h, G, q⟩ := h
  refine ⟨_, pss_cons (ps_if (pt_cmpR op_eq (pv 3) (pe_gi T.i_BUY) (nomark _)) (pss_one (ps_ret (pe_c3 (c_with_more T) hr (pv 0) (pv 2) (pe_un un_neg (pe_c1 (c_price_of T) hr (pv 1)))))) pss_nil)
    (pss_cons (ps_if (pt_cmpR op_eq (pv 3) (pe_gi T.i_SELL) (nomark _)) (pss_one (ps_ret (pe_c3 (c_with_more T) hr (pv 0) (pv 2) (pe_c1 (c_price_of T) hr (pv 1))))) pss_nil)
    (pss_cons (ps_if (pt_cmpR op_eq (pv 3) (pe_gi T.i_PAY_OUT) (nomark _)) (pss_one (ps_ret (pe_tup
      (pa_cons (pe_op op_add (pe_ix ix_tup (pv 0) pe_int (fun _ _ => rfl)) (pe_op op_mul (pe_fld (pv 1) rfl) (pe_ix ix_tup (pe_fld (pv 1) rfl) pe_int (fun _ _ => rfl))))
      (pa_cons (pe_op op_add (pe_ix ix_tup (pv 0) pe_int (fun _ _ => rfl)) (pe_op op_mul (pe_fld (pv 1) rfl) (pe_ix ix_tup (pe_fld (pv 1) rfl) pe_int (fun _ _ => rfl)))) pa_nil))))) pss_nil)
    (pss_one (ps_ret (pv 0))))), ?_⟩
  have py := G.py
  refine ⟨_, rfl, rfl, _, rfl, itI (fun e1 => ?_) (fun e1 => ?_)⟩
  · have e1 : d = 1 := by omega
    refine ⟨_, rfl, _, rfl, _, rfl, at_price h G ⟨_, rfl, m, i, j, x, _, rfl, rfl, rfl, hm, fun p H' s h' => q p H' s ?_⟩⟩
    unfold monD
    rw [if_pos e1]
    exact h'
  refine ⟨_, rfl, rfl, _, rfl, itI (fun e2 => ?_) (fun e2 => ?_)⟩
  · have e1 : ¬ d = 1 := by omega
    have e2 : d = 2 := by omega
    refine ⟨_, rfl, _, rfl, _, rfl, at_price h G ⟨m, i, j, x, _, rfl, rfl, rfl, hm, fun p H' s h' => q p H' s ?_⟩⟩
    unfold monD
    rw [if_neg e1, if_pos e2]
    exact h'
  refine ⟨_, rfl, rfl, _, rfl, itI (fun e3 => ?_) (fun e3 => ?_)⟩
  · have e1 : ¬ d = 1 := by omega
    have e2 : ¬ d = 2 := by omega
    have e3 : d = 3 := by omega
    refine ⟨_, rfl, m, _, _, _, rfl, rfl, hm, at0, _, rfl, rd_pay h ⟨_, rfl, rd_shares h fun b hb => ⟨b, _, _, _, rfl, rfl, hb, at0, _, _, rfl, rfl, .inl ?_, _, _, rfl, rfl,
      _, rfl, m, _, _, _, rfl, rfl, hm, at1, _, rfl, rd_pay h ⟨_, rfl, rd_shares h fun b2 hb2 => ⟨b2, _, _, _, rfl, rfl, hb2, at1, _, _, rfl, rfl, .inl ?_, _, _, rfl, rfl, szn 2 rfl, fun p hp => q p _ (same_new hp _) ?_⟩⟩⟩⟩⟩
    · show -(2 ^ 64) < c.pay ∧ c.pay < 2 ^ 64
      constructor <;> omega
    · show -(2 ^ 64) < c.pay ∧ c.pay < 2 ^ 64
      constructor <;> omega
    · unfold monD
      rw [if_neg e1, if_neg e2, if_pos e3]
      exact SqT.of upd_same
  · have e1 : ¬ d = 1 := by omega
    have e2 : ¬ d = 2 := by omega
    have e3 : ¬ d = 3 := by omega
    refine ⟨_, rfl, q m H Same.rfl ?_⟩
    unfold monD
    rw [if_neg e1, if_neg e2, if_neg e3]
    exact hm
theorem sc_game_behind : FnScope ["game", "order", "money", "companies", "number", "deed", "company"] ["game", "order"] (defScope s_game_behind) := ⟨rfl, rfl, rfl, by decide +kernel, rfl, by decide +kernel, by decide +kernel⟩
def q_game_behind (T : Tx K mg) : V → V → Hp → VK → Prop := fun v u H Q => ∃ (a : Addr) (g : Vbsgaj.Game) (o : Nat), v = .ref a ∧ u = .int o ∧ Ga T H a g ∧ VG g ∧ Vbsgaj.may g o = true ∧ 0 < g.left ∧ ∀ p H', Same H H' → Ga T H' p (Vbsgaj.played g o) → Q (.ref p) H'
theorem left_down {n : Nat} (h : 0 < n) : (n : Int) - 1 = ((n - 1 : Nat) : Int) := by omega
theorem c_game_behind (T : Tx K mg) : Cal P w K mg base 6 "game_behind" ["game", "order"] (sp2 (q_game_behind T)) := by
  refine T.F_game_behind.cal (k := 5) sc_game_behind sp2_len fun f cdv A outer s H vs Q E hr h => ?_
  obtain ⟨_, _, rfl, a, g, o, rfl, rfl, ⟨cs, hg, hc⟩, G, hm, hl, q⟩ := h
  have nd := sc_game_behind.nd
  refine ⟨_, pss_cons (ps_set (i := 2) nd rfl (Or.inl rfl) (pe_fld (pv 0) rfl)) (pss_cons (ps_set (i := 3) nd rfl (Or.inl rfl) (pe_fld (pv 0) rfl))
    (pss_cons (ps_if (pt_cmpR op_ne (pv 1) (pe_gi T.i_PASS) (nomark _))
      (pss_cons (ps_set (i := 4) nd rfl (Or.inl rfl) (pe_op op_fdiv (pe_op op_sub (pv 1) pe_int) (pe_gi T.i_DEEDS)))
      (pss_cons (ps_set (i := 5) nd rfl (Or.inl rfl) (pe_op op_sub (pv 1) (pe_op op_mul (pe_gi T.i_DEEDS) (pv 4))))
      (pss_cons (ps_set (i := 6) nd rfl (Or.inl rfl) (pe_ix ix_tup (pv 3) (pv 4) (fun _ _ => rfl)))
      (pss_cons (ps_set (i := 2) nd rfl (Or.inl rfl) (pe_c4 (c_money_behind T) (hr.mono (by decide)) (pv 2) (pv 6) (pe_fld (pv 0) rfl) (pv 5)))
      (pss_one (ps_set (i := 3) nd rfl (Or.inl rfl) (pe_c3 (c_with_company T) (hr.mono (by decide)) (pv 3) (pv 4) (pe_c3 (c_company_behind T) hr (pv 6) (pe_fld (pv 0) rfl) (pv 5))))))))) pss_nil)
    (pss_one (ps_ret (pe_mk (mk_game T) (hr.mono (by decide)) (pa_cons (pv 2) (pa_cons (pe_op op_sub pe_int (pe_fld (pv 0) rfl)) (pa_cons (pe_op op_sub (pe_fld (pv 0) rfl) pe_int) (pa_cons (pv 3) pa_nil))))))))), ?_⟩
  refine ⟨_, rfl, rd_money hg fun mo hmo => ⟨_, rfl, rd_companies hg fun co hco => ⟨_, rfl, rfl, _, rfl, itN (fun e0 => ?_) (fun e0 => ?_)⟩⟩⟩
  · have h0 : o ≠ 0 := by omega
    obtain ⟨c, hci, m1, m2⟩ := may_co h0 hm
    obtain ⟨ca, hca, hcoa, hlt⟩ := hc.at hci
    have Gc := G.co c (List.mem_of_getElem? hci)
    have en : ((o : Int) - 1) / 4 = ((Vbsgaj.companyOf o : Nat) : Int) := by unfold Vbsgaj.companyOf; omega
    have ed : (o : Int) - 4 * ((Vbsgaj.companyOf o : Nat) : Int) = ((Vbsgaj.kindOf o : Nat) : Int) := by
      unfold Vbsgaj.companyOf Vbsgaj.kindOf; rw [if_neg h0]; omega
    refine ⟨_, rfl, _, _, rfl, rfl, _, _, rfl, rfl, ⟨by decide, by decide⟩, ?_⟩
    show tSeq _ _ _ [some (.ref a), some (.int o), some (.ref mo), some (.ref co), some (.int (((o : Int) - 1) / 4)), none, none] H
    rw [en]
    refine ⟨_, rfl, _, rfl, _, _, rfl, rfl, .inl ⟨by decide, by decide⟩, _, _, rfl, rfl, ?_⟩
    show tSeq _ _ _ [some (.ref a), some (.int o), some (.ref mo), some (.ref co), some (.int (Vbsgaj.companyOf o : Nat)), some (.int ((o : Int) - 4 * ((Vbsgaj.companyOf o : Nat) : Int))), none] H
    rw [ed]
    refine ⟨_, rfl, _, rfl, co, _, _, _, rfl, rfl, hco, at_map hca, ?_⟩
    refine ⟨_, rfl, _, rfl, _, rfl, rd_turn hg ⟨_, rfl, mo, ca, _, _, c, g.turn, _, rfl, rfl, rfl, rfl, hmo, hcoa, Gc, fun p1 H1 s1 h1 => ?_⟩⟩
    refine ⟨_, rfl, _, rfl, _, rfl, _, rfl, rd_turn (s1.im.gaR hg) ⟨_, rfl, ca, c, g.turn, _, rfl, rfl, rfl, s1.im.coR hcoa, Gc, fun z => (m1 z).1, m2, fun p2 H2 s2 h2 => ?_⟩⟩
    refine ⟨co, _, _, rfl, rfl, (s1.trans s2).sqT hco, ?_, ?_, fun p3 H3 s3 h3 => ?_⟩
    · have := G.nc; have := hc.1; rw [List.length_map]; omega
    · rw [List.length_map]; exact hlt
    have s13 := s1.trans (s2.trans s3)
    refine ⟨_, rfl, _, rfl, rd_turn (s13.im.gaR hg) ⟨_, _, rfl, rfl, _, rfl, rd_left (s13.im.gaR hg) ⟨_, _, rfl, rfl, _, rfl, _, _, _, _, rfl, fun p dx H' s' hp => ?_⟩⟩⟩
    refine q p H' (s13.trans s') ?_
    rw [played_co h0 rfl hci]
    refine ⟨cs.set (Vbsgaj.companyOf o) p2, ⟨dx, p1, p3, ?_, (s2.trans (s3.trans s')).sqT h1, ?_⟩, ?_⟩
    · rw [hp]
      show some (HO.ins T.CG dx (gaF _ (V.int ((1 : Int) - (g.turn : Int))) (V.int ((g.left : Int) - 1)) _)) = _
      rw [turn_flip G.tu, left_down hl] <;> rfl
    · rw [List.map_set]
      exact s'.sqT h3
    · exact ((s13.trans s').im.cos hc).set ((s3.trans s').im.coR h2)
  · have h0 : o = 0 := by omega
    subst h0
    refine ⟨_, rfl, _, rfl, rd_turn hg ⟨_, _, rfl, rfl, _, rfl, rd_left hg ⟨_, _, rfl, rfl, _, rfl, _, _, _, _, rfl, fun p dx H' s' hp => ?_⟩⟩⟩
    refine q p H' s' ⟨cs, ⟨dx, mo, co, ?_, s'.sqT hmo, s'.sqT hco⟩, s'.im.cos hc⟩
    rw [hp, played_pass]
    show some (HO.ins T.CG dx (gaF _ (V.int ((1 : Int) - (g.turn : Int))) (V.int ((g.left : Int) - 1)) _)) = _
    rw [turn_flip G.tu, left_down hl] <;> rfl
end
end ST
set_option Elab.async false
set_option linter.all false
set_option maxRecDepth 100000
namespace ST
open PySem PySem.Spec PyProof.Rows L2 NKey
theorem ip_mul {X : Cx} : PIp X .Mult (fun x y H Q => ∃ i j, x = .int i ∧ y = .int j ∧ CMul i j ∧ Q (.int (i * j)) H) := by
  intro pins s σ H x y v u Q I r1 r2 h
  obtain ⟨i, j, e1, e2, hc, q⟩ := h
  subst e1; subst e2
  obtain ⟨t, rfl⟩ := r1
  obtain ⟨t', rfl⟩ := r2
  exact imul_int ⟨.int _, H, I.tok _, ⟨_, rfl⟩, q⟩ hc.ok
/-- data of ints and tuples stays -/
theorem Im.dpT {K : PySem.W.Frag} {mg : Str → Option Value} {T : Tx K mg} {H H' : Hp} (e : Im T H H') : ∀ (n : Nat) (d : PyData) (v : V), pl n d = true → Dp K H v d → Dp K H' v d := by
  intro n
  induction n with
  | zero =>
    intro d v hp h
    cases h <;> simp [pl] at hp
    exact .int _
  | succ n ih =>
    intro d v hp h
    cases h <;> simp [pl] at hp
    · exact .int _
    · rename_i a xs ds hs ha
      have all : ∀ (ds : List PyData) (vs : List V), (∀ d ∈ ds, pl n d = true) → DpAll K H vs ds → DpAll K H' vs ds := by
        intro ds
        induction ds with
        | nil => intro vs _ h; cases h; exact .nil
        | cons d ds ihd =>
          intro vs hq h
          cases h with
          | cons h1 h2 => exact .cons (ih _ _ (hq _ (by simp)) h1) (ihd _ (fun d hd => hq d (List.mem_cons_of_mem _ hd)) h2)
      exact .tup (e.sqT hs) (all _ _ hp ha)
section
variable {P : Program} {w : World} {K : PySem.W.Frag} {mg : Str → Option Value} {base : Heap}
theorem sc_deeds_of : FnScope ["company", "player", "money", "found", "own"] ["company", "player", "money"] (defScope s_deeds_of) := ⟨rfl, rfl, rfl, by decide +kernel, rfl, by decide +kernel, by decide +kernel⟩
abbrev nV (l : List Nat) : List V := l.map fun (n : Nat) => V.int (n : Int)
def q_deeds_of (T : Tx K mg) : V → V → V → Hp → VK → Prop := fun v u z H Q => ∃ (a : Addr) (c : Vbsgaj.Company) (x : Nat) (m : Int), v = .ref a ∧ u = .int x ∧ z = .int m ∧ (x = 0 ∨ x = 1) ∧ Co T H a c ∧ VC c ∧
  ∀ p, H p = none → Q (.ref p) (upd H p (.lst (nV (deeds c x m))))
theorem nth_pres {x : Nat} {c : Vbsgaj.Company} (hx : x = 0 ∨ x = 1) : (nth x (c.b : Int) (c.a : Int) < (Vbsgaj.shareOf x c : Int)) ↔ Vbsgaj.presides x c = true := by
  rcases hx with h | h <;> subst h <;> simp [nth, Vbsgaj.shareOf, Vbsgaj.presides]
theorem c_deeds_of (T : Tx K mg) : Cal P w K mg base 2 "deeds_of" ["company", "player", "money"] (sp3 (q_deeds_of T)) := by
  refine T.F_deeds_of.cal (k := 1) sc_deeds_of sp3_len fun f cdv A outer s H vs Q E hr h => ?_
  obtain ⟨_, _, _, rfl, a, c, x, m, rfl, rfl, rfl, hx, h, G, q⟩ := h
  have nd := sc_deeds_of.nd
  refine ⟨_, pss_cons (ps_set (i := 3) nd rfl (Or.inl rfl) (pe_lst pa_nil)) (pss_cons (ps_set (i := 4) nd rfl (Or.inl rfl) (pe_ix ix_tup (pe_fld (pv 0) rfl) (pv 1) (fun _ _ => rfl)))
    (pss_cons (ps_if (PW.pt (pw_and (pt_cmpR op_gt (pe_fld (pv 0) rfl) pe_int (nomark _)) (pw_and1 (pt_cmpR op_le (pe_c1 (c_price_of T) hr (pv 0)) (pv 2) (nomark _)))))
      (pss_one (ps_expr (pe_bm PySem.F.plainAttrs_list PySem.F.slot_list_append PySem.F.type_list_append mt_append (pv 3) (pa_cons (pe_gi T.i_BUY) pa_nil)))) pss_nil)
    (pss_cons (ps_if (pt_cmpR op_gt (pv 4) pe_int (nomark _))
      (pss_one (ps_expr (pe_bm PySem.F.plainAttrs_list PySem.F.slot_list_append PySem.F.type_list_append mt_append (pv 3) (pa_cons (pe_gi T.i_SELL) pa_nil)))) pss_nil)
    (pss_cons (ps_if (pt_cmpR op_gt (pv 4) (pe_ix ix_tup (pe_fld (pv 0) rfl) (pe_op op_sub pe_int (pv 1)) (fun _ _ => rfl)) (nomark _))
      (pss_cons (ps_expr (pe_bm PySem.F.plainAttrs_list PySem.F.slot_list_append PySem.F.type_list_append mt_append (pv 3) (pa_cons (pe_gi T.i_PAY_OUT) pa_nil)))
      (pss_one (ps_expr (pe_bm PySem.F.plainAttrs_list PySem.F.slot_list_append PySem.F.type_list_append mt_append (pv 3) (pa_cons (pe_gi T.i_KEEP) pa_nil))))) pss_nil)
    (pss_one (ps_ret (pv 3))))))), ?_⟩
  refine ⟨szn 0 rfl, fun p hp => ?_⟩
  have im : ∀ L, Im T H (upd H p (.lst L)) := fun L => (same_new hp _).im
  refine ⟨_, rfl, rd_shares ((im _).coR h) fun b hb => ⟨_, rfl, b, _, _, _, rfl, rfl, hb, at_pl hx, ?_⟩⟩
  show tSeq _ _ _ [some (.ref a), some (.int x), some (.int m), some (.ref p), some (.int (nth x (c.a : Int) (c.b : Int)))] (upd H p (.lst []))
  rw [nth_share]
  -- the last test and the answer, at any list so far
  have fin : ∀ (L : List Nat), L.length ≤ 10 → ∀ L', L' = L ++ (if Vbsgaj.presides x c = true then [3, 4] else []) → L' = deeds c x m → Q (.ref p) (upd H p (.lst (nV L'))) := fun L _ L' _ e2 => by rw [e2]; exact q p hp
  have l1 : ∀ (L : List Nat) (n : Nat), L.length ≤ 10 → (nV L).length < sizeLine := fun L n hL => by rw [List.length_map]; exact small1000 (by omega)
  refine ⟨_, rfl, rd_pool ((im _).coR h) ⟨_, _, rfl, rfl, _, rfl, itD (fun c1 => ⟨_, rfl, at_price ((im _).coR h) G ⟨_, rfl, _, _, rfl, rfl, _, rfl, itD (fun c2 => ?_) (fun c2 => ?_)⟩⟩) (fun c1 => ?_)⟩⟩
  · have d1 : (decide (0 < c.pool) && decide (Vbsgaj.price c ≤ m)) = true := by
      have : 0 < c.pool := by have : (0 : Int) < (c.pool : Int) := c1; omega
      simp [this, c2]
    refine ⟨_, rfl, .inl ⟨rfl, _, SqL.of upd_same⟩, p, _, _, rfl, rfl, upd_same, (by show 0 < sizeLine; decide), ?_⟩
    rw [upd_upd]
    refine ⟨_, rfl, _, _, rfl, rfl, _, rfl, itD (fun c3 => ?_) (fun c3 => ?_)⟩
    · refine ⟨_, rfl, .inl ⟨rfl, _, SqL.of upd_same⟩, p, _, _, rfl, rfl, upd_same, (by show 1 < sizeLine; decide), ?_⟩
      rw [upd_upd]
      refine ⟨_, rfl, _, rfl, rd_shares ((im _).coR h) fun b hb => ⟨_, rfl, _, _, rfl, rfl, b, _, _, _, rfl, rfl, hb, at_other hx, _, _, rfl, rfl, _, rfl, itD (fun c4 => ?_) (fun c4 => ?_)⟩⟩
      · refine ⟨_, rfl, .inl ⟨rfl, _, SqL.of upd_same⟩, p, _, _, rfl, rfl, upd_same, (by show 2 < sizeLine; decide), ?_⟩
        rw [upd_upd]
        refine ⟨_, rfl, .inl ⟨rfl, _, SqL.of upd_same⟩, p, _, _, rfl, rfl, upd_same, (by show 3 < sizeLine; decide), ?_⟩
        rw [upd_upd]
        refine ⟨_, rfl, ?_⟩
        have c3 : 0 < Vbsgaj.shareOf x c := by have : (0 : Int) < (Vbsgaj.shareOf x c : Int) := c3; omega
        have c4 := (nth_pres hx).mp c4
        have e : deeds c x m = [1, 2, 3, 4] := by unfold deeds; rw [if_pos d1, if_pos c3, if_pos c4]; rfl
        have := q p hp
        rw [e] at this
        exact this
      · refine ⟨_, rfl, ?_⟩
        have c3 : 0 < Vbsgaj.shareOf x c := by have : (0 : Int) < (Vbsgaj.shareOf x c : Int) := c3; omega
        have c4 : ¬ Vbsgaj.presides x c = true := fun z => c4 ((nth_pres hx).mpr z)
        have e : deeds c x m = [1, 2] := by unfold deeds; rw [if_pos d1, if_pos c3, if_neg c4]; rfl
        have := q p hp
        rw [e] at this
        exact this
    · refine ⟨_, rfl, _, rfl, rd_shares ((im _).coR h) fun b hb => ⟨_, rfl, _, _, rfl, rfl, b, _, _, _, rfl, rfl, hb, at_other hx, _, _, rfl, rfl, _, rfl, itD (fun c4 => ?_) (fun c4 => ?_)⟩⟩
      · refine ⟨_, rfl, .inl ⟨rfl, _, SqL.of upd_same⟩, p, _, _, rfl, rfl, upd_same, (by show 1 < sizeLine; decide), ?_⟩
        rw [upd_upd]
        refine ⟨_, rfl, .inl ⟨rfl, _, SqL.of upd_same⟩, p, _, _, rfl, rfl, upd_same, (by show 2 < sizeLine; decide), ?_⟩
        rw [upd_upd]
        refine ⟨_, rfl, ?_⟩
        have c3 : ¬ 0 < Vbsgaj.shareOf x c := by have : ¬ (0 : Int) < (Vbsgaj.shareOf x c : Int) := c3; omega
        have c4 := (nth_pres hx).mp c4
        have e : deeds c x m = [1, 3, 4] := by unfold deeds; rw [if_pos d1, if_neg c3, if_pos c4]; rfl
        have := q p hp
        rw [e] at this
        exact this
      · refine ⟨_, rfl, ?_⟩
        have c3 : ¬ 0 < Vbsgaj.shareOf x c := by have : ¬ (0 : Int) < (Vbsgaj.shareOf x c : Int) := c3; omega
        have c4 : ¬ Vbsgaj.presides x c = true := fun z => c4 ((nth_pres hx).mpr z)
        have e : deeds c x m = [1] := by unfold deeds; rw [if_pos d1, if_neg c3, if_neg c4]; rfl
        have := q p hp
        rw [e] at this
        exact this
  all_goals
    have d1 : ¬ (decide (0 < c.pool) && decide (Vbsgaj.price c ≤ m)) = true := by
      intro z
      rw [Bool.and_eq_true, decide_eq_true_eq, decide_eq_true_eq] at z
      first
        | exact c2 z.2
        | exact c1 (by show (0 : Int) < (c.pool : Int); omega)
    refine ⟨_, rfl, _, _, rfl, rfl, _, rfl, itD (fun c3 => ?_) (fun c3 => ?_)⟩
    · refine ⟨_, rfl, .inl ⟨rfl, _, SqL.of upd_same⟩, p, _, _, rfl, rfl, upd_same, (by show 0 < sizeLine; decide), ?_⟩
      rw [upd_upd]
      refine ⟨_, rfl, _, rfl, rd_shares ((im _).coR h) fun b hb => ⟨_, rfl, _, _, rfl, rfl, b, _, _, _, rfl, rfl, hb, at_other hx, _, _, rfl, rfl, _, rfl, itD (fun c4 => ?_) (fun c4 => ?_)⟩⟩
      · refine ⟨_, rfl, .inl ⟨rfl, _, SqL.of upd_same⟩, p, _, _, rfl, rfl, upd_same, (by show 1 < sizeLine; decide), ?_⟩
        rw [upd_upd]
        refine ⟨_, rfl, .inl ⟨rfl, _, SqL.of upd_same⟩, p, _, _, rfl, rfl, upd_same, (by show 2 < sizeLine; decide), ?_⟩
        rw [upd_upd]
        refine ⟨_, rfl, ?_⟩
        have c3 : 0 < Vbsgaj.shareOf x c := by have : (0 : Int) < (Vbsgaj.shareOf x c : Int) := c3; omega
        have c4 := (nth_pres hx).mp c4
        have e : deeds c x m = [2, 3, 4] := by unfold deeds; rw [if_neg d1, if_pos c3, if_pos c4]; rfl
        have := q p hp
        rw [e] at this
        exact this
      · refine ⟨_, rfl, ?_⟩
        have c3 : 0 < Vbsgaj.shareOf x c := by have : (0 : Int) < (Vbsgaj.shareOf x c : Int) := c3; omega
        have c4 : ¬ Vbsgaj.presides x c = true := fun z => c4 ((nth_pres hx).mpr z)
        have e : deeds c x m = [2] := by unfold deeds; rw [if_neg d1, if_pos c3, if_neg c4]; rfl
        have := q p hp
        rw [e] at this
        exact this
    · refine ⟨_, rfl, _, rfl, rd_shares ((im _).coR h) fun b hb => ⟨_, rfl, _, _, rfl, rfl, b, _, _, _, rfl, rfl, hb, at_other hx, _, _, rfl, rfl, _, rfl, itD (fun c4 => ?_) (fun c4 => ?_)⟩⟩
      · refine ⟨_, rfl, .inl ⟨rfl, _, SqL.of upd_same⟩, p, _, _, rfl, rfl, upd_same, (by show 0 < sizeLine; decide), ?_⟩
        rw [upd_upd]
        refine ⟨_, rfl, .inl ⟨rfl, _, SqL.of upd_same⟩, p, _, _, rfl, rfl, upd_same, (by show 1 < sizeLine; decide), ?_⟩
        rw [upd_upd]
        refine ⟨_, rfl, ?_⟩
        have c3 : ¬ 0 < Vbsgaj.shareOf x c := by have : ¬ (0 : Int) < (Vbsgaj.shareOf x c : Int) := c3; omega
        have c4 := (nth_pres hx).mp c4
        have e : deeds c x m = [3, 4] := by unfold deeds; rw [if_neg d1, if_neg c3, if_pos c4]; rfl
        have := q p hp
        rw [e] at this
        exact this
      · refine ⟨_, rfl, ?_⟩
        have c3 : ¬ 0 < Vbsgaj.shareOf x c := by have : ¬ (0 : Int) < (Vbsgaj.shareOf x c : Int) := c3; omega
        have c4 : ¬ Vbsgaj.presides x c = true := fun z => c4 ((nth_pres hx).mpr z)
        have e : deeds c x m = [] := by unfold deeds; rw [if_neg d1, if_neg c3, if_neg c4]; rfl
        have := q p hp
        rw [e] at this
        exact this
end
end ST
set_option Elab.async false
set_option linter.all false
set_option maxRecDepth 100000
namespace ST
open PySem PySem.Spec PyProof.Rows L2 NKey
theorem nat_of {ns : List Nat} {i : Nat} {x : V} (h : (nV ns)[i]? = some x) : ∃ n : Nat, ns[i]? = some n ∧ x = V.int (n : Int) := by
  rw [List.getElem?_map] at h
  cases e : ns[i]? with
  | none => rw [e] at h; cases h
  | some a => rw [e] at h; exact ⟨a, rfl, (Option.some.inj h).symm⟩
section
variable {P : Program} {w : World} {K : PySem.W.Frag} {mg : Str → Option Value} {base : Heap}
theorem sc_orders_of : FnScope ["game", "found", "money", "number", "company", "deed"] ["game"] (defScope s_orders_of) := ⟨rfl, rfl, rfl, by decide +kernel, rfl, by decide +kernel, by decide +kernel⟩
def ordL (g : Vbsgaj.Game) : List Nat := if g.left = 0 then [] else Vbsgaj.orders g
def q_orders_of (T : Tx K mg) : V → Hp → VK → Prop := fun v H Q => ∃ (a : Addr) (g : Vbsgaj.Game), v = .ref a ∧ Ga T H a g ∧ VG g ∧ ∀ p H', Same H H' → H' p = some (.lst (nV (ordL g))) → Q (.ref p) H'
theorem upto_len (g : Vbsgaj.Game) (j : Nat) : (upto g j).length ≤ 4 * j + 1 := by
  unfold upto
  refine Nat.le_trans (List.length_filter_le _ _) ?_
  rw [List.length_range]
  exact Nat.le_refl _
theorem deeds_len (c : Vbsgaj.Company) (x : Nat) (m : Int) : (deeds c x m).length ≤ 4 := by
  unfold deeds
  (repeat' split) <;> simp
theorem c_orders_of (T : Tx K mg) : Cal P w K mg base 3 "orders_of" ["game"] (sp1 (q_orders_of T)) := by
  refine T.F_orders_of.cal (k := 2) sc_orders_of sp1_len fun f cdv A outer s H vs Q E hr h => ?_
  obtain ⟨_, rfl, a, g, rfl, ⟨cs, hg, hc⟩, G, q⟩ := h
  have nd := sc_orders_of.nd
  refine ⟨_, pss_cons (ps_if (pt_cmpR op_eq (pe_fld (pv 0) rfl) pe_int (nomark _)) (pss_one (ps_ret (pe_lst pa_nil))) pss_nil)
    (pss_cons (ps_set (i := 1) nd rfl (Or.inl rfl) (pe_lst (pa_cons (pe_gi T.i_PASS) pa_nil)))
    (pss_cons (ps_set (i := 2) nd rfl (Or.inl rfl) (pe_ix ix_tup (pe_fld (pv 0) rfl) (pe_fld (pv 0) rfl) (fun _ _ => rfl)))
    (pss_cons (ps_for PassesOwn.never rfl (pi_enumT rfl T.b_enumerate (pa_cons (pe_fld (pv 0) rfl) pa_nil)) (pg_tup rfl (pgs_cons (pg_name (i := 3) nd rfl (Or.inl rfl)) (pgs_cons (pg_name (i := 4) nd rfl (Or.inl rfl)) pgs_nil)))
      (pss_one (ps_for PassesOwn.never rfl (pi_list (pe_c3 (c_deeds_of T) hr (pv 4) (pe_fld (pv 0) rfl) (pv 2))) (pg_name (i := 5) nd rfl (Or.inl rfl))
        (pss_one (ps_expr (pe_bm PySem.F.plainAttrs_list PySem.F.slot_list_append PySem.F.type_list_append mt_append (pv 1) (pa_cons (pe_op op_add (pe_op op_mul (pe_gi T.i_DEEDS) (pv 3)) (pv 5)) pa_nil)))))))
    (pss_one (ps_ret (pv 1)))))), ?_⟩
  refine ⟨_, rfl, rd_left hg ⟨rfl, _, rfl, itI (fun e0 => ?_) (fun e0 => ?_)⟩⟩
  · have e0 : g.left = 0 := by omega
    refine ⟨szn 0 rfl, fun p hp => q p _ (same_new hp _) ?_⟩
    rw [upd_same, ordL, if_pos e0]
    all_goals rfl
  have e0 : ¬ g.left = 0 := by omega
  refine ⟨szn 1 rfl, fun p hp => ?_⟩
  have s0 : Same H (upd H p (.lst [.int 0])) := same_new hp _
  have hg0 := s0.im.gaR hg
  refine ⟨_, rfl, rd_money hg0 fun mo hmo => ⟨_, rfl, rd_turn hg0 ⟨mo, _, _, _, rfl, rfl, hmo, at_pl G.tu, ?_⟩⟩⟩
  refine ⟨_, rfl, rd_companies hg0 fun co hco => ⟨co, _, rfl, hco, for_enumT (K := K) (a := co) (xs := cs.map V.ref)
    (fun i σ H' => ∃ v3 v4 v5, σ = [some (.ref a), some (.ref p), some (.int (Vbsgaj.moneyOf g.turn g)), v3, v4, v5] ∧ i ≤ cs.length ∧ Same H H' ∧ H' p = some (.lst (nV (upto g i)))) ⟨none, none, none, rfl, Nat.zero_le _, s0, ?_⟩ ?_ ?_ ?_⟩⟩
  · rw [upd_same, upto_zero]
    all_goals rfl
  · rintro i σ H' _ ⟨_, _, _, _, _, s1, _⟩
    obtain ⟨dx, mo', co', h1, h2, h3⟩ := hg
    have e := (s0 _ _ h1).symm.trans (s0 _ _ h1)
    exact (s1.sqT (by
      obtain ⟨dx2, mo2, co2, k1, k2, k3⟩ := hg0
      exact (show SqT K H co (cs.map V.ref) from by
        rcases hco with (z | ⟨o, z⟩) | z
        · have ne : co ≠ p := fun q' => by subst q'; rw [upd_same] at z; cases z
          rw [upd_ne ne] at z
          exact .inl (.inl z)
        · have ne : co ≠ p := fun q' => by subst q'; rw [upd_same] at z; cases z
          rw [upd_ne ne] at z
          exact .inl (.inr ⟨o, z⟩)
        · exact .inr z)))
  · rintro i y σ H' Tt hy hT ⟨v3, v4, v5, rfl, hi, s1, hpl⟩
    obtain ⟨ca, hca, rfl⟩ := ref_of hy
    obtain ⟨c, hci, hco2⟩ := hc.2 i ca hca
    have Gc := G.co c (List.mem_of_getElem? hci)
    have hlt : i < cs.length := (List.getElem?_eq_some_iff.mp hca).1
    have sT : Same H' (upd H' Tt (.tup [.int (i : Nat), .ref ca])) := same_new hT _
    have s2 := s1.trans sT
    refine ⟨Tt, _, rfl, SqT.of upd_same, rfl, _, _, rfl, _, _, rfl, rfl, ?_⟩
    refine ⟨_, rfl, _, rfl, rd_turn (s2.im.gaR hg) ⟨_, rfl, ca, c, g.turn, _, rfl, rfl, rfl, G.tu, s2.im.coR hco2, Gc, fun dl hdl => ?_⟩⟩
    have s3 : Same (upd H' Tt (.tup [.int (i : Nat), .ref ca])) (upd (upd H' Tt (.tup [.int (i : Nat), .ref ca])) dl (.lst (nV (deeds c g.turn (Vbsgaj.moneyOf g.turn g))))) := same_new hdl _
    have hpl3 := s3 _ _ (sT _ _ hpl)
    have nep : p ≠ dl := ne_of_none (sT _ _ hpl) hdl
    refine ⟨dl, rfl, ⟨_, SqL.of upd_same⟩, for_list (K := K) (a := dl) (xs := nV (deeds c g.turn (Vbsgaj.moneyOf g.turn g)))
      (fun j σ H2 => ∃ v5, σ = [some (.ref a), some (.ref p), some (.int (Vbsgaj.moneyOf g.turn g)), some (.int (i : Nat)), some (.ref ca), v5] ∧ Same H H2 ∧ H2 dl = some (.lst (nV (deeds c g.turn (Vbsgaj.moneyOf g.turn g)))) ∧
        H2 p = some (.lst (nV (upto g i ++ ((deeds c g.turn (Vbsgaj.moneyOf g.turn g)).take j).map (4 * i + ·))))) ⟨v5, rfl, s2.trans s3, upd_same, ?_⟩ (fun j σ H2 _ ⟨_, _, _, e, _⟩ => SqL.of e) ?_ ?_⟩
    · rw [List.take_zero, List.map_nil, List.append_nil]
      exact hpl3
    · rintro j y σ H2 hy ⟨v5, rfl, s4, hd4, hp4⟩
      obtain ⟨d, hd, rfl⟩ := nat_of hy
      refine ⟨_, rfl, .inl ⟨rfl, _, SqL.of hp4⟩, _, rfl, _, _, rfl, rfl, .inl ⟨by decide, by decide⟩, _, rfl, _, _, rfl, rfl, p, _, _, rfl, rfl, hp4, ?_, ?_⟩
      · rw [List.length_map, List.length_append, List.length_map, List.length_take]
        have h1 := upto_len g i
        have h2 := deeds_len c g.turn (Vbsgaj.moneyOf g.turn g)
        have h3 := G.nc
        have h4 := hc.1
        exact small1000 (by omega)
      · refine ⟨_, rfl, fun b o hb => ?_, ?_, ?_⟩
        · rw [upd_ne (ne_of_none hb hp)]
          exact s4 _ _ hb
        · rw [upd_ne nep.symm]
          exact hd4
        · rw [upd_same, List.take_add_one, hd]
          simp only [Option.toList_some, List.map_append, List.map_cons, List.map_nil, List.append_assoc]
          congr 5
    · rintro σ H2 ⟨v5, rfl, s4, hd4, hp4⟩
      refine ⟨_, _, _, rfl, hlt, s4, ?_⟩
      rw [List.length_map, List.take_length] at hp4
      rw [upto_succ hci]
      exact hp4
  · rintro σ H' ⟨v3, v4, v5, rfl, hi, s1, hpl⟩
    refine ⟨_, rfl, q p H' s1 ?_⟩
    rw [List.length_map, hc.1] at hpl
    unfold ordL
    rw [if_neg e0, orders_upto]
    exact hpl
theorem sc_too_many_positions : FnScope ["game", "positions", "turn"] ["game"] (defScope s_too_many_positions) := ⟨rfl, rfl, rfl, by decide +kernel, rfl, by decide +kernel, by decide +kernel⟩
def q_too_many_positions (T : Tx K mg) : V → Hp → VK → Prop := fun v H Q => ∃ (a : Addr) (g : Vbsgaj.Game), v = .ref a ∧ Ga T H a g ∧ VG g ∧ Q (.bl (!Vbsgaj.few g)) H
theorem c_too_many_positions (T : Tx K mg) : Cal P w K mg base 1 "too_many_positions" ["game"] (sp1 (q_too_many_positions T)) := by
  refine T.F_too_many_positions.cal (k := 0) sc_too_many_positions sp1_len fun f cdv A outer s H vs Q E hr h => ?_
  obtain ⟨_, rfl, a, g, rfl, ⟨cs, hg, hc⟩, G, q⟩ := h
  have nd := sc_too_many_positions.nd
  refine ⟨_, pss_cons (ps_set (i := 1) nd rfl (Or.inl rfl) pe_int)
    (pss_cons (ps_for PassesOwn.never rfl (pi_range1 rfl T.b_range (pa_cons (pe_fld (pv 0) rfl) pa_nil)) (pg_name (i := 2) nd rfl (Or.inl rfl))
      (pss_one (ps_aug (i := 1) nd rfl (Or.inl rfl) (pe_op op_add (pe_op op_mul (pe_gi T.i_DEEDS) (pe_callB call_len_seq rfl T.b_len PySem.boot_len (pa_cons (pe_fld (pv 0) rfl) pa_nil))) pe_int) ip_mul)))
    (pss_one (ps_ret (pe_cmpR op_gt (pv 1) (pe_gi T.i_MOST_POSITIONS) (nomark _))))), ?_⟩
  have hle := G.le
  have hnc := G.nc
  refine ⟨_, rfl, rd_left hg ⟨_, rfl, by omega, by omega, for_range (lo := 0) (n := (g.left : Int).toNat) (fun i σ H' => ∃ v2, σ = [some (.ref a), some (.int (Vbsgaj.power (4 * g.companies.length + 1) i : Nat)), v2] ∧ H' = H) ⟨none, rfl, rfl⟩ ?_ ?_⟩⟩
  · rintro i σ H' hi ⟨v2, rfl, rfl⟩
    refine ⟨_, rfl, _, rfl, rd_companies hg fun co hco => ⟨co, _, rfl, .inr hco, _, _, rfl, rfl, .inl ⟨by decide, by decide⟩, _, _, rfl, rfl, _, _, rfl, rfl, .inr ?_, some (.int (0 + (i : Nat))), ?_, rfl⟩⟩
    · show -(2 ^ 64) < 4 * (((cs.map V.ref).length : Nat) : Int) + 1 ∧ 4 * (((cs.map V.ref).length : Nat) : Int) + 1 < 2 ^ 64
      rw [List.length_map, hc.1]
      omega
    · show [some (V.ref a), some (V.int ((Vbsgaj.power (4 * g.companies.length + 1) i : Nat) * (4 * (((cs.map V.ref).length : Nat) : Int) + 1))), _] = _
      rw [List.length_map, hc.1]
      congr 4
      show _ = (((4 * g.companies.length + 1) * Vbsgaj.power (4 * g.companies.length + 1) i : Nat) : Int)
      rw [Int.natCast_mul, Int.mul_comm]
      congr 1
  · rintro σ H' ⟨v2, rfl, rfl⟩
    refine ⟨_, rfl, _, _, rfl, rfl, ?_⟩
    have e : decide ((100000 : Int) < ((Vbsgaj.power (4 * g.companies.length + 1) (g.left : Int).toNat : Nat) : Int)) = !Vbsgaj.few g := by
      unfold Vbsgaj.few
      rw [Int.toNat_natCast, ← decide_not]
      apply decide_eq_decide.mpr
      show _ ↔ ¬ Vbsgaj.power _ _ ≤ 100000
      omega
    show Q (V.bl (decide ((100000 : Int) < ((Vbsgaj.power (4 * g.companies.length + 1) (g.left : Int).toNat : Nat) : Int)))) H'
    rw [e]
    exact q
theorem sc_reached : FnScope ["game", "goal"] ["game", "goal"] (defScope s_reached) := ⟨rfl, rfl, rfl, by decide +kernel, rfl, by decide +kernel, by decide +kernel⟩
def q_reached (T : Tx K mg) : V → V → Hp → VK → Prop := fun v u H Q => ∃ (a : Addr) (g : Vbsgaj.Game) (k : Nat), v = .ref a ∧ u = .int k ∧ k ≤ 2 ∧ Ga T H a g ∧ VG g ∧ Q (.int (Vbsgaj.goal k g)) H
theorem c_reached (T : Tx K mg) : Cal P w K mg base 3 "reached" ["game", "goal"] (sp2 (q_reached T)) := by
  refine T.F_reached.cal (k := 2) sc_reached sp2_len fun f cdv A outer s H vs Q E hr h => ?_
  obtain ⟨_, _, rfl, a, g, k, rfl, rfl, hk, hg, G, q⟩ := h
  refine ⟨_, pss_cons (ps_if (pt_cmpR op_eq (pv 1) pe_int (nomark _)) (pss_one (ps_ret (pe_op op_sub (pe_c2 (c_worth_of T) hr (pv 0) pe_int) (pe_c2 (c_worth_of T) hr (pv 0) pe_int)))) pss_nil)
    (pss_one (ps_ret (pe_c2 (c_worth_of T) hr (pv 0) (pv 1)))), ?_⟩
  refine ⟨_, rfl, rfl, _, rfl, itI (fun e => ?_) (fun e => ?_)⟩
  · have e : k = 2 := by omega
    subst e
    exact ⟨_, rfl, a, g, 0, rfl, rfl, .inl rfl, hg, G, _, rfl, a, g, 1, rfl, rfl, .inr rfl, hg, G, _, _, rfl, rfl, q⟩
  · have e : k = 0 ∨ k = 1 := by omega
    refine ⟨_, rfl, _, rfl, a, g, k, rfl, rfl, e, hg, G, ?_⟩
    rcases e with e | e <;> subst e <;> exact q
theorem sc_plays_for_most : FnScope ["player", "goal"] ["player", "goal"] (defScope s_plays_for_most) := ⟨rfl, rfl, rfl, by decide +kernel, rfl, by decide +kernel, by decide +kernel⟩
def q_plays_for_most : V → V → Hp → VK → Prop := fun v u H Q => ∃ (x k : Nat), v = .int x ∧ u = .int k ∧ Q (.bl (Vbsgaj.wants k x)) H
theorem dec_int (x n : Nat) : decide (V.int (x : Int) = V.int (n : Int)) = (x == n) := by
  by_cases e : x = n
  · subst e; simp
  · have : ¬ V.int (x : Int) = V.int (n : Int) := fun q => e (by have := V.int.inj q; omega)
    rw [decide_eq_false this]
    exact (beq_eq_false_iff_ne.mpr e).symm
theorem c_plays_for_most (T : Tx K mg) : Cal P w K mg base 1 "plays_for_most" ["player", "goal"] (sp2 q_plays_for_most) := by
  refine T.F_plays_for_most.cal (k := 0) sc_plays_for_most sp2_len fun f cdv A outer s H vs Q E hr h => ?_
  obtain ⟨_, _, rfl, x, k, rfl, rfl, q⟩ := h
  refine ⟨_, pss_cons (ps_if (pt_cmpR op_eq (pv 1) pe_int (nomark _)) (pss_one (ps_ret (pe_cmpR op_eq (pv 0) pe_int (nomark _)))) pss_nil) (pss_one (ps_ret (pe_cmpR op_eq (pv 0) pe_int (nomark _)))), ?_⟩
  refine ⟨_, rfl, rfl, _, rfl, itI (fun e => ?_) (fun e => ?_)⟩
  · have e : k = 1 := by omega
    refine ⟨_, rfl, rfl, ?_⟩
    have d : decide (V.int (x : Int) = V.int 1) = Vbsgaj.wants k x := by
      unfold Vbsgaj.wants
      rw [if_pos e]
      exact dec_int x 1
    show Q (.bl (decide (V.int (x : Int) = V.int 1))) H
    rw [d]
    exact q
  · have e : ¬ k = 1 := by omega
    refine ⟨_, rfl, rfl, ?_⟩
    have d : decide (V.int (x : Int) = V.int 0) = Vbsgaj.wants k x := by
      unfold Vbsgaj.wants
      rw [if_neg e]
      exact dec_int x 0
    show Q (.bl (decide (V.int (x : Int) = V.int 0))) H
    rw [d]
    exact q
theorem sc_key_of : FnScope ["game", "stands", "company"] ["game"] (defScope s_key_of) := ⟨rfl, rfl, rfl, by decide +kernel, rfl, by decide +kernel, by decide +kernel⟩
def q_key_of (T : Tx K mg) : V → Hp → VK → Prop := fun v H Q => ∃ (a : Addr) (g : Vbsgaj.Game), v = .ref a ∧ Ga T H a g ∧ VG g ∧ ∀ p H', Same H H' → Dp K H' (.ref p) (dataOf (keyOf g)) → Q (.ref p) H'
theorem dpAll_of {K : PySem.W.Frag} {H : Hp} : ∀ {ys : List V} {l : List Vbsgaj.Company}, ys.length = l.length → (∀ (i : Nat) (y : V), ys[i]? = some y → ∃ c, l[i]? = some c ∧ Dp K H y (standD (stand c))) → DpAll K H ys ((l.map stand).map standD)
  | [], [], _, _ => .nil
  | [], _ :: _, h, _ => by simp at h
  | _ :: _, [], h, _ => by simp at h
  | y :: ys, c :: l, hl, h => by
    obtain ⟨c', e, d⟩ := h 0 y rfl
    have : c = c' := Option.some.inj e
    subst this
    exact .cons d (dpAll_of (by simpa using hl) fun i y' hy => h (i + 1) y' hy)
theorem c_key_of (T : Tx K mg) : Cal P w K mg base 1 "key_of" ["game"] (sp1 (q_key_of T)) := by
  refine T.F_key_of.cal (k := 0) sc_key_of sp1_len fun f cdv A outer s H vs Q E hr h => ?_
  obtain ⟨_, rfl, a, g, rfl, ⟨cs, hg, hc⟩, G, q⟩ := h
  have nd := sc_key_of.nd
  refine ⟨_, pss_cons (ps_setLc (i := 1) (own := [("company", 2)]) rfl nd rfl rfl (sw_true rfl rfl rfl rfl) (pi_tup (pe_fld (pv 0) rfl)) (blkOk_by rfl) (fun _ _ _ _ _ => pg_name (i := 2) nd rfl (Or.inl rfl)) (fun _ _ _ _ _ => pts_nil)
      (te := tTup (tCons (tFld K (tVar 2) "place") (tCons (tFld K (tVar 2) "shares") (tCons (tFld K (tVar 2) "pool") tNil))))
      (by intro _ _ _ _ _; exact pe_tup (pa_cons (pe_fld (pv 2) rfl) (pa_cons (pe_fld (pv 2) rfl) (pa_cons (pe_fld (pv 2) rfl) pa_nil)))))
    (pss_one (ps_ret (pe_tup (pa_cons (pe_fld (pv 0) rfl) (pa_cons (pe_fld (pv 0) rfl) (pa_cons (pe_fld (pv 0) rfl) (pa_cons (pe_callTy call_tuple_of rfl T.b_tuple boot_tuple (pa_cons (pv 1) pa_nil)) pa_nil))))))), ?_⟩
  refine ⟨_, rfl, rd_companies hg fun d hd => ⟨d, rfl, ⟨_, hd⟩, fun D hD => lc_sameT T (fun i y H' => ∃ c, g.companies[i]? = some c ∧ Dp K H' y (standD (stand c))) (fun i y H1 H2 e ⟨c, e1, e2⟩ => ⟨c, e1, e.dpT 2 _ _ (pl_stand _ 0) e2⟩) hd ?_ hD (fun _ => rfl) ?_ ?_⟩⟩
  · have := G.nc; have := hc.1; rw [List.length_map]; omega
  · intro i x H1 Q1 hx s1 k
    obtain ⟨ca, hca, rfl⟩ := ref_of hx
    obtain ⟨c, hci, hco⟩ := hc.2 i ca hca
    have hco := s1.im.coR hco
    refine ⟨_, rfl, rd_place hco ⟨_, rfl, rd_shares hco fun b hb => ⟨_, rfl, rd_pool hco ⟨szn 3 rfl, fun p hp => k _ _ (same_new hp _) ⟨c, hci, ?_⟩⟩⟩⟩⟩
    exact .tup (SqT.of upd_same) (.cons (.int _) (.cons (.tup ((same_new hp _).sqT hb) (.cons (.int _) (.cons (.int _) .nil))) (.cons (.int _) .nil)))
  · intro H1 ys s1 hD1 hl hR
    have hg1 := s1.im.gaR hg
    have hys : ys.length = g.companies.length := by rw [hl, List.length_map]; exact hc.1
    refine ⟨_, rfl, rd_money hg1 fun b hb => ⟨_, rfl, rd_turn hg1 ⟨_, rfl, rd_left hg1 ⟨_, rfl, D, _, rfl, .inl ⟨SqL.of hD1, fun l hl' => ⟨szn 4 rfl, fun p hp => ?_⟩⟩⟩⟩⟩⟩
    have s2 : Same H1 (upd (upd H1 l (.tup ys)) p (.tup [.ref b, .int g.turn, .int g.left, .ref l])) := (same_new hl' _).trans (same_new hp _)
    refine q p _ (s1.trans s2) ?_
    exact .tup (SqT.of upd_same) (.cons (.tup (s2.sqT hb) (.cons (.int _) (.cons (.int _) .nil))) (.cons (.int _) (.cons (.int _) (.cons (.tup (SqT.of (same_new hp _ _ _ upd_same)) (dpAll_of hys fun i y hy => by
      obtain ⟨c, e1, e2⟩ := hR i y hy
      exact ⟨c, e1, (s2.im (T := T)).dpT 2 _ _ (pl_stand _ 0) e2⟩)) .nil))))
end
end ST
set_option Elab.async false
set_option linter.all false
set_option maxRecDepth 100000
namespace ST
open PySem PySem.Spec PyProof.Rows L2 NKey
def has (kvs : KN) (g : Vbsgaj.Game) : Prop := (lookN kvs (keyOf g)).isSome = true
instance (kvs : KN) (g : Vbsgaj.Game) : Decidable (has kvs g) := inferInstanceAs (Decidable ((lookN kvs (keyOf g)).isSome = true))
structure Memo (kind : Nat) (bs : List (List Int × Int)) (kvs : KN) : Prop where
  val : ∀ g v, VG g → shape g = bs → lookN kvs (keyOf g) = some v → v = Vbsgaj.valueOf kind g
  cl : ∀ g o, VG g → shape g = bs → has kvs g → Vbsgaj.may g o = true → 0 < (Vbsgaj.played g o).left → has kvs (Vbsgaj.played g o)
def Grow (kvs kvs' : KN) : Prop := ∀ k, (lookN kvs k).isSome = true → (lookN kvs' k).isSome = true
theorem Grow.rfl {kvs : KN} : Grow kvs kvs := fun _ h => h
theorem Grow.trans {a b c : KN} (h : Grow a b) (k : Grow b c) : Grow a c := fun x q => k x (h x q)
theorem Grow.has {a b : KN} {g : Vbsgaj.Game} (h : Grow a b) (q : has a g) : has b g := h _ q
theorem Memo.nil (kind : Nat) (bs : List (List Int × Int)) : Memo kind bs [] := ⟨fun g v _ _ h => (by rw [lookN_nil] at h; cases h), fun g o _ _ h => (by unfold has at h; rw [lookN_nil] at h; cases h)⟩
def cost (kvs : KN) (g : Vbsgaj.Game) : Nat := if g.left = 0 ∨ has kvs g then 0 else cnt (4 * g.companies.length + 1) g.left
theorem cost_le (kvs : KN) (g : Vbsgaj.Game) : cost kvs g ≤ cnt (4 * g.companies.length + 1) g.left := by
  unfold cost; split
  · exact Nat.zero_le _
  · exact Nat.le_refl _
theorem cost_has {kvs : KN} {g : Vbsgaj.Game} (h : has kvs g) : cost kvs g = 0 := if_pos (.inr h)
theorem cost_zero {kvs : KN} {g : Vbsgaj.Game} (h : g.left = 0) : cost kvs g = 0 := if_pos (.inl h)
theorem cost_new {kvs : KN} {g : Vbsgaj.Game} (h : 0 < g.left) (h' : ¬ has kvs g) : cost kvs g = (4 * g.companies.length + 1) * cnt (4 * g.companies.length + 1) (g.left - 1) + 1 := by
  unfold cost
  rw [if_neg (by rintro (z | z); omega; exact h' z)]
  obtain ⟨t, ht⟩ : ∃ t, g.left = t + 1 := ⟨g.left - 1, by omega⟩
  rw [ht]
  rfl
theorem grow_put {kvs : KN} {k : GK} {b : Addr} {v : Int} : Grow kvs (putN kvs k b v) := fun x h => by
  rw [lookN_put]
  split
  · rfl
  · exact h
theorem Memo.put {kind : Nat} {bs : List (List Int × Int)} {kvs : KN} {g : Vbsgaj.Game} {b : Addr} (M : Memo kind bs kvs) (hs : shape g = bs)
    (hc : ∀ o, Vbsgaj.may g o = true → 0 < (Vbsgaj.played g o).left → has kvs (Vbsgaj.played g o)) : Memo kind bs (putN kvs (keyOf g) b (Vbsgaj.valueOf kind g)) := by
  refine ⟨fun g' v G s h => ?_, fun g' o G s h hm hl => ?_⟩
  · rw [lookN_put] at h
    by_cases e : keyOf g' = keyOf g
    · rw [if_pos e] at h
      have eg := key_inj e (s.trans hs.symm)
      subst eg
      exact (Option.some.inj h).symm
    · rw [if_neg e] at h
      exact M.val g' v G s h
  · unfold has at h
    rw [lookN_put] at h
    by_cases e : keyOf g' = keyOf g
    · have eg := key_inj e (s.trans hs.symm)
      subst eg
      exact grow_put.has (hc o hm hl)
    · rw [if_neg e] at h
      exact grow_put.has (M.cl g' o G s h hm hl)
theorem has_put {kvs : KN} {g : Vbsgaj.Game} {b : Addr} {v : Int} : has (putN kvs (keyOf g) b v) g := by
  unfold has
  rw [lookN_put, if_pos rfl]
  rfl
/-- all but the dict at d stays -/
def But (d : Addr) (H H' : Hp) : Prop := ∀ b o, H b = some o → b ≠ d → H' b = some o
theorem But.rfl {d : Addr} {H : Hp} : But d H H := fun _ _ h _ => h
theorem But.trans {d : Addr} {H H1 H2 : Hp} (a : But d H H1) (b : But d H1 H2) : But d H H2 := fun c o h n => b c o (a c o h n) n
theorem _root_.L2.Same.but {d : Addr} {H H1 : Hp} (a : Same H H1) : But d H H1 := fun c o h _ => a c o h
section
variable {K : PySem.W.Frag} {mg : Str → Option Value}
structure MemoAt (T : Tx K mg) (H : Hp) (sa : Addr) (kind : Nat) (d : Addr) (bs : List (List Int × Int)) (kvs : KN) : Prop where
  ins : ∃ dx, H sa = some (.ins T.CS dx (seF (.int kind) (.ref d)))
  dic : H d = some (DN d kvs)
  keys : KeysAt K H kvs
  memo : Memo kind bs kvs
variable {T : Tx K mg} {H H' : Hp} {sa d : Addr} {kind : Nat} {bs : List (List Int × Int)} {kvs kvs' : KN}
theorem But.im (b : But d H H') (h : H d = some (DN d kvs)) : Im T H H' := fun c o so e => b c o e fun z => by
  subst z; rw [h] at e; cases e; exact so
theorem _root_.ST.Im.keys (e : Im T H H') (k : KeysAt K H kvs) : KeysAt K H' kvs := fun p hp => e.dpT 8 _ _ (pl_data _) (k p hp)
theorem MemoAt.same (M : MemoAt T H sa kind d bs kvs) (s : Same H H') : MemoAt T H' sa kind d bs kvs := by
  obtain ⟨dx, h⟩ := M.ins
  exact ⟨⟨dx, s _ _ h⟩, s _ _ M.dic, (s.im (T := T)).keys M.keys, M.memo⟩
theorem MemoAt.updL (M : MemoAt T H sa kind d bs kvs) {D : Addr} {acc : List V} {L : List V} (h : H D = some (.lst acc)) : MemoAt T (upd H D (.lst L)) sa kind d bs kvs := by
  obtain ⟨dx, hi⟩ := M.ins
  refine ⟨⟨dx, ?_⟩, ?_, (Im.updL (T := T) h).keys M.keys, M.memo⟩
  · rw [upd_ne (ne_of hi h (by intro z; cases z))]; exact hi
  · rw [upd_ne (ne_of M.dic h (by intro z; cases z))]; exact M.dic
theorem rd_goal {Q : V → Prop} (M : MemoAt T H sa kind d bs kvs) (q : Q (.int kind)) : RdF K H sa "goal" Q := by
  obtain ⟨dx, h⟩ := M.ins
  exact ⟨sa, T.CS, dx, _, _, rfl, h, T.clCS, T.n_goal, lk_goal _ _, q⟩
theorem rd_known {Q : V → Prop} (M : MemoAt T H sa kind d bs kvs) (q : Q (.ref d)) : RdF K H sa "known" Q := by
  obtain ⟨dx, h⟩ := M.ins
  exact ⟨sa, T.CS, dx, _, _, rfl, h, T.clCS, T.n_known, lk_known _ _, q⟩
end
section
variable {P : Program} {w : World} {K : PySem.W.Frag} {mg : Str → Option Value} {base : Heap}
theorem _root_.L2.Room.hu {k : Nat} {A : Around} (r : Room k A) : A.units + 65 < cLine := by have := r.un; omega
theorem sc_initCS : FnScope ["self", "goal"] ["self", "goal"] (defScope s_initCS) := ⟨rfl, rfl, rfl, by decide +kernel, rfl, by decide +kernel, by decide +kernel⟩
def RSe (T : Tx K mg) : List V → Hp → VK → Prop := fun vs H Q => ∃ (v : V), vs = [v] ∧ ∀ p dx d H', Same H H' → H p = none → H d = none → p ≠ d → H' p = some (.ins T.CS dx (seF v (.ref d))) → H' d = some (DN d []) → Q (.ref p) H'
def spSe (T : Tx K mg) : Sp := fun vs H Q _ => ∃ (p dx : Addr) (v : V), vs = [.ref p, v] ∧ H p = some (.ins T.CS dx []) ∧
  ∀ d H', H d = none → (∀ b o, H b = some o → b ≠ p → H' b = some o) → H' p = some (.ins T.CS dx (seF v (.ref d))) → H' d = some (DN d []) → Q .non H'
theorem mk_search (T : Tx K mg) : Mak P w K mg base 1 "Search" (RSe T) := by
  refine T.F_initCS.mak (k := 0) (sp := spSe T) T.k_Search sc_initCS (fun vs H Q E h => by obtain ⟨p, dx, v, rfl, _⟩ := h; rfl) ?_ ?_
  · rintro vs H Q ⟨v, rfl, q⟩ y dx ny nd ne
    refine ⟨y, dx, v, rfl, upd_same, fun d H' hd kp h1 h2 => ⟨rfl, q y dx d H' ?_ ny ?_ ?_ h1 h2⟩⟩
    · intro b o hb
      exact kp b o (same_made ny nd _ _ _ _ hb) (ne_of_none hb ny)
    · exact (same_made ny nd _ _).free hd
    · exact ne_of_none upd_same hd
  · rintro f cdv A outer s H vs Q E hr ⟨p, dx, v, rfl, hp, q⟩
    refine ⟨_, pss_cons (ps_fld (pv 0) (pv 1) rfl) (pss_one (ps_fld (pv 0) pe_nnew rfl)), ?_⟩
    refine ⟨_, rfl, _, rfl, p, T.CS, dx, _, rfl, hp, T.clCS, T.n_goal, (by show 0 < 1000; decide), fun d hd => ?_⟩
    have nd : d ≠ p := fun z => by rw [z, upd_same] at hd; cases hd
    refine ⟨_, rfl, p, T.CS, dx, _, rfl, (by rw [upd_ne nd.symm]; exact upd_same), T.clCS, T.n_known, (by show 1 < 1000; decide), ?_⟩
    refine q d _ (by rw [upd_ne nd] at hd; exact hd) (fun b o hb nb => ?_) upd_same ?_
    · rw [upd_ne nb]
      have : b ≠ d := fun z => by rw [z] at hb; rw [upd_ne nd, hb] at hd; cases hd
      rw [upd_ne this, upd_ne nb]
      exact hb
    · rw [upd_ne nd, upd_same]
def q_value (T : Tx K mg) (t : Nat) : V → V → Hp → VK → Prop := fun v u H Q => ∃ (sa ga : Addr) (kind : Nat) (d : Addr) (bs : List (List Int × Int)) (kvs : KN) (g : Vbsgaj.Game), v = .ref sa ∧ u = .ref ga ∧ MemoAt T H sa kind d bs kvs ∧ kind ≤ 2 ∧ Ga T H ga g ∧ VG g ∧ shape g = bs ∧ g.left < t ∧
  kvs.length + cost kvs g < sizeLine ∧ ∀ H' kvs', But d H H' → MemoAt T H' sa kind d bs kvs' → Grow kvs kvs' → kvs'.length ≤ kvs.length + cost kvs g → (0 < g.left → has kvs' g) → Q (.int (Vbsgaj.valueOf kind g)) H'
def q_chosen (T : Tx K mg) (t : Nat) : V → V → Hp → VK → Prop := fun v u H Q => ∃ (sa ga : Addr) (kind : Nat) (d : Addr) (bs : List (List Int × Int)) (kvs : KN) (g : Vbsgaj.Game), v = .ref sa ∧ u = .ref ga ∧ MemoAt T H sa kind d bs kvs ∧ kind ≤ 2 ∧ Ga T H ga g ∧ VG g ∧ shape g = bs ∧ 0 < g.left ∧ g.left < t ∧
  kvs.length + (4 * g.companies.length + 1) * cnt (4 * g.companies.length + 1) (g.left - 1) < sizeLine ∧ ∀ H' kvs', But d H H' → MemoAt T H' sa kind d bs kvs' → Grow kvs kvs' → kvs'.length ≤ kvs.length + (4 * g.companies.length + 1) * cnt (4 * g.companies.length + 1) (g.left - 1) →
    (∀ o, Vbsgaj.may g o = true → 0 < (Vbsgaj.played g o).left → has kvs' (Vbsgaj.played g o)) → Q (.int (Vbsgaj.valueOf kind g)) H'
theorem sc_value : FnScope ["self", "game", "key"] ["self", "game"] (defScope s_value) := ⟨rfl, rfl, rfl, by decide +kernel, rfl, by decide +kernel, by decide +kernel⟩
theorem sc_chosen : FnScope ["self", "game", "found", "order"] ["self", "game"] (defScope s_chosen_value) := ⟨rfl, rfl, rfl, by decide +kernel, rfl, by decide +kernel, by decide +kernel⟩
theorem no_meth (a b : V) : (seF a b).lookup ("value" : Str) = none ∧ (seF a b).lookup ("chosen_value" : Str) = none ∧ (seF a b).lookup ("best_order" : Str) = none := ⟨rfl, rfl, rfl⟩
theorem value_step (T : Tx K mg) {k t : Nat} (hk : 3 ≤ k) (C : MCal P w K mg base T.CS k "chosen_value" ["self", "game"] (sp2 (q_chosen T t))) : MCal P w K mg base T.CS (k + 1) "value" ["self", "game"] (sp2 (q_value T t)) := by
  refine T.F_value.cal sc_value sp2_len fun f cdv A outer s H vs Q E hr h => ?_
  obtain ⟨_, _, rfl, sa, ga, kind, d, bs, kvs, g, rfl, rfl, M, hkd, hg, G, hs, hlt, hz, q⟩ := h
  refine ⟨_, pss_cons (ps_if (pt_cmpR op_eq (pe_fld (pv 1) rfl) pe_int (nomark _)) (pss_one (ps_ret (pe_c2 (c_reached T) (hr.mono hk) (pv 1) (pe_fld (pv 0) rfl)))) pss_nil)
    (pss_cons (ps_set (i := 2) sc_value.nd rfl (Or.inl rfl) (pe_c1 (c_key_of T) (hr.mono (by omega)) (pv 1)))
    (pss_cons (ps_if (pt_cmp (pc_nnotin hr.hu (pv 2) (pe_fld (pv 0) rfl))) (pss_one (ps_nput hr.hu (pe_fld (pv 0) rfl) (pv 2) (pe_m2 C hr T.clCS (pv 0) (pv 1)) rfl)) pss_nil)
    (pss_one (ps_ret (pe_ngetN hr.hu (pe_fld (pv 0) rfl) (pv 2) (fun _ _ => rfl)))))), ?_⟩
  have hg' := hg
  obtain ⟨cs, hgr, hcs⟩ := hg'
  refine ⟨_, rfl, rd_left hgr ⟨rfl, _, rfl, itI (fun e0 => ?_) (fun e0 => ?_)⟩⟩
  · have e0 : g.left = 0 := by omega
    refine ⟨_, rfl, _, rfl, rd_goal M ⟨ga, g, kind, rfl, rfl, hkd, hg, G, ?_⟩⟩
    rw [← valueOf_zero e0]
    exact q H kvs But.rfl M Grow.rfl (by omega) (fun z => by omega)
  have e0 : 0 < g.left := by omega
  refine ⟨_, rfl, ga, g, rfl, hg, G, fun kb H1 s1 hk1 => ?_⟩
  have M1 := M.same s1
  refine ⟨_, rfl, _, rfl, rd_known M1 ⟨d, kb, kvs, keyOf g, rfl, rfl, M1.dic, M1.keys, hk1, _, rfl, ?_⟩⟩
  by_cases hh : has kvs g
  · have hh' : (!(lookN kvs (keyOf g)).isSome) = false := by rw [show (lookN kvs (keyOf g)).isSome = true from hh]; rfl
    rw [hh']
    refine iteF ?_
    obtain ⟨v, hv⟩ := Option.isSome_iff_exists.mp (show (lookN kvs (keyOf g)).isSome = true from hh)
    have ev := M.memo.val g v G hs hv
    refine ⟨_, rfl, rd_known M1 ⟨_, rfl, d, kb, kvs, keyOf g, v, rfl, rfl, M1.dic, M1.keys, hk1, hv, ?_⟩⟩
    rw [ev]
    exact q H1 kvs s1.but M1 Grow.rfl (Nat.le_add_right _ _) fun _ => hh
  · have hh' : (!(lookN kvs (keyOf g)).isSome) = true := by
      have : ¬ (lookN kvs (keyOf g)).isSome = true := hh
      simpa using this
    rw [hh']
    refine iteT ?_
    have hc := cost_new e0 hh
    obtain ⟨dx, hin⟩ := M1.ins
    refine ⟨_, rfl, sa, dx, _, rfl, hin, (no_meth _ _).2.1, _, rfl, sa, ga, kind, d, bs, kvs, g, rfl, rfl, M1, hkd, s1.im.ga hg, G, hs, e0, hlt, by omega, fun H2 kvs2 b2 M2 gr2 hl2 hc2 => ?_⟩
    have hk2 : Dp K H2 (.ref kb) (dataOf (keyOf g)) := (b2.im (T := T) M1.dic).dpT 8 _ _ (pl_data _) hk1
    refine ⟨_, rfl, rd_known M2 ⟨_, rfl, d, kb, kvs2, keyOf g, _, rfl, rfl, rfl, M2.dic, M2.keys, hk2, by omega, ?_⟩⟩
    have b3 : But d H2 (upd H2 d (DN d (putN kvs2 (keyOf g) kb (Vbsgaj.valueOf kind g)))) := fun b o hb nb => by rw [upd_ne nb]; exact hb
    have i3 := b3.im (T := T) M2.dic
    have M3 : MemoAt T (upd H2 d (DN d (putN kvs2 (keyOf g) kb (Vbsgaj.valueOf kind g)))) sa kind d bs (putN kvs2 (keyOf g) kb (Vbsgaj.valueOf kind g)) := by
      obtain ⟨dx2, hin2⟩ := M2.ins
      refine ⟨⟨dx2, i3 _ _ T.neS hin2⟩, upd_same, fun p hp => ?_, M2.memo.put hs hc2⟩
      rcases mem_putN hp with ⟨e1, e2⟩ | ⟨r, hr, e1, e2⟩
      · rw [e1, e2]
        exact i3.dpT 8 _ _ (pl_data _) hk2
      · rw [← e1, ← e2]
        exact i3.dpT 8 _ _ (pl_data _) (M2.keys r hr)
    refine ⟨_, rfl, rd_known M3 ⟨_, rfl, d, kb, _, keyOf g, _, rfl, rfl, M3.dic, M3.keys, i3.dpT 8 _ _ (pl_data _) hk2, by rw [lookN_put, if_pos rfl], ?_⟩⟩
    refine q _ _ (s1.but.trans (b2.trans b3)) M3 (gr2.trans grow_put) ?_ fun _ => has_put
    have := length_putN (kvs := kvs2) (k := keyOf g) (b := kb) (v := Vbsgaj.valueOf kind g)
    omega
end
end ST
set_option Elab.async false
set_option linter.all false
set_option maxRecDepth 100000
namespace ST
open PySem PySem.Spec PyProof.Rows L2 NKey
theorem may_take {g : Vbsgaj.Game} {i o : Nat} (h : (Vbsgaj.orders g)[i]? = some o) : Vbsgaj.may g o = true := mem_orders.mp (List.mem_of_getElem? h)
theorem ordL_pos {g : Vbsgaj.Game} (h : 0 < g.left) : ordL g = Vbsgaj.orders g := if_neg (by omega)
theorem decI (i j : Int) : decide (V.int i = V.int j) = (i == j) := by
  by_cases e : i = j
  · subst e; simp
  · have : ¬ V.int i = V.int j := fun q => e (V.int.inj q)
    rw [decide_eq_false this]
    exact (beq_eq_false_iff_ne.mpr e).symm
section
variable {P : Program} {w : World} {K : PySem.W.Frag} {mg : Str → Option Value} {base : Heap}
theorem Mt.none {C : Addr} {x qual : Str} {st : Stmt} {ps : List Str} {k : Nat} {sp : Sp} (F : Mt K C x qual st ps) (no : ∀ vs H Q E, ¬ sp vs H Q E) : MCal P w K mg base C k x ps sp := by
  obtain ⟨f, fd, F, b, m⟩ := F
  exact ⟨f, fd, ⟨fun vs H Q E h => absurd h (no vs H Q E), fun A outer s H args us vs Q E _ _ _ _ h => absurd h (no vs H Q E)⟩, m, b⟩
theorem chosen_step (T : Tx K mg) {k t : Nat} (hk : 6 ≤ k) (C : MCal P w K mg base T.CS k "value" ["self", "game"] (sp2 (q_value T t))) : MCal P w K mg base T.CS (k + 1) "chosen_value" ["self", "game"] (sp2 (q_chosen T (t + 1))) := by
  refine T.F_chosen_value.cal sc_chosen sp2_len fun f cdv A outer s H vs Q E hr h => ?_
  obtain ⟨_, _, rfl, sa, ga, kind, d, bs, kvs, g, rfl, rfl, M, hkd, hg, G, hs, e0, hlt, hz, q⟩ := h
  have nd := sc_chosen.nd
  refine ⟨_, pss_cons (ps_setLc (i := 2) (own := [("order", 3)]) rfl nd rfl rfl (sw_true rfl rfl rfl rfl) (pi_list (pe_c1 (c_orders_of T) (hr.mono (by omega)) (pv 1))) (blkOk_by rfl) (fun _ _ _ _ _ => pg_name (i := 3) nd rfl (Or.inl rfl)) (fun _ _ _ _ _ => pts_nil)
      (te := tM2 T.CS "value" (q_value T t) (tVar 0) (tC2 (q_game_behind T) (tVar 1) (tVar 3)))
      (by intro _ _ _ _ _; exact pe_m2 C hr T.clCS (pv 0) (pe_c2 (c_game_behind T) (hr.mono hk) (pv 1) (pv 3))))
    (pss_cons (ps_if (pt_val (pe_c2 (c_plays_for_most T) (hr.mono (by omega)) (pe_fld (pv 1) rfl) (pe_fld (pv 0) rfl))) (pss_one (ps_ret (pe_callB (cr_max rfl) rfl T.b_max boot_max (pa_cons (pv 2) pa_nil)))) pss_nil)
    (pss_one (ps_ret (pe_callB (cr_min rfl) rfl T.b_min boot_min (pa_cons (pv 2) pa_nil))))), ?_⟩
  refine ⟨_, rfl, ga, g, rfl, hg, G, fun ol H1 s1 hol => ?_⟩
  rw [ordL_pos e0] at hol
  have M1 := M.same s1
  refine ⟨ol, rfl, ⟨_, SqL.of hol⟩, fun D hD => lc_list (K := K) (a := ol) (xs := nV (Vbsgaj.orders g)) (fun i H' => ∃ kvs', But d H1 H' ∧ H' D = some (.lst ((((Vbsgaj.orders g).take i).map fun o => Vbsgaj.valueOf kind (Vbsgaj.played g o)).map V.int)) ∧ MemoAt T H' sa kind d bs kvs' ∧ Grow kvs kvs' ∧
    kvs'.length ≤ kvs.length + i * cnt (4 * g.companies.length + 1) (g.left - 1) ∧ ∀ o, o ∈ (Vbsgaj.orders g).take i → 0 < (Vbsgaj.played g o).left → has kvs' (Vbsgaj.played g o)) ?_ ?_ ?_ ?_⟩
  · refine ⟨kvs, (same_new hD _).but, upd_same, M1.same (same_new hD _), Grow.rfl, by omega, fun o ho => ?_⟩
    rw [List.take_zero] at ho
    exact nomatch ho
  · rintro i H' _ ⟨kvs', b, _⟩
    exact SqL.of (b _ _ hol (ne_of hol M1.dic (by intro z; cases z)))
  · rintro i x H' hx ⟨kvs', b, hD', M', gr, hl, hh⟩
    obtain ⟨o, ho, rfl⟩ := nat_of hx
    refine ⟨rfl, ?_⟩
    show tM2 T.CS "value" (q_value T t) (tVar 0) (tC2 (q_game_behind T) (tVar 1) (tVar 3)) _ H' _
    obtain ⟨dx, hin⟩ := M'.ins
    have hm := may_take ho
    have im1 : Im T H H' := s1.im.trans (b.im M1.dic)
    have hi : i < (Vbsgaj.orders g).length := (List.getElem?_eq_some_iff.mp ho).1
    have hol2 := orders_len g
    refine ⟨_, rfl, sa, dx, _, rfl, hin, (no_meth _ _).1, _, rfl, _, rfl, ga, g, o, rfl, rfl, im1.ga hg, G, hm, e0, fun p2 H2 s2 h2 => ?_⟩
    have hcost : cost kvs' (Vbsgaj.played g o) ≤ cnt (4 * g.companies.length + 1) (g.left - 1) := by
      have := cost_le kvs' (Vbsgaj.played g o)
      rw [played_len, played_left] at this
      exact this
    have hmul : (i + 1) * cnt (4 * g.companies.length + 1) (g.left - 1) ≤ (4 * g.companies.length + 1) * cnt (4 * g.companies.length + 1) (g.left - 1) := Nat.mul_le_mul_right _ (by omega)
    rw [Nat.add_mul, Nat.one_mul] at hmul
    refine ⟨sa, p2, kind, d, bs, kvs', Vbsgaj.played g o, rfl, rfl, M'.same s2, hkd, h2, G.played hm, by rw [played_shape]; exact hs, by rw [played_left]; omega, by omega, fun H3 kvs3 b3 M3 gr3 hl3 hh3 => ?_⟩
    have hD3 : H3 D = some _ := b3 _ _ (s2 _ _ hD') (ne_of (s2 _ _ hD') (s2 _ _ M'.dic) (by intro z; cases z))
    refine ⟨_, hD3, ?_, kvs3, ?_, ?_, M3.updL hD3, gr.trans gr3, ?_, fun o' ho' hl' => ?_⟩
    · rw [List.length_map, List.length_map, List.length_take]
      have := G.nc
      exact small1000 (by omega)
    · intro c u hc nc
      rw [upd_ne (ne_of_none hc hD)]
      exact b3 _ _ (s2 _ _ (b _ _ hc nc)) nc
    · rw [upd_same, List.take_add_one, ho, List.map_append, List.map_append]
      all_goals rfl
    · rw [Nat.add_mul, Nat.one_mul]
      omega
    · rw [List.take_add_one, ho, List.mem_append] at ho'
      rcases ho' with z | z
      · exact gr3.has (hh o' z hl')
      · have : o' = o := by simpa using z
        subst this
        exact hh3 hl'
  · rintro H' ⟨kvs', b, hD', M', gr, hl, hh⟩
    rw [List.length_map] at hD' hl hh
    rw [List.take_length] at hD' hh
    have im1 : Im T H H' := s1.im.trans (b.im M1.dic)
    obtain ⟨cs, hgr, hcs⟩ := im1.ga hg
    have hval := valueOf_pos (kind := kind) e0
    have hne : 0 < ((Vbsgaj.orders g).map fun o => Vbsgaj.valueOf kind (Vbsgaj.played g o)).length := by
      rw [List.length_map]
      exact List.length_pos_iff.mpr (orders_ne g)
    have hq : Q (.int (Vbsgaj.valueOf kind g)) H' := by
      refine q H' kvs' (s1.but.trans b) M' gr ?_ fun o ho hl' => hh o (mem_orders.mpr ho) hl'
      have hmul := Nat.mul_le_mul_right (cnt (4 * g.companies.length + 1) (g.left - 1)) (orders_len g)
      omega
    refine ⟨_, rfl, rd_turn hgr ⟨_, rfl, rd_goal M' ⟨g.turn, kind, rfl, rfl, _, rfl, ?_⟩⟩⟩
    cases hw : Vbsgaj.wants kind g.turn with
    | true =>
      refine iteT ?_
      rw [hw] at hval
      refine ⟨_, rfl, D, _, rfl, SqL.of hD', hne, fun m h1 h2 => ?_⟩
      rw [pick_max h1 h2] at hval
      rw [← hval]
      exact hq
    | false =>
      refine iteF ?_
      rw [hw] at hval
      refine ⟨_, rfl, D, _, rfl, SqL.of hD', hne, fun m h1 h2 => ?_⟩
      rw [pick_min h1 h2] at hval
      rw [← hval]
      exact hq
theorem value_ok (T : Tx K mg) : ∀ t : Nat, MCal P w K mg base T.CS (6 + 2 * t) "value" ["self", "game"] (sp2 (q_value T t))
  | 0 => T.F_value.none fun vs H Q E h => by
    obtain ⟨_, _, _, _, _, _, _, _, _, _, _, _, _, _, _, _, _, h, _⟩ := h
    exact absurd h (Nat.not_lt_zero _)
  | t + 1 => by
    have h6 : 6 ≤ 6 + 2 * t := Nat.le_add_right _ _
    have h3 : 3 ≤ 6 + 2 * t + 1 := by omega
    exact value_step T h3 (chosen_step T h6 (value_ok T t))
theorem c_value (T : Tx K mg) : MCal P w K mg base T.CS 24 "value" ["self", "game"] (sp2 (q_value T 9)) := value_ok T 9
theorem sc_best_order : FnScope ["self", "game", "wanted", "fitting", "order"] ["self", "game"] (defScope s_best_order) := ⟨rfl, rfl, rfl, by decide +kernel, rfl, by decide +kernel, by decide +kernel⟩
def q_best_order (T : Tx K mg) : V → V → Hp → VK → Prop := fun v u H Q => ∃ (sa ga : Addr) (kind : Nat) (d : Addr) (bs : List (List Int × Int)) (kvs : KN) (g : Vbsgaj.Game), v = .ref sa ∧ u = .ref ga ∧ MemoAt T H sa kind d bs kvs ∧ kind ≤ 2 ∧ Ga T H ga g ∧ VG g ∧ shape g = bs ∧ 0 < g.left ∧
  kvs.length + cost kvs g < sizeLine ∧ ∀ H' kvs', But d H H' → MemoAt T H' sa kind d bs kvs' → Grow kvs kvs' → kvs'.length ≤ kvs.length + cost kvs g → has kvs' g → Q (.int (Vbsgaj.bestOrder kind g : Nat)) H'
theorem child_cost {kind : Nat} {bs : List (List Int × Int)} {kvs : KN} {g : Vbsgaj.Game} {o : Nat} (M : Memo kind bs kvs) (G : VG g) (hs : shape g = bs) (h : has kvs g) (hm : Vbsgaj.may g o = true) : cost kvs (Vbsgaj.played g o) = 0 := by
  by_cases e : (Vbsgaj.played g o).left = 0
  · exact cost_zero e
  · exact cost_has (M.cl g o G hs h hm (by omega))
theorem c_best_order (T : Tx K mg) : MCal P w K mg base T.CS 25 "best_order" ["self", "game"] (sp2 (q_best_order T)) := by
  refine T.F_best_order.cal (k := 24) sc_best_order sp2_len fun f cdv A outer s H vs Q E hr h => ?_
  obtain ⟨_, _, rfl, sa, ga, kind, d, bs, kvs, g, rfl, rfl, M, hkd, hg, G, hs, e0, hz, q⟩ := h
  have nd := sc_best_order.nd
  refine ⟨_, pss_cons (ps_set (i := 2) nd rfl (Or.inr rfl) (pe_m2 (c_value T) hr T.clCS (pv 0) (pv 1)))
    (pss_cons (ps_setLc (i := 3) (own := [("order", 4)]) rfl nd rfl rfl (sw_true rfl rfl rfl rfl) (pi_list (pe_c1 (c_orders_of T) (hr.mono (by decide)) (pv 1))) (blkOk_by rfl) (fun _ _ _ _ _ => pg_name (i := 4) nd rfl (Or.inl rfl))
      (tt := tTest (tOp rEq (tM2 T.CS "value" (q_value T 9) (tVar 0) (tC2 (q_game_behind T) (tVar 1) (tVar 4))) (tVar 2)))
      (by intro _ _ _ _ _; exact pts_one (pt_cmpR op_eq (pe_m2 (c_value T) hr T.clCS (pv 0) (pe_c2 (c_game_behind T) (hr.mono (by decide)) (pv 1) (pv 4))) (pv 2) (nomark _)))
      (by intro _ _ _ _ _; exact pv 4))
    (pss_one (ps_ret (pe_ix ix_list (pv 3) pe_int (fun _ _ => rfl))))), ?_⟩
  obtain ⟨dx, hin⟩ := M.ins
  have hle := G.le
  refine ⟨_, rfl, sa, dx, _, rfl, hin, (no_meth _ _).1, _, rfl, sa, ga, kind, d, bs, kvs, g, rfl, rfl, M, hkd, hg, G, hs, by omega, hz, fun H1 kvs1 b1 M1 gr1 hl1 hh1 => ?_⟩
  have hh1 := hh1 e0
  have im1 : Im T H H1 := b1.im M.dic
  refine ⟨_, rfl, ga, g, rfl, im1.ga hg, G, fun ol H2 s2 hol => ?_⟩
  rw [ordL_pos e0] at hol
  have M2 := M1.same s2
  refine ⟨ol, rfl, ⟨_, SqL.of hol⟩, fun D hD => lc_list (K := K) (a := ol) (xs := nV (Vbsgaj.orders g)) (fun i H' => ∃ kvs', But d H2 H' ∧ H' D = some (.lst (nV (((Vbsgaj.orders g).take i).filter fun o => Vbsgaj.valueOf kind (Vbsgaj.played g o) == Vbsgaj.valueOf kind g))) ∧
    MemoAt T H' sa kind d bs kvs' ∧ Grow kvs1 kvs' ∧ kvs'.length ≤ kvs1.length) ?_ ?_ ?_ ?_⟩
  · exact ⟨kvs1, (same_new hD _).but, upd_same, M2.same (same_new hD _), Grow.rfl, Nat.le_refl _⟩
  · rintro i H' _ ⟨kvs', b, _⟩
    exact SqL.of (b _ _ hol (ne_of hol M2.dic (by intro z; cases z)))
  · rintro i x H' hx ⟨kvs', b, hD', M', gr, hl⟩
    obtain ⟨o, ho, rfl⟩ := nat_of hx
    refine ⟨rfl, ?_⟩
    obtain ⟨dx', hin'⟩ := M'.ins
    have hm := may_take ho
    have im2 : Im T H H' := im1.trans (s2.im.trans (b.im M2.dic))
    have hc0 : cost kvs' (Vbsgaj.played g o) = 0 := child_cost M'.memo G hs (gr.has hh1) hm
    refine ⟨_, rfl, sa, dx', _, rfl, hin', (no_meth _ _).1, _, rfl, _, rfl, ga, g, o, rfl, rfl, im2.ga hg, G, hm, e0, fun p3 H3 s3 h3 => ?_⟩
    refine ⟨sa, p3, kind, d, bs, kvs', Vbsgaj.played g o, rfl, rfl, M'.same s3, hkd, h3, G.played hm, by rw [played_shape]; exact hs, by rw [played_left]; omega, by omega, fun H4 kvs4 b4 M4 gr4 hl4 hh4 => ?_⟩
    have hD4 : H4 D = some _ := b4 _ _ (s3 _ _ hD') (ne_of (s3 _ _ hD') (s3 _ _ M'.dic) (by intro z; cases z))
    have bb : But d H2 H4 := b.trans (s3.but.trans b4)
    refine ⟨_, rfl, rfl, _, rfl, ?_⟩
    rw [decI]
    have etk : (Vbsgaj.orders g).take (i + 1) = (Vbsgaj.orders g).take i ++ [o] := by rw [List.take_add_one, ho]; rfl
    cases hv : (Vbsgaj.valueOf kind (Vbsgaj.played g o) == Vbsgaj.valueOf kind g) with
    | true =>
      refine iteT ?_
      refine ⟨_, rfl, _, hD4, ?_, kvs4, ?_, ?_, M4.updL hD4, gr.trans gr4, by omega⟩
      · rw [List.length_map]
        have h1 := List.length_filter_le (fun o => Vbsgaj.valueOf kind (Vbsgaj.played g o) == Vbsgaj.valueOf kind g) ((Vbsgaj.orders g).take i)
        rw [List.length_take] at h1
        have h2 := orders_len g
        have := G.nc
        exact small1000 (by omega)
      · intro c u hc nc
        rw [upd_ne (ne_of_none hc hD)]
        exact bb _ _ hc nc
      · rw [upd_same, etk, List.filter_append, List.filter_cons, if_pos hv]
        simp only [nV, List.map_append, List.filter_nil, List.map_cons, List.map_nil]
    | false =>
      refine iteF ?_
      refine ⟨kvs4, bb, ?_, M4, gr.trans gr4, by omega⟩
      rw [hD4, etk, List.filter_append, List.filter_cons, if_neg (by rw [hv]; exact Bool.false_ne_true), List.filter_nil, List.append_nil]
  · rintro H' ⟨kvs', b, hD', M', gr, hl⟩
    rw [List.length_map, List.take_length] at hD'
    have hb := best_head (kind := kind) e0
    refine ⟨_, rfl, D, _, _, _, rfl, rfl, SqL.of hD', at_of (j := 0) (v := V.int (Vbsgaj.bestOrder kind g : Nat)) rfl ?_, ?_⟩
    · rw [List.getElem?_map, ← List.head?_eq_getElem?, hb]
      all_goals rfl
    · exact q H' kvs' (b1.trans (s2.but.trans b)) M' (gr1.trans gr) (by omega) (gr.has hh1)
end
end ST
set_option Elab.async false
set_option linter.all false
set_option maxRecDepth 100000
namespace ST
open PySem PySem.Spec PyProof.Rows L2 NKey
def okLine : Vbsgaj.Game → List Nat → Prop
  | _, [] => True
  | g, o :: r => 0 < g.left ∧ Vbsgaj.may g o = true ∧ okLine (Vbsgaj.played g o) r
theorem line_ok (kind : Nat) : ∀ (t : Nat) (g : Vbsgaj.Game), g.left = t → okLine g (Vbsgaj.lineFrom kind t g).1 ∧ (Vbsgaj.lineFrom kind t g).1.foldl Vbsgaj.played g = (Vbsgaj.lineFrom kind t g).2 ∧ (Vbsgaj.lineFrom kind t g).1.length = t
  | 0, g, _ => ⟨True.intro, rfl, rfl⟩
  | t + 1, g, h => by
    have hl : (Vbsgaj.played g (Vbsgaj.bestOrder kind g)).left = t := by rw [played_left]; omega
    obtain ⟨a, b, c⟩ := line_ok kind t (Vbsgaj.played g (Vbsgaj.bestOrder kind g)) hl
    exact ⟨⟨by omega, best_may (by omega), a⟩, b, by show _ + 1 = _; rw [c]⟩
/-- the duel, the row's orders as they are handed in -/
def duelZ (x : Nat) : Nat → Vbsgaj.Game → List Int → Option (List Nat × Vbsgaj.Game)
  | 0, g, l => if l.isEmpty = true then some ([], g) else none
  | t + 1, g, l =>
    if g.turn = x then (duelZ x t (Vbsgaj.played g (Vbsgaj.bestOrder x g)) l).map fun y => (Vbsgaj.bestOrder x g :: y.1, y.2)
    else match l with
      | [] => none
      | o :: r => if 0 ≤ o ∧ Vbsgaj.may g o.toNat = true then (duelZ x t (Vbsgaj.played g o.toNat) r).map fun y => (o.toNat :: y.1, y.2) else none
theorem duelZ_all (x : Nat) : ∀ (t : Nat) (g : Vbsgaj.Game) (l : List Int), (l.all fun o => decide (0 ≤ o)) = true → duelZ x t g l = Vbsgaj.duel x t g (l.map Int.toNat)
  | 0, g, l, _ => by
    unfold duelZ Vbsgaj.duel
    cases l <;> rfl
  | t + 1, g, l, h => by
    unfold duelZ Vbsgaj.duel
    by_cases ht : g.turn = x
    · rw [if_pos ht, if_pos ht, duelZ_all x t _ l h]
    · rw [if_neg ht, if_neg ht]
      cases l with
      | nil => rfl
      | cons o r =>
        rw [List.all_cons, Bool.and_eq_true, decide_eq_true_eq] at h
        show (if 0 ≤ o ∧ Vbsgaj.may g o.toNat = true then _ else none) = (if Vbsgaj.may g o.toNat = true then _ else none)
        by_cases hm : Vbsgaj.may g o.toNat = true
        · rw [if_pos ⟨h.1, hm⟩, if_pos hm, duelZ_all x t _ r h.2]
        · rw [if_neg (fun z => hm z.2), if_neg hm]
theorem duelZ_neg (x : Nat) : ∀ (t : Nat) (g : Vbsgaj.Game) (l : List Int), (l.all fun o => decide (0 ≤ o)) = false → duelZ x t g l = none
  | 0, g, l, h => by
    cases l with
    | nil => simp at h
    | cons o r => rfl
  | t + 1, g, l, h => by
    unfold duelZ
    by_cases ht : g.turn = x
    · rw [if_pos ht, duelZ_neg x t _ l h]
      rfl
    · rw [if_neg ht]
      cases l with
      | nil => rfl
      | cons o r =>
        show (if 0 ≤ o ∧ Vbsgaj.may g o.toNat = true then _ else none) = none
        by_cases hm : 0 ≤ o ∧ Vbsgaj.may g o.toNat = true
        · rw [if_pos hm]
          rw [List.all_cons, decide_eq_true hm.1, Bool.true_and] at h
          rw [duelZ_neg x t _ r h]
          rfl
        · rw [if_neg hm]
theorem duelZ_ok (x : Nat) : ∀ (t : Nat) (g : Vbsgaj.Game) (l : List Int) (y : List Nat × Vbsgaj.Game), g.left = t → duelZ x t g l = some y → okLine g y.1 ∧ y.1.foldl Vbsgaj.played g = y.2 ∧ y.1.length = t
  | 0, g, l, y, _, h => by
    unfold duelZ at h
    split at h
    · cases h; exact ⟨True.intro, rfl, rfl⟩
    · cases h
  | t + 1, g, l, y, hl, h => by
    have hp : ∀ o, (Vbsgaj.played g o).left = t := fun o => by rw [played_left]; omega
    unfold duelZ at h
    split at h
    · cases e : duelZ x t (Vbsgaj.played g (Vbsgaj.bestOrder x g)) l with
      | none => rw [e] at h; cases h
      | some z =>
        rw [e] at h
        cases h
        obtain ⟨a, b, c⟩ := duelZ_ok x t _ l z (hp _) e
        exact ⟨⟨by omega, best_may (by omega), a⟩, b, by show _ + 1 = _; rw [c]⟩
    · split at h
      · cases h
      · rename_i o r
        split at h
        · rename_i hm
          cases e : duelZ x t (Vbsgaj.played g o.toNat) r with
          | none => rw [e] at h; cases h
          | some z =>
            rw [e] at h
            cases h
            obtain ⟨a, b, c⟩ := duelZ_ok x t _ r z (hp _) e
            exact ⟨⟨by omega, hm.2, a⟩, b, by show _ + 1 = _; rw [c]⟩
        · cases h
theorem inV_nat {n : Int} : ∀ {l : List Nat}, inV (.int n) (nV l) = decide (0 ≤ n ∧ n.toNat ∈ l)
  | [] => by simp [inV]
  | a :: l => by
    have ih := inV_nat (n := n) (l := l)
    unfold inV at ih ⊢
    show ((V.int (a : Int) :: nV l).any fun y => eqV y (.int n)) = _
    rw [List.any_cons, ih]
    show ((a : Int) == n || _) = _
    by_cases e : (a : Int) = n
    · have e1 : n.toNat = a := by omega
      have e2 : 0 ≤ n := by omega
      simp [e, e1, e2]
    · have e1 : ¬ (0 ≤ n ∧ n.toNat = a) := by omega
      have e3 : ((a : Int) == n) = false := beq_eq_false_iff_ne.mpr e
      rw [e3, Bool.false_or]
      apply decide_eq_decide.mpr
      rw [List.mem_cons]
      constructor
      · rintro ⟨h1, h2⟩; exact ⟨h1, .inr h2⟩
      · rintro ⟨h1, h2 | h2⟩
        · exact absurd ⟨h1, h2⟩ e1
        · exact ⟨h1, h2⟩
theorem flat_nat : ∀ (l : List Nat), (nV l).all flatV = true
  | [] => rfl
  | a :: l => by
    show (V.int (a : Int) :: nV l).all flatV = true
    rw [List.all_cons, flat_nat l]
    rfl
section
variable {P : Program} {w : World} {K : PySem.W.Frag} {mg : Str → Option Value} {base : Heap}
theorem sc_game_at_end : FnScope ["game", "given", "order"] ["game", "given"] (defScope s_game_at_end) := ⟨rfl, rfl, rfl, by decide +kernel, rfl, by decide +kernel, by decide +kernel⟩
def q_game_at_end (T : Tx K mg) : V → V → Hp → VK → Prop := fun v u H Q => ∃ (a b : Addr) (g : Vbsgaj.Game) (os : List Nat), v = .ref a ∧ u = .ref b ∧ Ga T H a g ∧ VG g ∧ H b = some (.lst (nV os)) ∧ okLine g os ∧
  ∀ p H', Same H H' → Ga T H' p (os.foldl Vbsgaj.played g) → VG (os.foldl Vbsgaj.played g) → Q (.ref p) H'
theorem okLine_at : ∀ {g : Vbsgaj.Game} {os : List Nat} {i o : Nat}, VG g → okLine g os → os[i]? = some o → 0 < ((os.take i).foldl Vbsgaj.played g).left ∧ Vbsgaj.may ((os.take i).foldl Vbsgaj.played g) o = true
  | g, [], i, o, _, _, h => by simp at h
  | g, a :: os, 0, o, _, hk, h => by
    have : a = o := Option.some.inj h
    subst this
    exact ⟨hk.1, hk.2.1⟩
  | g, a :: os, i + 1, o, G, hk, h => okLine_at (i := i) (G.played hk.2.1) hk.2.2 h
theorem c_game_at_end (T : Tx K mg) : Cal P w K mg base 7 "game_at_end" ["game", "given"] (sp2 (q_game_at_end T)) := by
  refine T.F_game_at_end.cal (k := 6) sc_game_at_end sp2_len fun f cdv A outer s H vs Q E hr h => ?_
  obtain ⟨_, _, rfl, a, b, g, os, rfl, rfl, hg, G, hb, hk, q⟩ := h
  have nd := sc_game_at_end.nd
  refine ⟨_, pss_cons (ps_for PassesOwn.never rfl (pi_list (pv 1)) (pg_name (i := 2) nd rfl (Or.inl rfl)) (pss_one (ps_set (i := 0) nd rfl (Or.inl rfl) (pe_c2 (c_game_behind T) hr (pv 0) (pv 2))))) (pss_one (ps_ret (pv 0))), ?_⟩
  refine ⟨_, rfl, b, rfl, ⟨_, SqL.of hb⟩, for_list (K := K) (a := b) (xs := nV os) (fun i σ H' => ∃ a' v2, σ = [some (.ref a'), some (.ref b), v2] ∧ Same H H' ∧ Ga T H' a' ((os.take i).foldl Vbsgaj.played g) ∧ VG ((os.take i).foldl Vbsgaj.played g))
    ⟨a, none, rfl, Same.rfl, hg, G⟩ (fun i σ H' _ ⟨_, _, _, s1, _⟩ => SqL.of (s1 _ _ hb)) ?_ ?_⟩
  · rintro i y σ H' hy ⟨a', v2, rfl, s1, hg1, G1⟩
    obtain ⟨o, ho, rfl⟩ := nat_of hy
    obtain ⟨h1, h2⟩ := okLine_at G hk ho
    refine ⟨_, rfl, _, rfl, a', _, o, rfl, rfl, hg1, G1, h2, h1, fun p H2 s2 h3 => ?_⟩
    have e : (os.take (i + 1)).foldl Vbsgaj.played g = Vbsgaj.played ((os.take i).foldl Vbsgaj.played g) o := by
      rw [List.take_add_one, ho, List.foldl_append]; rfl
    rw [e]
    exact ⟨p, _, rfl, s1.trans s2, h3, G1.played h2⟩
  · rintro σ H' ⟨a', v2, rfl, s1, hg1, G1⟩
    rw [List.length_map, List.take_length] at hg1 G1
    exact ⟨_, rfl, q a' H' s1 hg1 G1⟩
theorem sc_best_line : FnScope ["search", "game", "given", "order"] ["search", "game"] (defScope s_best_line) := ⟨rfl, rfl, rfl, by decide +kernel, rfl, by decide +kernel, by decide +kernel⟩
def q_best_line (T : Tx K mg) : V → V → Hp → VK → Prop := fun v u H Q => ∃ (sa ga : Addr) (kind : Nat) (d : Addr) (bs : List (List Int × Int)) (kvs : KN) (g : Vbsgaj.Game), v = .ref sa ∧ u = .ref ga ∧ MemoAt T H sa kind d bs kvs ∧ kind ≤ 2 ∧ Ga T H ga g ∧ VG g ∧ shape g = bs ∧
  kvs.length + cost kvs g < sizeLine ∧ ∀ p H' kvs', But d H H' → MemoAt T H' sa kind d bs kvs' → kvs'.length ≤ kvs.length + cost kvs g → H' p = some (.lst (nV (Vbsgaj.lineFrom kind g.left g).1)) → Q (.ref p) H'
theorem c_best_line (T : Tx K mg) : Cal P w K mg base 26 "best_line" ["search", "game"] (sp2 (q_best_line T)) := by
  refine T.F_best_line.cal (k := 25) sc_best_line sp2_len fun f cdv A outer s H vs Q E hr h => ?_
  obtain ⟨_, _, rfl, sa, ga, kind, d, bs, kvs, g, rfl, rfl, M, hkd, hg, G, hs, hz, q⟩ := h
  have nd := sc_best_line.nd
  refine ⟨_, pss_cons (ps_set (i := 2) nd rfl (Or.inl rfl) (pe_lst pa_nil))
    (pss_cons (ps_while PassesOwn.never (pt_cmpR op_gt (pe_fld (pv 1) rfl) pe_int (nomark _))
      (pss_cons (ps_set (i := 3) nd rfl (Or.inl rfl) (pe_m2 (c_best_order T) hr T.clCS (pv 0) (pv 1)))
      (pss_cons (ps_expr (pe_bm PySem.F.plainAttrs_list PySem.F.slot_list_append PySem.F.type_list_append mt_append (pv 2) (pa_cons (pv 3) pa_nil)))
      (pss_one (ps_set (i := 1) nd rfl (Or.inl rfl) (pe_c2 (c_game_behind T) (hr.mono (by decide)) (pv 1) (pv 3)))))))
    (pss_one (ps_ret (pv 2)))), ?_⟩
  refine ⟨szn 0 rfl, fun p hp => ?_⟩
  refine ⟨fun m σ H' => ∃ ga' g' kvs' done vo, σ = [some (.ref sa), some (.ref ga'), some (.ref p), vo] ∧ g'.left = m ∧ Ga T H' ga' g' ∧ VG g' ∧ shape g' = bs ∧ But d H H' ∧ MemoAt T H' sa kind d bs kvs' ∧ kvs'.length + cost kvs' g' ≤ kvs.length + cost kvs g ∧
    H' p = some (.lst (nV done)) ∧ done ++ (Vbsgaj.lineFrom kind m g').1 = (Vbsgaj.lineFrom kind g.left g).1 ∧ done.length + m = g.left, ⟨g.left, ga, g, kvs, [], none, rfl, rfl, (same_new hp _).im.ga hg, G, hs, (same_new hp _).but, M.same (same_new hp _), Nat.le_refl _, upd_same, rfl, by simp⟩, ?_⟩
  rintro m σ H' ⟨ga', g', kvs', done, vo, rfl, hm, hg', G', hs', b', M', hc', hp', hdone, hlen⟩
  have hg2 := hg'
  obtain ⟨cs, hgr, hcs⟩ := hg2
  refine ⟨_, rfl, rd_left hgr ⟨_, _, rfl, rfl, _, rfl, itD (fun c => ?_) (fun c => ?_)⟩⟩
  · have e0 : 0 < g'.left := by have : (0 : Int) < (g'.left : Int) := c; omega
    refine ⟨_, fun σ' H' h => h, ?_⟩
    obtain ⟨dx, hin⟩ := M'.ins
    refine ⟨_, rfl, sa, dx, _, rfl, hin, (no_meth _ _).2.2, _, rfl, sa, ga', kind, d, bs, kvs', g', rfl, rfl, M', hkd, hg', G', hs', e0, by omega, fun H2 kvs2 b2 M2 gr2 hl2 hh2 => ?_⟩
    have nep : p ≠ d := ne_of hp' M'.dic (by intro z; cases z)
    have hp2 := b2 _ _ hp' nep
    have im2 : Im T H' H2 := b2.im M'.dic
    refine ⟨_, rfl, .inl ⟨rfl, _, SqL.of hp2⟩, _, rfl, p, _, _, rfl, rfl, hp2, ?_, ?_⟩
    · rw [List.length_map]
      have := G.le
      exact small1000 (by omega)
    · have im3 : Im T H2 (upd H2 p (.lst (nV done ++ [.int (Vbsgaj.bestOrder kind g' : Nat)]))) := Im.updL hp2
      have M3 := M2.updL hp2 (L := nV done ++ [.int (Vbsgaj.bestOrder kind g' : Nat)])
      have hbm := best_may (kind := kind) e0
      refine ⟨_, rfl, _, rfl, ga', g', _, rfl, rfl, (im2.trans im3).ga hg', G', hbm, e0, fun p4 H4 s4 h4 => ?_⟩
      refine ⟨m - 1, by omega, p4, Vbsgaj.played g' (Vbsgaj.bestOrder kind g'), kvs2, done ++ [Vbsgaj.bestOrder kind g'], _, rfl, by rw [played_left]; omega, h4, G'.played hbm, by rw [played_shape]; exact hs', ?_, M3.same s4, ?_, ?_, ?_, ?_⟩
      · intro c u hc nc
        refine s4 _ _ ?_
        rw [upd_ne (ne_of_none hc hp)]
        exact b2 _ _ (b' _ _ hc nc) nc
      · rw [child_cost M2.memo G' hs' hh2 hbm]
        omega
      · rw [s4 _ _ upd_same]
        simp only [nV, List.map_append, List.map_cons, List.map_nil]
      · obtain ⟨t, rfl⟩ : ∃ t, m = t + 1 := ⟨m - 1, by omega⟩
        rw [← hdone, List.append_assoc]
        rfl
      · rw [List.length_append]
        show done.length + 1 + _ = _
        omega
  · have e0 : g'.left = 0 := by have : ¬ (0 : Int) < (g'.left : Int) := c; omega
    have em : m = 0 := by omega
    subst em
    refine ⟨_, rfl, q p H' kvs' b' M' (by omega) ?_⟩
    rw [← hdone, show (Vbsgaj.lineFrom kind 0 g').1 = [] from rfl, List.append_nil]
    exact hp'
theorem sc_duel_line : FnScope ["search", "game", "player", "row", "given", "taken", "order"] ["search", "game", "player", "row"] (defScope s_duel_line) := ⟨rfl, rfl, rfl, by decide +kernel, rfl, by decide +kernel, by decide +kernel⟩
def q_duel_line (T : Tx K mg) : V → V → V → V → Hp → VK → Prop := fun v u z y H Q => ∃ (sa ga ra : Addr) (x : Nat) (d : Addr) (bs : List (List Int × Int)) (kvs : KN) (g : Vbsgaj.Game) (ns : List Int), v = .ref sa ∧ u = .ref ga ∧ z = .int x ∧ y = .ref ra ∧
  MemoAt T H sa x d bs kvs ∧ x ≤ 1 ∧ Ga T H ga g ∧ VG g ∧ shape g = bs ∧ H ra = some (.lst (ns.map V.int)) ∧ kvs.length + cost kvs g < sizeLine ∧
  (∀ H' kvs', But d H H' → MemoAt T H' sa x d bs kvs' → kvs'.length ≤ kvs.length + cost kvs g → duelZ x g.left g ns = none → Q .non H') ∧
  (∀ p H' kvs' y, But d H H' → MemoAt T H' sa x d bs kvs' → kvs'.length ≤ kvs.length + cost kvs g → duelZ x g.left g ns = some y → H' p = some (.lst (nV y.1)) → Q (.ref p) H')
theorem cost_child {kind : Nat} {bs : List (List Int × Int)} {kvs : KN} {g : Vbsgaj.Game} {o : Nat} (M : Memo kind bs kvs) (G : VG g) (hs : shape g = bs) (e0 : 0 < g.left) (hm : Vbsgaj.may g o = true) : cost kvs (Vbsgaj.played g o) ≤ cost kvs g := by
  by_cases h : has kvs g
  · rw [child_cost M G hs h hm]; exact Nat.zero_le _
  · refine Nat.le_trans (cost_le _ _) ?_
    rw [played_len, played_left, cost_new e0 h]
    have : 1 * cnt (4 * g.companies.length + 1) (g.left - 1) ≤ (4 * g.companies.length + 1) * cnt (4 * g.companies.length + 1) (g.left - 1) := Nat.mul_le_mul_right _ (by omega)
    omega
theorem c_duel_line (T : Tx K mg) : Cal P w K mg base 26 "duel_line" ["search", "game", "player", "row"] (sp4 (q_duel_line T)) := by
  refine T.F_duel_line.cal (k := 25) sc_duel_line sp4_len fun f cdv A outer s H vs Q E hr h => ?_
  obtain ⟨_, _, _, _, rfl, sa, ga, ra, x, d, bs, kvs, g, ns, rfl, rfl, rfl, rfl, M, hkd, hg, G, hs, hra, hz, q1, q2⟩ := h
  have nd := sc_duel_line.nd
  refine ⟨_, pss_cons (ps_set (i := 4) nd rfl (Or.inl rfl) (pe_lst pa_nil))
    (pss_cons (ps_set (i := 5) nd rfl (Or.inl rfl) pe_int)
    (pss_cons (ps_while PassesOwn.never (pt_cmpR op_gt (pe_fld (pv 1) rfl) pe_int (nomark _))
      (pss_cons (ps_if (pt_cmpR op_eq (pe_fld (pv 1) rfl) (pv 2) (nomark _)) (pss_one (ps_set (i := 6) nd rfl (Or.inl rfl) (pe_m2 (c_best_order T) hr T.clCS (pv 0) (pv 1))))
        (pss_one (ps_if (PW.pt (pw_and (pt_cmpR op_lt (pv 5) (pe_callB call_len_seq rfl T.b_len PySem.boot_len (pa_cons (pv 3) pa_nil)) (nomark _)) (pw_and1 (pt_cmpR op_in_seq (pe_ix ix_list (pv 3) (pv 5) (fun _ _ => rfl)) (pe_c1 (c_orders_of T) (hr.mono (by decide)) (pv 1)) rfl))))
          (pss_cons (ps_set (i := 6) nd rfl (Or.inl rfl) (pe_ix ix_list (pv 3) (pv 5) (fun _ _ => rfl))) (pss_one (ps_aug (i := 5) nd rfl (Or.inl rfl) pe_int ip_add)))
          (pss_one (ps_ret pe_non)))))
      (pss_cons (ps_expr (pe_bm PySem.F.plainAttrs_list PySem.F.slot_list_append PySem.F.type_list_append mt_append (pv 4) (pa_cons (pv 6) pa_nil)))
      (pss_one (ps_set (i := 1) nd rfl (Or.inl rfl) (pe_c2 (c_game_behind T) (hr.mono (by decide)) (pv 1) (pv 6)))))))
    (pss_cons (ps_if (pt_cmpR op_lt (pv 5) (pe_callB call_len_seq rfl T.b_len PySem.boot_len (pa_cons (pv 3) pa_nil)) (nomark _)) (pss_one (ps_ret pe_non)) pss_nil)
    (pss_one (ps_ret (pv 4)))))), ?_⟩
  refine ⟨szn 0 rfl, fun p hp => ?_⟩
  have nelen : (ns.map V.int).length = ns.length := List.length_map _
  refine ⟨fun m σ H' => ∃ ga' g' kvs' done, ∃ tk : Nat, ∃ vo, σ = [some (.ref sa), some (.ref ga'), some (.int x), some (.ref ra), some (.ref p), some (.int (tk : Nat)), vo] ∧ g'.left = m ∧ Ga T H' ga' g' ∧ VG g' ∧ shape g' = bs ∧ But d H H' ∧ MemoAt T H' sa x d bs kvs' ∧
    kvs'.length + cost kvs' g' ≤ kvs.length + cost kvs g ∧ H' p = some (.lst (nV done)) ∧ duelZ x g.left g ns = (duelZ x m g' (ns.drop tk)).map (fun y => (done ++ y.1, y.2)) ∧ tk ≤ ns.length ∧ done.length + m = g.left,
    ⟨g.left, ga, g, kvs, [], 0, none, rfl, rfl, (same_new hp _).im.ga hg, G, hs, (same_new hp _).but, M.same (same_new hp _), Nat.le_refl _, upd_same, ?_, Nat.zero_le _, by simp⟩, ?_⟩
  · rw [List.drop_zero]
    cases duelZ x g.left g ns <;> rfl
  rintro m σ H' ⟨ga', g', kvs', done, tk, vo, rfl, hm, hg', G', hs', b', M', hc', hp', hdone, htk, hlen⟩
  have hg2 := hg'
  obtain ⟨cs, hgr, hcs⟩ := hg2
  have hra' : H' ra = some (.lst (ns.map V.int)) := b' _ _ hra (ne_of hra M.dic (by intro z; cases z))
  have nra : ra ≠ p := ne_of_none hra hp
  refine ⟨_, rfl, rd_left hgr ⟨_, _, rfl, rfl, _, rfl, itD (fun c => ?_) (fun c => ?_)⟩⟩
  · have e0 : 0 < g'.left := by have : (0 : Int) < (g'.left : Int) := c; omega
    obtain ⟨t, rfl⟩ : ∃ t, m = t + 1 := ⟨m - 1, by omega⟩
    refine ⟨_, fun σ' H' h => h, ?_⟩
    have nep : p ≠ d := ne_of hp' M'.dic (by intro z; cases z)
    have hdl : done.length ≤ 8 := by have := G.le; omega
    refine ⟨_, rfl, rd_turn hgr ⟨_, rfl, rfl, _, rfl, itI (fun ct => ?_) (fun ct => ?_)⟩⟩
    · have ct : g'.turn = x := by omega
      obtain ⟨dx, hin⟩ := M'.ins
      refine ⟨_, rfl, sa, dx, _, rfl, hin, (no_meth _ _).2.2, _, rfl, sa, ga', x, d, bs, kvs', g', rfl, rfl, M', by omega, hg', G', hs', e0, by omega, fun H2 kvs2 b2 M2 gr2 hl2 hh2 => ?_⟩
      have hp2 := b2 _ _ hp' nep
      have im2 : Im T H' H2 := b2.im M'.dic
      refine ⟨_, rfl, .inl ⟨rfl, _, SqL.of hp2⟩, _, rfl, p, _, _, rfl, rfl, hp2, ?_, ?_⟩
      · rw [List.length_map]
        exact small1000 (by omega)
      · have im3 : Im T H2 (upd H2 p (.lst (nV done ++ [.int (Vbsgaj.bestOrder x g' : Nat)]))) := Im.updL hp2
        have M3 := M2.updL hp2 (L := nV done ++ [.int (Vbsgaj.bestOrder x g' : Nat)])
        have hbm := best_may (kind := x) e0
        refine ⟨_, rfl, _, rfl, ga', g', _, rfl, rfl, (im2.trans im3).ga hg', G', hbm, e0, fun p4 H4 s4 h4 => ?_⟩
        refine ⟨t, by omega, p4, Vbsgaj.played g' (Vbsgaj.bestOrder x g'), kvs2, done ++ [Vbsgaj.bestOrder x g'], tk, _, rfl, by rw [played_left]; omega, h4, G'.played hbm, by rw [played_shape]; exact hs', ?_, M3.same s4, ?_, ?_, ?_, htk, ?_⟩
        · intro c u hc nc
          refine s4 _ _ ?_
          rw [upd_ne (ne_of_none hc hp)]
          exact b2 _ _ (b' _ _ hc nc) nc
        · rw [child_cost M2.memo G' hs' hh2 hbm]
          omega
        · rw [s4 _ _ upd_same]
          simp only [nV, List.map_append, List.map_cons, List.map_nil]
        · rw [hdone]
          conv => lhs; unfold duelZ
          rw [if_pos ct]
          cases duelZ x t (Vbsgaj.played g' (Vbsgaj.bestOrder x g')) (ns.drop tk) with
          | none => rfl
          | some y => simp
        · rw [List.length_append]
          show done.length + 1 + _ = _
          omega
    · have ct : ¬ g'.turn = x := by omega
      have stop : duelZ x (t + 1) g' (ns.drop tk) = none → Q .non H' := fun e => q1 H' kvs' b' M' (by omega) (by rw [hdone, e]; rfl)
      refine ⟨_, rfl, _, rfl, ra, _, rfl, .inl (SqL.of hra'), _, _, rfl, rfl, _, rfl, itD (fun cl => ?_) (fun cl => ?_)⟩
      · have cl : tk < ns.length := by
          have : (tk : Int) < (((ns.map V.int).length : Nat) : Int) := cl
          rw [nelen] at this
          omega
        have hnk : ns[tk]? = some ns[tk] := List.getElem?_eq_getElem cl
        have hdr : ns.drop tk = ns[tk] :: ns.drop (tk + 1) := List.drop_eq_getElem_cons cl
        refine ⟨_, rfl, _, rfl, ra, _, _, _, rfl, rfl, SqL.of hra', at_map hnk, _, rfl, ga', g', rfl, hg', G', fun ol H2 s2 hol => ?_⟩
        rw [ordL_pos e0] at hol
        refine ⟨ol, _, rfl, .inl (SqL.of hol), rfl, flat_nat _, _, rfl, ?_⟩
        have ein : (if (false : Bool) = true then !inV (.int ns[tk]) (nV (Vbsgaj.orders g')) else inV (.int ns[tk]) (nV (Vbsgaj.orders g'))) = decide (0 ≤ ns[tk] ∧ ns[tk].toNat ∈ Vbsgaj.orders g') := by
          rw [if_neg Bool.false_ne_true, inV_nat]
        rw [ein]
        have b2 := b'.trans (s2.but (d := d))
        have M2 := M'.same s2
        refine itD (fun ci => ?_) (fun ci => ?_)
        · have hbm := mem_orders.mp ci.2
          have eo : ns[tk] = ((ns[tk].toNat : Nat) : Int) := by omega
          have hp2 := s2 _ _ hp'
          refine ⟨_, rfl, _, rfl, ra, _, _, _, rfl, rfl, SqL.of (s2 _ _ hra'), at_map hnk, _, rfl, _, _, rfl, rfl, ?_⟩
          refine ⟨_, rfl, .inl ⟨rfl, _, SqL.of hp2⟩, _, rfl, p, _, _, rfl, rfl, hp2, ?_, ?_⟩
          · rw [List.length_map]
            exact small1000 (by omega)
          · have im3 : Im T H2 (upd H2 p (.lst (nV done ++ [.int ns[tk]]))) := Im.updL hp2
            have M3 := M2.updL hp2 (L := nV done ++ [.int ns[tk]])
            refine ⟨_, rfl, _, rfl, ga', g', ns[tk].toNat, rfl, by rw [← eo], (s2.im.trans im3).ga hg', G', hbm, e0, fun p4 H4 s4 h4 => ?_⟩
            refine ⟨t, by omega, p4, Vbsgaj.played g' ns[tk].toNat, kvs', done ++ [ns[tk].toNat], tk + 1, some (.int ns[tk]), ?_, by rw [played_left]; omega, h4, G'.played hbm, by rw [played_shape]; exact hs', ?_, M3.same s4, ?_, ?_, ?_, cl, ?_⟩
            · show [_, _, _, _, _, some (V.int ((tk : Int) + 1)), _] = _
              rfl
            · intro c u hc nc
              refine s4 _ _ ?_
              rw [upd_ne (ne_of_none hc hp)]
              exact b2 _ _ hc nc
            · have := cost_child M'.memo G' hs' e0 hbm
              omega
            · rw [s4 _ _ upd_same]
              simp only [nV, List.map_append, List.map_cons, List.map_nil]
              rw [← eo]
            · rw [hdone, hdr]
              conv => lhs; unfold duelZ
              rw [if_neg ct]
              show Option.map _ (if 0 ≤ ns[tk] ∧ Vbsgaj.may g' ns[tk].toNat = true then _ else none) = _
              rw [if_pos ⟨ci.1, hbm⟩]
              cases duelZ x t (Vbsgaj.played g' ns[tk].toNat) (ns.drop (tk + 1)) with
              | none => rfl
              | some y => simp
            · rw [List.length_append]
              show done.length + 1 + _ = _
              omega
        · refine q1 H2 kvs' b2 M2 (by omega) ?_
          rw [hdone, hdr]
          unfold duelZ
          rw [if_neg ct]
          show Option.map _ (if 0 ≤ ns[tk] ∧ Vbsgaj.may g' ns[tk].toNat = true then _ else none) = _
          rw [if_neg (fun z => ci ⟨z.1, mem_orders.mpr z.2⟩)]
          rfl
      · refine stop ?_
        have cl : ns.length ≤ tk := by
          have : ¬ (tk : Int) < (((ns.map V.int).length : Nat) : Int) := cl
          rw [nelen] at this
          omega
        rw [List.drop_eq_nil_of_le cl]
        unfold duelZ
        rw [if_neg ct]
  · have e0 : g'.left = 0 := by have : ¬ (0 : Int) < (g'.left : Int) := c; omega
    have em : m = 0 := by omega
    subst em
    refine ⟨_, rfl, _, rfl, ra, _, rfl, .inl (SqL.of hra'), _, _, rfl, rfl, _, rfl, itD (fun cl => ?_) (fun cl => ?_)⟩
    · have cl : tk < ns.length := by
        have : (tk : Int) < (((ns.map V.int).length : Nat) : Int) := cl
        rw [nelen] at this
        omega
      refine q1 H' kvs' b' M' (by omega) ?_
      rw [hdone, List.drop_eq_getElem_cons cl]
      rfl
    · have cl : ns.length ≤ tk := by
        have : ¬ (tk : Int) < (((ns.map V.int).length : Nat) : Int) := cl
        rw [nelen] at this
        omega
      refine ⟨_, rfl, q2 p H' kvs' (done, g') b' M' (by omega) ?_ hp'⟩
      rw [hdone, List.drop_eq_nil_of_le cl]
      show some (done ++ [], g') = _
      rw [List.append_nil]
end
end ST
set_option Elab.async false
set_option linter.all false
set_option maxRecDepth 100000
namespace ST
open PySem PySem.Spec PyProof.Rows L2 NKey
theorem itB {c : Bool} {A B : Prop} (h1 : c = true → A) (h2 : c = false → B) : if c = true then A else B := by
  cases c
  · exact h2 rfl
  · exact h1 rfl
/-- over a tuple, the values are known -/
theorem lc_vals {K : PySem.W.Frag} {a : Addr} {xs : List V} {te : TE} {vs : List Nat} {j : Nat} {σ : L2.St} {H1 : Hp} {D : Addr} {Qd : Hp → Prop} (ys : List V) (ha : SqT K H1 a xs) (hy : ys.length = xs.length) (hz : xs.length ≤ 1000) (hD : H1 D = none)
    (hw : ∀ x, wipe ((wipe σ vs).set j (some x)) vs = wipe σ vs) (hs : ∀ (i : Nat) (x y : V) (H : Hp) (Q : VK), xs[i]? = some x → ys[i]? = some y → Same H1 H → Q y H → te ((wipe σ vs).set j (some x)) H Q) (hd : Qd (upd H1 D (.lst ys))) :
    ∃ W : Nat → Nat → Hp → Prop, (∃ m, W 0 m (upd H1 D (.lst []))) ∧ ∀ i m H, W i m H →
      ((Itt K a).stop i H ∧ Qd H) ∨ ((Itt K a).go i H ∧ ∃ Nx : Hp → Prop, (∀ H', Nx H' → ∃ m', m' < m ∧ W (i + 1) m' H') ∧ ∀ x H', (Itt K a).yld i H x H' → gName j x (wipe σ vs) H' fun σ2 H2 => wipe σ2 vs = wipe σ vs ∧ tYes σ2 H2 fun b H3 =>
        if b = true then te σ2 H3 fun y H4 => ∃ acc, H4 D = some (.lst acc) ∧ acc.length < sizeLine ∧ Nx (upd H4 D (.lst (acc ++ [y]))) else Nx H3) := by
  refine lc_tup (xs := xs) (fun i H => H = upd H1 D (.lst (ys.take i))) rfl (fun i H _ e => by rw [e]; exact (same_new hD _).sqT ha) (fun i x H hx e => ?_) (fun H e => by rw [e, ← hy, List.take_length]; exact hd)
  refine ⟨hw x, ?_⟩
  show te ((wipe σ vs).set j (some x)) H _
  have hi : i < ys.length := by rw [hy]; exact (List.getElem?_eq_some_iff.mp hx).1
  refine hs i x ys[i] H _ hx (List.getElem?_eq_getElem hi) (by rw [e]; exact same_new hD _) ⟨_, by rw [e]; exact upd_same, ?_, ?_⟩
  · rw [List.length_take]
    exact small1000 (by omega)
  · rw [e, upd_upd]
    congr 2
    rw [List.take_add_one, List.getElem?_eq_getElem hi]
    rfl
theorem wi_t {n lo hi : Int} (h : lo ≤ n) : Vbsgaj.within n lo hi = decide (n ≤ hi) := by
  unfold Vbsgaj.within
  apply decide_eq_decide.mpr
  exact ⟨fun z => z.2, fun z => ⟨h, z⟩⟩
theorem wi_f {n lo hi : Int} (h : ¬ lo ≤ n) : Vbsgaj.within n lo hi = false := decide_eq_false fun z => h z.1
theorem wi_lt {n lo : Int} {k : Nat} (h : lo ≤ n) : Vbsgaj.within n lo ((k : Int) - 1) = decide (n < (k : Int)) := by
  rw [wi_t h]
  apply decide_eq_decide.mpr
  omega
def upB (ns : List Int) : List Bool := (ns.zip (ns.drop 1)).map fun p => decide (p.1 < p.2)
theorem upB_all : ∀ ns : List Int, (upB ns).all id = Vbsgaj.rising ns
  | [] => rfl
  | [a] => rfl
  | a :: b :: r => by
    show (decide (a < b) && ((b :: r).zip r |>.map fun p => decide (p.1 < p.2)).all id) = (decide (a < b) && Vbsgaj.rising (b :: r))
    rw [← upB_all (b :: r)]
    rfl
theorem upB_len (ns : List Int) : (upB ns).length = (ns.drop 1).length := by
  unfold upB
  rw [List.length_map, List.length_zip, List.length_drop]
  omega
theorem upB_at {ns : List Int} {i : Nat} {x y : Int} (hx : ns[i]? = some x) (hy : (ns.drop 1)[i]? = some y) : (upB ns)[i]? = some (decide (x < y)) := by
  unfold upB
  rw [List.getElem?_map, List.getElem?_zip_eq_some.mpr (show ns[i]? = some (x, y).1 ∧ (ns.drop 1)[i]? = some (x, y).2 from ⟨hx, hy⟩)]
  rfl
def moneyFits (g : Vbsgaj.Game) : Bool := (decide (g.moneyA ≤ 1000000) && decide (g.moneyB ≤ 1000000)) && (g.companies.all (fun c => decide (c.pay ≤ 1000000)) && g.companies.all fun c => c.prices.all fun p => decide (p ≤ 1000000))
theorem moneyFits_eq {g : Vbsgaj.Game} {k : Int} (G : VG g) (hk : 1 ≤ k) : moneyFits (Vbsgaj.scaled k g) = Vbsgaj.scaleFits k g := by
  have h0 : 0 ≤ k := by omega
  unfold moneyFits Vbsgaj.scaleFits
  show ((decide (k * g.moneyA ≤ 1000000) && decide (k * g.moneyB ≤ 1000000)) && ((g.companies.map (Vbsgaj.scaleCompany k)).all _ && (g.companies.map (Vbsgaj.scaleCompany k)).all _)) = _
  have e1 : Vbsgaj.within (k * g.moneyA) 0 Vbsgaj.MONEY = decide (k * g.moneyA ≤ 1000000) := wi_t (Int.mul_nonneg h0 G.ma)
  have e2 : Vbsgaj.within (k * g.moneyB) 0 Vbsgaj.MONEY = decide (k * g.moneyB ≤ 1000000) := wi_t (Int.mul_nonneg h0 G.mb)
  rw [e1, e2, List.all_map, List.all_map, Bool.and_assoc]
  congr 2
  have co := G.co
  revert co
  generalize g.companies = l
  intro co
  induction l with
  | nil => rfl
  | cons c r ih =>
    have Gc := co c (List.mem_cons_self ..)
    have ih := ih fun d hd => co d (List.mem_cons_of_mem _ hd)
    rw [List.all_cons, List.all_cons, List.all_cons, ← ih]
    have e3 : Vbsgaj.within (k * c.pay) 0 Vbsgaj.MONEY = decide (k * c.pay ≤ 1000000) := wi_t (Int.mul_nonneg h0 Gc.py.1)
    have e4 : (c.prices.all fun p => Vbsgaj.within (k * p) 1 Vbsgaj.MONEY) = (c.prices.map fun p => k * p).all fun p => decide (p ≤ 1000000) := by
      rw [List.all_map]
      apply Bool.eq_iff_iff.mpr
      rw [List.all_eq_true, List.all_eq_true]
      have f : ∀ p ∈ c.prices, Vbsgaj.within (k * p) 1 Vbsgaj.MONEY = decide (k * p ≤ 1000000) := fun p hp => by
        have hp1 := (Gc.pr p hp).1
        have : 1 * 1 ≤ k * p := Int.mul_le_mul hk hp1 (by decide) h0
        exact wi_t (by omega)
      exact ⟨fun h p hp => by have := h p hp; rw [f p hp] at this; exact this, fun h p hp => by rw [f p hp]; exact h p hp⟩
    rw [e3, e4]
    show ((decide (k * c.pay ≤ 1000000) && _) && ((c.prices.map fun p => k * p).all (fun p => decide (p ≤ 1000000)) && _)) = _
    cases decide (k * c.pay ≤ 1000000) <;> cases (c.prices.map fun p => k * p).all (fun p => decide (p ≤ 1000000)) <;> simp
section
variable {P : Program} {w : World} {K : PySem.W.Frag} {mg : Str → Option Value} {base : Heap}
theorem sc_prices_fit : FnScope ["prices", "price", "low", "high"] ["prices"] (defScope s_prices_fit) := ⟨rfl, rfl, rfl, by decide +kernel, rfl, by decide +kernel, by decide +kernel⟩
def q_prices_fit (K : PySem.W.Frag) : V → Hp → VK → Prop := fun v H Q => ∃ (a : Addr) (ns : List Int), v = .ref a ∧ SqT K H a (ns.map V.int) ∧ ns.length ≤ 1000 ∧ ∀ H', Same H H' → Q (.bl (Vbsgaj.pricesFit ns)) H'
theorem c_prices_fit (T : Tx K mg) : Cal P w K mg base 1 "prices_fit" ["prices"] (sp1 (q_prices_fit K)) := by
  refine T.F_prices_fit.cal (k := 0) sc_prices_fit sp1_len fun f cdv A outer s H vs Q E hr h => ?_
  obtain ⟨_, rfl, a, ns, rfl, h, hl, q⟩ := h
  have nd := sc_prices_fit.nd
  refine ⟨_, pss_one (ps_ret (pe_and (pe_chain op_le op_le pe_int (pe_callB call_len_seq rfl T.b_len PySem.boot_len (pa_cons (pv 0) pa_nil)) (pe_gi T.i_MOST_PRICES))
    (pe_and (pe_callB (cr_all rfl) rfl T.b_all boot_all (pa_cons (pe_lc (own := [("price", 1)]) rfl nd (pi_tup (pv 0)) (blkOk_by rfl) (fun _ _ _ _ _ => pg_name (i := 1) nd rfl (Or.inl rfl)) (fun _ _ _ _ _ => pts_nil)
        (by intro _ _ _ _ _; exact pe_chain op_le op_le pe_int (pv 1) (pe_gi T.i_MOST_MONEY))) pa_nil))
    (pe_one (pe_callB (cr_all rfl) rfl T.b_all boot_all (pa_cons (pe_lc (own := [("low", 2), ("high", 3)]) rfl nd (pi_zipT rfl T.b_zip (pa_cons (pv 0) (pa_cons (pe_slice sl_tup (pv 0) (po_some pe_int) po_none) pa_nil))) (blkOk_by rfl)
        (g := gTup K 2 (gCons (gName 2) (gCons (gName 3) gNil))) (by intro _ _ _ _ _; exact pg_tup rfl (pgs_cons (pg_name (i := 2) nd rfl (Or.inl rfl)) (pgs_cons (pg_name (i := 3) nd rfl (Or.inl rfl)) pgs_nil))) (fun _ _ _ _ _ => pts_nil)
        (by intro _ _ _ _ _; exact pe_cmpR op_lt (pv 2) (pv 3) (nomark _))) pa_nil)))))), ?_⟩
  have nl : (ns.map V.int).length = ns.length := List.length_map _
  refine ⟨_, rfl, a, _, rfl, .inr h, _, _, rfl, rfl, _, rfl, ?_⟩
  rw [nl]
  have no : ¬ (1 ≤ ns.length ∧ ns.length ≤ 8) → Q (.bl false) H := fun z => by
    have := q H Same.rfl
    unfold Vbsgaj.pricesFit at this
    rw [decide_eq_false (show ¬ (1 ≤ ns.length ∧ ns.length ≤ Vbsgaj.PRICES) from z), Bool.false_and] at this
    exact this
  refine itD (fun c1 => ⟨_, _, rfl, rfl, _, rfl, itD (fun c2 => ?_) (fun c2 => no (by omega))⟩) (fun c1 => ⟨_, rfl, iteF (no (by omega))⟩)
  have yes : Vbsgaj.pricesFit ns = ((ns.all fun p => Vbsgaj.within p 1 Vbsgaj.MONEY) && Vbsgaj.rising ns) := by
    unfold Vbsgaj.pricesFit
    rw [decide_eq_true (show 1 ≤ ns.length ∧ ns.length ≤ Vbsgaj.PRICES from by constructor; omega; show ns.length ≤ 8; omega), Bool.true_and]
  rw [yes] at q
  refine ⟨_, rfl, a, rfl, ⟨_, h⟩, fun D hD => lc_vals ((ns.map fun n => Vbsgaj.within n 1 1000000).map V.bl) h (by simp) (by rw [nl]; exact hl) hD (fun _ => rfl) ?_ ?_⟩
  · intro i x y H1 Q1 hx hy s1 k
    obtain ⟨n, hn, rfl⟩ := int_of hx
    rw [List.getElem?_map, List.getElem?_map, hn] at hy
    have ey : V.bl (Vbsgaj.within n 1 1000000) = y := Option.some.inj hy
    rw [← ey] at k
    refine ⟨_, rfl, _, _, rfl, rfl, _, rfl, itD (fun c1 => ⟨_, _, rfl, rfl, ?_⟩) (fun c1 => ?_)⟩
    · rw [wi_t c1] at k; exact k
    · rw [wi_f c1] at k; exact k
  · refine ⟨D, _, rfl, SqL.of upd_same, _, rfl, ?_⟩
    have ea : ((ns.map fun n => Vbsgaj.within n 1 1000000).all id) = ns.all fun p => Vbsgaj.within p 1 Vbsgaj.MONEY := by rw [List.all_map]; rfl
    rw [ea]
    have sD : Same H (upd H D (.lst ((ns.map fun n => Vbsgaj.within n 1 1000000).map V.bl))) := same_new hD _
    refine itB (fun c3 => ?_) (fun c3 => ?_)
    · rw [c3, Bool.true_and] at q
      refine ⟨_, rfl, _, rfl, _, rfl, a, _, rfl, sD.sqT h, ?_, fun p hp => ?_⟩
      · rw [show (1 : Int) = ((1 : Nat) : Int) from rfl, HT.sIx_nat, nl]; omega
      have ecut : cutV (ns.map V.int) (some 1) none = (ns.drop 1).map V.int := by
        have := cut_from (xs := ns.map V.int) (k := 0) (by rw [nl]; omega)
        rw [show ((0 : Nat) : Int) + 1 = 1 from rfl] at this
        rw [this, List.map_drop]
      rw [ecut]
      have sP : Same _ (upd (upd H D (.lst ((ns.map fun n => Vbsgaj.within n 1 1000000).map V.bl))) p (.tup ((ns.drop 1).map V.int))) := same_new hp _
      have s2 := sD.trans sP
      refine ⟨a, p, _, _, rfl, s2.sqT h, SqT.of upd_same, fun D2 hD2 => lc_zipT (K := K) (xs := ns.map V.int) (ys := (ns.drop 1).map V.int) (by rw [List.length_map, List.length_map, List.length_drop]; omega)
        (fun i H' => Same H H' ∧ H' p = some (.tup ((ns.drop 1).map V.int)) ∧ H' D2 = some (.lst (((upB ns).take i).map V.bl))) ⟨s2.trans (same_new hD2 _), same_new hD2 _ _ _ upd_same, upd_same⟩ (fun i H' _ e => ⟨e.1.sqT h, SqT.of e.2.1⟩) ?_ ?_⟩
      · rintro i x y H' Tt hx hy hT ⟨e1, e2, e3⟩
        obtain ⟨n, hn, rfl⟩ := int_of hx
        obtain ⟨m, hm, rfl⟩ := int_of hy
        have hu := upB_at hn hm
        refine ⟨Tt, _, rfl, SqT.of upd_same, rfl, _, _, rfl, _, _, rfl, rfl, rfl, ?_⟩
        have e3' := same_new hT (.tup [.int n, .int m]) _ _ e3
        refine ⟨_, rfl, _, rfl, _, _, rfl, rfl, _, e3', ?_, ?_, ?_, ?_⟩
        · rw [List.length_map, List.length_take]
          have hil := (List.getElem?_eq_some_iff.mp hn).1
          exact small1000 (by omega)
        · intro b o hb
          rw [upd_ne (ne_of_none hb (s2.free hD2))]
          exact same_new hT _ _ _ (e1 _ _ hb)
        · have nep : p ≠ D2 := ne_of_none upd_same hD2
          rw [upd_ne nep]
          exact same_new hT _ _ _ e2
        · rw [upd_same, List.take_add_one, hu, List.map_append]
          all_goals rfl
      · rintro H' ⟨e1, e2, e3⟩
        refine ⟨D2, upB ns, rfl, SqL.of ?_, ?_⟩
        · rw [e3, List.length_map, ← upB_len, List.take_length]
        · have := q H' e1
          rw [upB_all]
          exact this
    · have := q _ sD
      rw [c3, Bool.false_and] at this
      exact this
theorem sc_company_fits : FnScope ["company", "held", "shares"] ["company"] (defScope s_company_fits) := ⟨rfl, rfl, rfl, by decide +kernel, rfl, by decide +kernel, by decide +kernel⟩
def q_company_fits (T : Tx K mg) : V → Hp → VK → Prop := fun v H Q => ∃ (a : Addr) (r : RC), v = .ref a ∧ CoR T H a r ∧ r.ps.length ≤ 1000 ∧ ∀ H', Same H H' → Q (.bl (Vbsgaj.companyFits r.pl r.py r.s0 r.s1 r.po r.ps)) H'
theorem c_company_fits (T : Tx K mg) : Cal P w K mg base 2 "company_fits" ["company"] (sp1 (q_company_fits T)) := by
  refine T.F_company_fits.cal (k := 1) sc_company_fits sp1_len fun f cdv A outer s H vs Q E hr h => ?_
  obtain ⟨_, rfl, a, r, rfl, h, hl, q⟩ := h
  have nd := sc_company_fits.nd
  refine ⟨_, pss_cons (ps_set (i := 1) nd rfl (Or.inl rfl) (pe_tup (pa_cons (pe_ix ix_tup (pe_fld (pv 0) rfl) pe_int (fun _ _ => rfl)) (pa_cons (pe_ix ix_tup (pe_fld (pv 0) rfl) pe_int (fun _ _ => rfl)) (pa_cons (pe_fld (pv 0) rfl) pa_nil)))))
    (pss_one (ps_ret (pe_and (pe_c1 (c_prices_fit T) hr (pe_fld (pv 0) rfl))
      (pe_and (pe_chain op_le op_lt pe_int (pe_fld (pv 0) rfl) (pe_callB call_len_seq rfl T.b_len PySem.boot_len (pa_cons (pe_fld (pv 0) rfl) pa_nil)))
      (pe_and (pe_chain op_le op_le pe_int (pe_fld (pv 0) rfl) (pe_gi T.i_MOST_MONEY))
      (pe_one (pe_callB (cr_all rfl) rfl T.b_all boot_all (pa_cons (pe_lc (own := [("shares", 2)]) rfl nd (pi_tup (pv 1)) (blkOk_by rfl) (fun _ _ _ _ _ => pg_name (i := 2) nd rfl (Or.inl rfl)) (fun _ _ _ _ _ => pts_nil)
        (by intro _ _ _ _ _; exact pe_chain op_le op_le pe_int (pv 2) (pe_gi T.i_MOST_SHARES))) pa_nil)))))))), ?_⟩
  have nl : (r.ps.map V.int).length = r.ps.length := List.length_map _
  refine ⟨_, rfl, rd_shares h fun b hb => ⟨b, _, _, _, rfl, rfl, hb, at0, _, rfl, rd_shares h fun b2 hb2 => ⟨b2, _, _, _, rfl, rfl, hb2, at1, _, rfl, rd_pool h ⟨szn 3 rfl, fun t ht => ?_⟩⟩⟩⟩
  have s1 : Same H (upd H t (.tup [.int r.s0, .int r.s1, .int r.po])) := same_new ht _
  have h1 := s1.im.coR h
  unfold Vbsgaj.companyFits at q
  refine ⟨_, rfl, rd_prices h1 fun pr hpr => ⟨pr, r.ps, rfl, hpr, hl, fun H2 s2 => ⟨_, rfl, itB (fun c1 => ?_) (fun c1 => ?_)⟩⟩⟩
  rotate_left
  · have := q H2 (s1.trans s2)
    rw [c1, Bool.false_and] at this
    exact this
  rw [c1, Bool.true_and] at q
  have h2 := s2.im.coR h1
  refine ⟨_, rfl, rd_place h2 ⟨_, _, rfl, rfl, _, rfl, ?_⟩⟩
  have stop : Vbsgaj.within r.pl 0 ((r.ps.length : Int) - 1) = false → Q (.bl false) H2 := fun z => by
    have := q H2 (s1.trans s2)
    rw [z, Bool.false_and] at this
    exact this
  refine itD (fun c2 => ⟨_, rfl, rd_prices h2 fun pr2 hpr2 => ⟨pr2, _, rfl, .inr hpr2, _, _, rfl, rfl, _, rfl, ?_⟩⟩) (fun c2 => ⟨_, rfl, iteF (stop (wi_f c2))⟩)
  rw [nl]
  refine itD (fun c3 => ?_) (fun c3 => stop (by rw [wi_lt c2]; exact decide_eq_false c3))
  have ok2 : Vbsgaj.within r.pl 0 ((r.ps.length : Int) - 1) = true := by rw [wi_lt c2]; exact decide_eq_true c3
  rw [ok2, Bool.true_and] at q
  have stop2 : Vbsgaj.within r.py 0 Vbsgaj.MONEY = false → Q (.bl false) H2 := fun z => by
    have := q H2 (s1.trans s2)
    rw [z, Bool.false_and] at this
    exact this
  refine ⟨_, rfl, rd_pay h2 ⟨_, _, rfl, rfl, _, rfl, itD (fun c4 => ⟨_, _, rfl, rfl, _, rfl, itD (fun c5 => ?_) (fun c5 => stop2 (by rw [wi_t c4]; exact decide_eq_false c5))⟩) (fun c4 => ⟨_, rfl, iteF (stop2 (wi_f c4))⟩)⟩⟩
  have ok3 : Vbsgaj.within r.py 0 Vbsgaj.MONEY = true := by rw [wi_t c4]; exact decide_eq_true c5
  rw [ok3, Bool.true_and] at q
  have ht2 : SqT K H2 t ([r.s0, r.s1, r.po].map V.int) := SqT.of (s2 _ _ upd_same)
  refine ⟨_, rfl, t, rfl, ⟨_, ht2⟩, fun D hD => lc_vals (([r.s0, r.s1, r.po].map fun n => Vbsgaj.within n 0 9).map V.bl) ht2 rfl (by show 3 ≤ 1000; decide) hD (fun _ => rfl) ?_ ?_⟩
  · intro i x y H1 Q1 hx hy s1 k
    obtain ⟨n, hn, rfl⟩ := int_of hx
    rw [List.getElem?_map, List.getElem?_map, hn] at hy
    have ey : V.bl (Vbsgaj.within n 0 9) = y := Option.some.inj hy
    rw [← ey] at k
    refine ⟨_, rfl, _, _, rfl, rfl, _, rfl, itD (fun c1 => ⟨_, _, rfl, rfl, ?_⟩) (fun c1 => ?_)⟩
    · rw [wi_t c1] at k; exact k
    · rw [wi_f c1] at k; exact k
  · refine ⟨D, _, rfl, SqL.of upd_same, ?_⟩
    have := q _ ((s1.trans s2).trans (same_new hD (.lst (([r.s0, r.s1, r.po].map fun n => Vbsgaj.within n 0 9).map V.bl))))
    have e : ([r.s0, r.s1, r.po].map fun n => Vbsgaj.within n 0 9).all id = (Vbsgaj.within r.s0 0 Vbsgaj.SHARES && (Vbsgaj.within r.s1 0 Vbsgaj.SHARES && Vbsgaj.within r.po 0 Vbsgaj.SHARES)) := by
      show (Vbsgaj.within r.s0 0 9 && (Vbsgaj.within r.s1 0 9 && (Vbsgaj.within r.po 0 9 && true))) = _
      rw [Bool.and_true]
      rfl
    rw [e]
    exact this
theorem sc_players_fit : FnScope ["game", "money"] ["game"] (defScope s_players_fit) := ⟨rfl, rfl, rfl, by decide +kernel, rfl, by decide +kernel, by decide +kernel⟩
def q_players_fit (T : Tx K mg) : V → Hp → VK → Prop := fun v H Q => ∃ (a : Addr) (m0 m1 tu le : Int) (cs : List Addr), v = .ref a ∧ GaR T H a m0 m1 tu le cs ∧
  ∀ H', Same H H' → Q (.bl (Vbsgaj.within m0 0 Vbsgaj.MONEY && (Vbsgaj.within m1 0 Vbsgaj.MONEY && (Vbsgaj.within tu 0 1 && Vbsgaj.within le 0 Vbsgaj.TURNS)))) H'
theorem in01 (n : Int) : inV (.int n) [.int 0, .int 1] = Vbsgaj.within n 0 1 := by
  unfold inV Vbsgaj.within
  show ((0 == n) || ((1 == n) || false)) = _
  rw [Bool.or_false]
  by_cases h0 : n = 0
  · subst h0; rfl
  · by_cases h1 : n = 1
    · subst h1; rfl
    · rw [beq_eq_false_iff_ne.mpr (fun z => h0 z.symm), beq_eq_false_iff_ne.mpr (fun z => h1 z.symm), decide_eq_false (by omega)]
      rfl
theorem in012 (n : Int) : inV (.int n) [.int 0, .int 1, .int 2] = Vbsgaj.within n 0 2 := by
  unfold inV Vbsgaj.within
  show ((0 == n) || ((1 == n) || ((2 == n) || false))) = _
  rw [Bool.or_false]
  by_cases h0 : n = 0
  · subst h0; rfl
  · by_cases h1 : n = 1
    · subst h1; rfl
    · by_cases h2 : n = 2
      · subst h2; rfl
      · rw [beq_eq_false_iff_ne.mpr (fun z => h0 z.symm), beq_eq_false_iff_ne.mpr (fun z => h1 z.symm), beq_eq_false_iff_ne.mpr (fun z => h2 z.symm), decide_eq_false (by omega)]
        rfl
theorem c_players_fit (T : Tx K mg) : Cal P w K mg base 1 "players_fit" ["game"] (sp1 (q_players_fit T)) := by
  refine T.F_players_fit.cal (k := 0) sc_players_fit sp1_len fun f cdv A outer s H vs Q E hr h => ?_
  obtain ⟨_, rfl, a, m0, m1, tu, le, cs, rfl, hg, q⟩ := h
  have nd := sc_players_fit.nd
  refine ⟨_, pss_one (ps_ret (pe_and (pe_callB (cr_all rfl) rfl T.b_all boot_all (pa_cons (pe_lc (own := [("money", 1)]) rfl nd (pi_tup (pe_fld (pv 0) rfl)) (blkOk_by rfl) (fun _ _ _ _ _ => pg_name (i := 1) nd rfl (Or.inl rfl)) (fun _ _ _ _ _ => pts_nil)
        (by intro _ _ _ _ _; exact pe_chain op_le op_le pe_int (pv 1) (pe_gi T.i_MOST_MONEY))) pa_nil))
    (pe_and (pe_cmpR op_in_seq (pe_fld (pv 0) rfl) (pe_gr T.m_PLAYERS) rfl)
    (pe_one (pe_chain op_le op_le pe_int (pe_fld (pv 0) rfl) (pe_gi T.i_MOST_TURNS)))))), ?_⟩
  refine ⟨_, rfl, rd_money hg fun b hb => ⟨b, rfl, ⟨_, hb⟩, fun D hD => lc_vals (xs := [m0, m1].map V.int) (([m0, m1].map fun n => Vbsgaj.within n 0 1000000).map V.bl) hb rfl (by show 2 ≤ 1000; decide) hD (fun _ => rfl) ?_ ?_⟩⟩
  · intro i x y H1 Q1 hx hy s1 k
    obtain ⟨n, hn, rfl⟩ := int_of hx
    rw [List.getElem?_map, List.getElem?_map, hn] at hy
    have ey : V.bl (Vbsgaj.within n 0 1000000) = y := Option.some.inj hy
    rw [← ey] at k
    refine ⟨_, rfl, _, _, rfl, rfl, _, rfl, itD (fun c1 => ⟨_, _, rfl, rfl, ?_⟩) (fun c1 => ?_)⟩
    · rw [wi_t c1] at k; exact k
    · rw [wi_f c1] at k; exact k
  · refine ⟨D, _, rfl, SqL.of upd_same, _, rfl, ?_⟩
    have sD := same_new hD (.lst (([m0, m1].map fun n => Vbsgaj.within n 0 1000000).map V.bl))
    have q := q _ sD
    rw [← Bool.and_assoc] at q
    have e : ([m0, m1].map fun n => Vbsgaj.within n 0 1000000).all id = (Vbsgaj.within m0 0 Vbsgaj.MONEY && Vbsgaj.within m1 0 Vbsgaj.MONEY) := by
      show (Vbsgaj.within m0 0 1000000 && (Vbsgaj.within m1 0 1000000 && true)) = _
      rw [Bool.and_true]
      rfl
    rw [e]
    have hg1 := sD.im.gaR hg
    refine itB (fun c1 => ?_) (fun c1 => ?_)
    rotate_left
    · rw [c1, Bool.false_and] at q
      exact q
    rw [c1, Bool.true_and] at q
    refine ⟨_, rfl, rd_turn hg1 ⟨T.aPLAYERS, _, rfl, .inr T.t_PLAYERS.sq, rfl, rfl, _, rfl, ?_⟩⟩
    have e2 : (if (false : Bool) = true then !inV (.int tu) [.int 0, .int 1] else inV (.int tu) [.int 0, .int 1]) = Vbsgaj.within tu 0 1 := by rw [if_neg Bool.false_ne_true, in01]
    rw [e2]
    refine itB (fun c2 => ?_) (fun c2 => ?_)
    rotate_left
    · rw [c2, Bool.false_and] at q
      exact q
    rw [c2, Bool.true_and] at q
    refine ⟨_, rfl, rd_left hg1 ⟨_, _, rfl, rfl, _, rfl, itD (fun c3 => ⟨_, _, rfl, rfl, ?_⟩) (fun c3 => ?_)⟩⟩
    · rw [wi_t c3] at q; exact q
    · rw [wi_f c3] at q; exact q
theorem sc_money_fits : FnScope ["game", "money", "company"] ["game"] (defScope s_money_fits) := ⟨rfl, rfl, rfl, by decide +kernel, rfl, by decide +kernel, by decide +kernel⟩
def q_money_fits (T : Tx K mg) : V → Hp → VK → Prop := fun v H Q => ∃ (a : Addr) (g : Vbsgaj.Game), v = .ref a ∧ Ga T H a g ∧ g.companies.length ≤ 3 ∧ (∀ c ∈ g.companies, 1 ≤ c.prices.length) ∧ ∀ H', Same H H' → Q (.bl (moneyFits g)) H'
theorem max_le {ns : List Int} {m : Int} (h1 : m ∈ ns) (h2 : ∀ y ∈ ns, y ≤ m) : decide (m ≤ 1000000) = ns.all fun p => decide (p ≤ 1000000) := by
  apply Bool.eq_iff_iff.mpr
  rw [decide_eq_true_eq, List.all_eq_true]
  exact ⟨fun h y hy => decide_eq_true (Int.le_trans (h2 y hy) h), fun h => of_decide_eq_true (h m h1)⟩
theorem c_money_fits (T : Tx K mg) : Cal P w K mg base 1 "money_fits" ["game"] (sp1 (q_money_fits T)) := by
  refine T.F_money_fits.cal (k := 0) sc_money_fits sp1_len fun f cdv A outer s H vs Q E hr h => ?_
  obtain ⟨_, rfl, a, g, rfl, ⟨cs, hg, hc⟩, hn, hpr, q⟩ := h
  have nd := sc_money_fits.nd
  refine ⟨_, pss_one (ps_ret (pe_and (pe_callB (cr_all rfl) rfl T.b_all boot_all (pa_cons (pe_lc (own := [("money", 1)]) rfl nd (pi_tup (pe_fld (pv 0) rfl)) (blkOk_by rfl) (fun _ _ _ _ _ => pg_name (i := 1) nd rfl (Or.inl rfl)) (fun _ _ _ _ _ => pts_nil)
        (by intro _ _ _ _ _; exact pe_cmpR op_le (pv 1) (pe_gi T.i_MOST_MONEY) (nomark _))) pa_nil))
    (pe_and (pe_callB (cr_all rfl) rfl T.b_all boot_all (pa_cons (pe_lc (own := [("company", 2)]) rfl nd (pi_tup (pe_fld (pv 0) rfl)) (blkOk_by rfl) (fun _ _ _ _ _ => pg_name (i := 2) nd rfl (Or.inl rfl)) (fun _ _ _ _ _ => pts_nil)
        (te := tOp (rI0 fun i j => .bl (decide (i ≤ j))) (tFld K (tVar 2) "pay") (tC (.int 1000000))) (by intro _ _ _ _ _; exact pe_cmpR op_le (pe_fld (pv 2) rfl) (pe_gi T.i_MOST_MONEY) (nomark _))) pa_nil))
    (pe_one (pe_callB (cr_all rfl) rfl T.b_all boot_all (pa_cons (pe_lc (own := [("company", 2)]) rfl nd (pi_tup (pe_fld (pv 0) rfl)) (blkOk_by rfl) (fun _ _ _ _ _ => pg_name (i := 2) nd rfl (Or.inl rfl)) (fun _ _ _ _ _ => pts_nil)
        (te := tOp (rI0 fun i j => .bl (decide (i ≤ j))) (tCB (rMaxT K) (tCons (tFld K (tVar 2) "prices") tNil)) (tC (.int 1000000))) (by intro _ _ _ _ _; exact pe_cmpR op_le (pe_callB (cr_maxT rfl) rfl T.b_max boot_max (pa_cons (pe_fld (pv 2) rfl) pa_nil)) (pe_gi T.i_MOST_MONEY) (nomark _))) pa_nil)))))), ?_⟩
  have hcl : (cs.map V.ref).length ≤ 1000 := by rw [List.length_map, hc.1]; omega
  unfold moneyFits at q
  refine ⟨_, rfl, rd_money hg fun b hb => ⟨b, rfl, ⟨_, hb⟩, fun D hD => lc_vals (xs := [g.moneyA, g.moneyB].map V.int) (([g.moneyA, g.moneyB].map fun n => decide (n ≤ 1000000)).map V.bl) hb rfl (by show 2 ≤ 1000; decide) hD (fun _ => rfl) ?_ ?_⟩⟩
  · intro i x y H1 Q1 hx hy s1 k
    obtain ⟨n, hn, rfl⟩ := int_of hx
    rw [List.getElem?_map, List.getElem?_map, hn] at hy
    have ey : V.bl (decide (n ≤ 1000000)) = y := Option.some.inj hy
    rw [← ey] at k
    exact ⟨_, rfl, _, _, rfl, rfl, k⟩
  refine ⟨D, _, rfl, SqL.of upd_same, _, rfl, ?_⟩
  have sD := same_new hD (.lst (([g.moneyA, g.moneyB].map fun n => decide (n ≤ 1000000)).map V.bl))
  have e : ([g.moneyA, g.moneyB].map fun n => decide (n ≤ 1000000)).all id = (decide (g.moneyA ≤ 1000000) && decide (g.moneyB ≤ 1000000)) := by
    show (decide (g.moneyA ≤ 1000000) && (decide (g.moneyB ≤ 1000000) && true)) = _
    rw [Bool.and_true]
  rw [e]
  refine itB (fun c1 => ?_) (fun c1 => ?_)
  rotate_left
  · have q := q _ sD
    rw [c1, Bool.false_and] at q
    exact q
  rw [c1, Bool.true_and] at q
  have hg1 := sD.im.gaR hg
  have hc1 := sD.im.cos hc
  refine ⟨_, rfl, rd_companies hg1 fun co hco => ⟨co, rfl, ⟨_, hco⟩, fun D2 hD2 => lc_vals ((g.companies.map fun c => decide (c.pay ≤ 1000000)).map V.bl) hco (by rw [List.length_map, List.length_map, List.length_map]; exact hc.1.symm) hcl hD2 (fun _ => rfl) ?_ ?_⟩⟩
  · intro i x y H1 Q1 hx hy s1 k
    obtain ⟨ca, hca, rfl⟩ := ref_of hx
    obtain ⟨c, hci, hco2⟩ := hc1.2 i ca hca
    rw [List.getElem?_map, List.getElem?_map, hci] at hy
    have ey : V.bl (decide (c.pay ≤ 1000000)) = y := Option.some.inj hy
    rw [← ey] at k
    exact ⟨_, rfl, rd_pay (s1.im.coR hco2) ⟨_, _, rfl, rfl, k⟩⟩
  refine ⟨D2, _, rfl, SqL.of upd_same, _, rfl, ?_⟩
  have sD2 := sD.trans (same_new hD2 (.lst ((g.companies.map fun c => decide (c.pay ≤ 1000000)).map V.bl)))
  have e2 : (g.companies.map fun c => decide (c.pay ≤ 1000000)).all id = g.companies.all fun c => decide (c.pay ≤ 1000000) := by rw [List.all_map]; rfl
  rw [e2]
  refine itB (fun c2 => ?_) (fun c2 => ?_)
  rotate_left
  · have q := q _ sD2
    rw [c2, Bool.false_and] at q
    exact q
  rw [c2, Bool.true_and] at q
  have hg2 := sD2.im.gaR hg
  have hc2 := sD2.im.cos hc
  refine ⟨_, rfl, rd_companies hg2 fun co2 hco2 => ⟨co2, rfl, ⟨_, hco2⟩, fun D3 hD3 => lc_vals ((g.companies.map fun c => c.prices.all fun p => decide (p ≤ 1000000)).map V.bl) hco2 (by rw [List.length_map, List.length_map, List.length_map]; exact hc.1.symm) hcl hD3 (fun _ => rfl) ?_ ?_⟩⟩
  · intro i x y H1 Q1 hx hy s1 k
    obtain ⟨ca, hca, rfl⟩ := ref_of hx
    obtain ⟨c, hci, hco3⟩ := hc2.2 i ca hca
    rw [List.getElem?_map, List.getElem?_map, hci] at hy
    have ey : V.bl (c.prices.all fun p => decide (p ≤ 1000000)) = y := Option.some.inj hy
    rw [← ey] at k
    refine ⟨_, rfl, rd_prices (s1.im.coR hco3) fun pr hpr' => ⟨pr, c.prices, rfl, hpr', hpr c (List.mem_of_getElem? hci), fun m h1 h2 => ⟨_, _, rfl, rfl, ?_⟩⟩⟩
    rw [← max_le h1 h2] at k
    exact k
  refine ⟨D3, _, rfl, SqL.of upd_same, ?_⟩
  have q := q _ (sD2.trans (same_new hD3 (.lst ((g.companies.map fun c => c.prices.all fun p => decide (p ≤ 1000000)).map V.bl))))
  rw [List.all_map]
  exact q
theorem sc_search_refusal : FnScope ["number_fits", "game"] ["number_fits", "game"] (defScope s_search_refusal) := ⟨rfl, rfl, rfl, by decide +kernel, rfl, by decide +kernel, by decide +kernel⟩
def refu (b : Bool) (g : Vbsgaj.Game) : List Int := if b = false then [-2] else if Vbsgaj.few g = false then [-7] else []
def q_search_refusal (T : Tx K mg) : V → V → Hp → VK → Prop := fun v u H Q => ∃ (b : Bool) (a : Addr) (g : Vbsgaj.Game), v = .bl b ∧ u = .ref a ∧ Ga T H a g ∧ VG g ∧ ∀ p H', Same H H' → H p = none → H' p = some (.lst ((refu b g).map V.int)) → Q (.ref p) H'
theorem c_search_refusal (T : Tx K mg) : Cal P w K mg base 2 "search_refusal" ["number_fits", "game"] (sp2 (q_search_refusal T)) := by
  refine T.F_search_refusal.cal (k := 1) sc_search_refusal sp2_len fun f cdv A outer s H vs Q E hr h => ?_
  obtain ⟨_, _, rfl, b, a, g, rfl, rfl, hg, G, q⟩ := h
  refine ⟨_, pss_cons (ps_if (pt_not (pt_val (pv 0))) (pss_one (ps_ret (pe_lst (pa_cons (pe_gi T.i_WRONG_NUMBER) pa_nil)))) pss_nil)
    (pss_cons (ps_if (pt_val (pe_c1 (c_too_many_positions T) hr (pv 1))) (pss_one (ps_ret (pe_lst (pa_cons (pe_gi T.i_TOO_MANY_POSITIONS) pa_nil)))) pss_nil)
    (pss_one (ps_ret (pe_lst pa_nil)))), ?_⟩
  unfold refu at q
  refine ⟨_, rfl, b, rfl, ?_⟩
  cases b with
  | false =>
    refine iteT ⟨szn 1 rfl, fun p hp => q p _ (same_new hp _) hp ?_⟩
    rw [upd_same, if_pos rfl]
    all_goals rfl
  | true =>
    refine iteF ⟨_, rfl, a, g, rfl, hg, G, _, rfl, ?_⟩
    cases hf : Vbsgaj.few g with
    | false =>
      refine iteT ⟨szn 1 rfl, fun p hp => q p _ (same_new hp _) hp ?_⟩
      rw [upd_same, if_neg (by decide), if_pos hf]
      all_goals rfl
    | true =>
      refine iteF ⟨szn 0 rfl, fun p hp => q p _ (same_new hp _) hp ?_⟩
      rw [upd_same, if_neg (by decide), if_neg (by rw [hf]; decide)]
      all_goals rfl
theorem sc_both_worths : FnScope ["game", "player"] ["game"] (defScope s_both_worths) := ⟨rfl, rfl, rfl, by decide +kernel, rfl, by decide +kernel, by decide +kernel⟩
def q_both_worths (T : Tx K mg) : V → Hp → VK → Prop := fun v H Q => ∃ (a : Addr) (g : Vbsgaj.Game), v = .ref a ∧ Ga T H a g ∧ VG g ∧ ∀ p H', Same H H' → H p = none → H' p = some (.lst ([Vbsgaj.worth 0 g, Vbsgaj.worth 1 g].map V.int)) → Q (.ref p) H'
theorem c_both_worths (T : Tx K mg) : Cal P w K mg base 3 "both_worths" ["game"] (sp1 (q_both_worths T)) := by
  refine T.F_both_worths.cal (k := 2) sc_both_worths sp1_len fun f cdv A outer s H vs Q E hr h => ?_
  obtain ⟨_, rfl, a, g, rfl, hg, G, q⟩ := h
  have nd := sc_both_worths.nd
  refine ⟨_, pss_one (ps_ret (pe_lc (own := [("player", 1)]) rfl nd (pi_tup (pe_gr T.m_PLAYERS)) (blkOk_by rfl) (fun _ _ _ _ _ => pg_name (i := 1) nd rfl (Or.inl rfl)) (fun _ _ _ _ _ => pts_nil)
        (by intro _ _ _ _ _; exact pe_c2 (c_worth_of T) hr (pv 0) (pv 1)))), ?_⟩
  refine ⟨T.aPLAYERS, rfl, ⟨_, T.t_PLAYERS.sq⟩, fun D hD => lc_vals ([Vbsgaj.worth 0 g, Vbsgaj.worth 1 g].map V.int) T.t_PLAYERS.sq rfl (by show 2 ≤ 1000; decide) hD (fun _ => rfl) ?_ (q D _ (same_new hD _) hD upd_same)⟩
  intro i x y H1 Q1 hx hy s1 k
  match i, hx, hy with
  | 0, hx, hy =>
    have ex : V.int 0 = x := Option.some.inj hx
    have ey : V.int (Vbsgaj.worth 0 g) = y := Option.some.inj hy
    subst ex ey
    exact ⟨_, rfl, _, rfl, a, g, 0, rfl, rfl, .inl rfl, s1.im.ga hg, G, k⟩
  | 1, hx, hy =>
    have ex : V.int 1 = x := Option.some.inj hx
    have ey : V.int (Vbsgaj.worth 1 g) = y := Option.some.inj hy
    subst ex ey
    exact ⟨_, rfl, _, rfl, a, g, 1, rfl, rfl, .inr rfl, s1.im.ga hg, G, k⟩
  | i + 2, hx, hy => simp at hx
theorem sc_line_told : FnScope ["game", "given"] ["game", "given"] (defScope s_line_told) := ⟨rfl, rfl, rfl, by decide +kernel, rfl, by decide +kernel, by decide +kernel⟩
def q_line_told (T : Tx K mg) : V → V → Hp → VK → Prop := fun v u H Q => ∃ (a b : Addr) (g : Vbsgaj.Game) (os : List Nat), v = .ref a ∧ u = .ref b ∧ Ga T H a g ∧ VG g ∧ H b = some (.lst (nV os)) ∧ okLine g os ∧ os.length ≤ 8 ∧
  ∀ p H', Same H H' → H p = none → H' p = some (.lst ((Vbsgaj.counted Vbsgaj.one os ++ [Vbsgaj.worth 0 (os.foldl Vbsgaj.played g), Vbsgaj.worth 1 (os.foldl Vbsgaj.played g)]).map V.int)) → Q (.ref p) H'
theorem counted_one (os : List Nat) : (Vbsgaj.counted Vbsgaj.one os).map V.int = V.int (os.length : Int) :: nV os := by
  unfold Vbsgaj.counted
  rw [List.map_cons]
  congr 1
  induction os with
  | nil => rfl
  | cons o r ih =>
    show V.int (o : Int) :: (r.flatMap Vbsgaj.one).map V.int = V.int (o : Int) :: nV r
    rw [ih]
theorem c_line_told (T : Tx K mg) : Cal P w K mg base 8 "line_told" ["game", "given"] (sp2 (q_line_told T)) := by
  refine T.F_line_told.cal (k := 7) sc_line_told sp2_len fun f cdv A outer s H vs Q E hr h => ?_
  obtain ⟨_, _, rfl, a, b, g, os, rfl, rfl, hg, G, hb, hk, hl, q⟩ := h
  refine ⟨_, pss_one (ps_ret (pe_op op_cat (pe_op op_cat (pe_lst (pa_cons (pe_callB call_len_seq rfl T.b_len PySem.boot_len (pa_cons (pv 1) pa_nil)) pa_nil)) (pv 1)) (pe_c1 (c_both_worths T) (hr.mono (by decide)) (pe_c2 (c_game_at_end T) hr (pv 0) (pv 1))))), ?_⟩
  have nl : (nV os).length = os.length := List.length_map _
  refine ⟨_, rfl, b, _, rfl, .inl (SqL.of hb), szn 1 rfl, fun l hl1 => ⟨_, rfl, l, b, _, _, rfl, rfl, upd_same, same_new hl1 _ _ _ hb, ?_, fun m hm => ?_⟩⟩
  · rw [nl]
    exact sz (by simp; omega)
  have s1 := (same_new hl1 (.lst [.int ((nV os).length : Nat)])).trans (same_new hm (.lst ([.int ((nV os).length : Nat)] ++ nV os)))
  refine ⟨_, rfl, _, rfl, a, b, g, os, rfl, rfl, s1.im.ga hg, G, s1 _ _ hb, hk, fun p2 H2 s2 h2 G2 => ?_⟩
  refine ⟨p2, _, rfl, h2, G2, fun p3 H3 s3 _ h3 => ?_⟩
  refine ⟨m, p3, _, _, rfl, rfl, s3 _ _ (s2 _ _ upd_same), h3, ?_, fun p4 hp4 => q p4 _ (s1.trans (s2.trans (s3.trans (same_new hp4 _)))) ((s1.trans (s2.trans s3)).free hp4) ?_⟩
  · rw [List.length_append, nl]
    exact sz (by simp; omega)
  · rw [upd_same, List.map_append, counted_one, nl]
    all_goals rfl
end
end ST
set_option Elab.async false
set_option linter.all false
set_option maxRecDepth 100000
namespace ST
open PySem PySem.Spec PyProof.Rows L2 NKey
section
variable {K : PySem.W.Frag} {mg : Str → Option Value}
structure DeskR (T : Tx K mg) (H : Hp) (da pa ga sl : Addr) (pas : List Addr) (s d : Nat → Addr) (kv : Nat → KN) (st : Vbsgaj.State) (n : Nat) : Prop where
  ins : ∃ dx, H da = some (.ins T.CD dx (deF (.ref ga) (.ref pa) (.ref sl)))
  game : Ga T H ga st.game
  ok : VG st.game
  plst : H pa = some (.lst (pas.map V.ref))
  plen : pas.length = st.past.length
  pat : ∀ (i : Nat) (a : Addr), pas.reverse[i]? = some a → ∃ g, st.past[i]? = some g ∧ Ga T H a g
  pok : ∀ g ∈ st.past, VG g ∧ shape g = shape st.game
  psz : pas.length ≤ n
  slst : H sl = some (.lst [.ref (s 0), .ref (s 1), .ref (s 2)])
  slpa : sl ≠ pa
  memo : ∀ j, j < 3 → MemoAt T H (s j) j (d j) (shape st.game) (kv j)
  size : ∀ j, j < 3 → (kv j).length ≤ 25000 * n
  apart : ∀ i j, i < 3 → j < 3 → i ≠ j → d i ≠ d j
def DeskAt (T : Tx K mg) (H : Hp) (da : Addr) (st : Vbsgaj.State) (pa : Addr) (n : Nat) : Prop := ∃ ga sl pas s d kv, DeskR T H da pa ga sl pas s d kv st n
/-- what a call leaves as it was -/
structure Kept (pa pa' : Addr) (H H' : Hp) : Prop where
  lst : ∀ w xs, H w = some (.lst xs) → w ≠ pa → H' w = some (.lst xs) ∧ w ≠ pa'
  frz : ∀ w o u, H w = some (.frz o u) → H' w = some (.frz o u)
/-- p is none of the lists that stand -/
def Fr (pa : Addr) (H : Hp) (p : Addr) : Prop := ∀ w xs, H w = some (.lst xs) → w ≠ pa → w ≠ p
theorem Kept.fr {pa pa' p : Addr} {H Hx : Hp} (k : Kept pa pa' H Hx) (hp : Hx p = none) : Fr pa H p := fun w xs h n => ne_of_none (k.lst w xs h n).1 hp
theorem Fr.new {pa p : Addr} {H : Hp} (hp : H p = none) : Fr pa H p := fun w xs h _ => ne_of_none h hp
theorem Kept.trans {a b c : Addr} {H H1 H2 : Hp} (h : Kept a b H H1) (k : Kept b c H1 H2) : Kept a c H H2 :=
  ⟨fun w xs hw n => let ⟨h1, h2⟩ := h.lst w xs hw n; k.lst w xs h1 h2, fun w o u hw => k.frz w o u (h.frz w o u hw)⟩
theorem _root_.L2.Same.kept {a : Addr} {H H1 : Hp} (s : Same H H1) : Kept a a H H1 := ⟨fun w xs h n => ⟨s _ _ h, n⟩, fun w o u h => s _ _ h⟩
theorem But.kept {a d : Addr} {H H1 : Hp} {kvs : KN} (b : But d H H1) (hd : H d = some (DN d kvs)) : Kept a a H H1 :=
  ⟨fun w xs h n => ⟨b _ _ h (ne_of h hd (by intro z; cases z)), n⟩, fun w o u h => b _ _ h (ne_of h hd (by intro z; cases z))⟩
variable {T : Tx K mg} {H H' : Hp} {da pa ga sl : Addr} {pas : List Addr} {s d : Nat → Addr} {kv : Nat → KN} {st : Vbsgaj.State} {n : Nat}
theorem DeskR.same (R : DeskR T H da pa ga sl pas s d kv st n) (e : Same H H') : DeskR T H' da pa ga sl pas s d kv st n := by
  obtain ⟨dx, h⟩ := R.ins
  exact ⟨⟨dx, e _ _ h⟩, e.im.ga R.game, R.ok, e _ _ R.plst, R.plen, fun i a h => let ⟨g, h1, h2⟩ := R.pat i a h; ⟨g, h1, e.im.ga h2⟩, R.pok, R.psz, e _ _ R.slst, R.slpa, fun j hj => (R.memo j hj).same e, R.size, R.apart⟩
theorem DeskR.later (R : DeskR T H da pa ga sl pas s d kv st n) : DeskR T H da pa ga sl pas s d kv st (n + 1) :=
  ⟨R.ins, R.game, R.ok, R.plst, R.plen, R.pat, R.pok, by have := R.psz; omega, R.slst, R.slpa, R.memo, fun j hj => by have := R.size j hj; omega, R.apart⟩
theorem DeskR.at (R : DeskR T H da pa ga sl pas s d kv st n) : DeskAt T H da st pa n := ⟨_, _, _, _, _, _, R⟩
/-- one search has learnt -/
theorem DeskR.but (R : DeskR T H da pa ga sl pas s d kv st n) {k : Nat} {kvs : KN} (hk : k < 3) (b : But (d k) H H') (M : MemoAt T H' (s k) k (d k) (shape st.game) kvs) (hl : kvs.length ≤ 25000 * (n + 1)) :
    DeskR T H' da pa ga sl pas s d (fun j => if j = k then kvs else kv j) st (n + 1) := by
  obtain ⟨dx, h⟩ := R.ins
  have hd := (R.memo k hk).dic
  have im : Im T H H' := b.im hd
  refine ⟨⟨dx, b _ _ h (ne_of h hd (by intro z; cases z))⟩, im.ga R.game, R.ok, b _ _ R.plst (ne_of R.plst hd (by intro z; cases z)), R.plen, fun i a h => let ⟨g, h1, h2⟩ := R.pat i a h; ⟨g, h1, im.ga h2⟩, R.pok, by have := R.psz; omega,
    b _ _ R.slst (ne_of R.slst hd (by intro z; cases z)), R.slpa, fun j hj => ?_, fun j hj => ?_, R.apart⟩
  · by_cases e : j = k
    · subst e
      simp only [if_pos rfl]
      exact M
    · simp only [if_neg e]
      obtain ⟨⟨dx2, hi⟩, hd2, hk2, m⟩ := R.memo j hj
      exact ⟨⟨dx2, b _ _ hi (ne_of hi hd (by intro z; cases z))⟩, b _ _ hd2 (R.apart j k hj hk e), im.keys hk2, m⟩
  · by_cases e : j = k
    · simp only [if_pos e]; exact hl
    · simp only [if_neg e]; have := R.size j hj; omega
theorem rd_game {Q : V → Prop} (R : DeskR T H da pa ga sl pas s d kv st n) (q : Q (.ref ga)) : RdF K H da "game" Q := by
  obtain ⟨dx, h⟩ := R.ins
  exact ⟨da, T.CD, dx, _, _, rfl, h, T.clCD, T.n_game, lk_game _ _ _, q⟩
theorem rd_past {Q : V → Prop} (R : DeskR T H da pa ga sl pas s d kv st n) (q : Q (.ref pa)) : RdF K H da "past" Q := by
  obtain ⟨dx, h⟩ := R.ins
  exact ⟨da, T.CD, dx, _, _, rfl, h, T.clCD, T.n_past, lk_past _ _ _, q⟩
theorem rd_searches {Q : V → Prop} (R : DeskR T H da pa ga sl pas s d kv st n) (q : Q (.ref sl)) : RdF K H da "searches" Q := by
  obtain ⟨dx, h⟩ := R.ins
  exact ⟨da, T.CD, dx, _, _, rfl, h, T.clCD, T.n_searches, lk_searches _ _ _, q⟩
theorem at_three {s : Nat → Addr} {k : Nat} (h : k < 3) : atI [V.ref (s 0), V.ref (s 1), V.ref (s 2)] (k : Int) = some (.ref (s k)) := by
  match k, h with
  | 0, _ => rfl
  | 1, _ => rfl
  | 2, _ => rfl
end
section
variable {P : Program} {w : World} {K : PySem.W.Frag} {mg : Str → Option Value} {base : Heap}
theorem sc_begin_with : FnScope ["self", "game", "goal"] ["self", "game"] (defScope s_begin_with) := ⟨rfl, rfl, rfl, by decide +kernel, rfl, by decide +kernel, by decide +kernel⟩
def q_begin_with (T : Tx K mg) : V → V → Hp → VK → Prop := fun v u H Q => ∃ (da ga dx : Addr) (fs : List (Str × V)) (g : Vbsgaj.Game), v = .ref da ∧ u = .ref ga ∧ H da = some (.ins T.CD dx fs) ∧ (fs = [] ∨ ∃ x y z, fs = deF x y z) ∧ Ga T H ga g ∧ VG g ∧
  ∀ H' pa, (∀ b o, H b = some o → b ≠ da → H' b = some o) → H pa = none → (∀ n, DeskAt T H' da ⟨g, []⟩ pa n) → Q .non H'
theorem im_ins {T : Tx K mg} {H : Hp} {da dx : Addr} {fs : List (Str × V)} (h : H da = some (.ins T.CD dx fs)) (o : HO) : Im T H (upd H da o) := fun b u su e => by
  rw [upd_ne (ne_of e h (by intro z; subst z; exact su rfl))]
  exact e
theorem c_begin_with (T : Tx K mg) : MCal P w K mg base T.CD 3 "begin_with" ["self", "game"] (sp2 (q_begin_with T)) := by
  refine T.F_begin_with.cal (k := 2) sc_begin_with sp2_len fun f cdv A outer s H vs Q E hr h => ?_
  obtain ⟨_, _, rfl, da, ga, dx, fs, g, rfl, rfl, hda, hfs, hg, G, q⟩ := h
  have nd := sc_begin_with.nd
  refine ⟨_, pss_cons (ps_fld (pv 0) (pv 1) rfl) (pss_cons (ps_fld (pv 0) (pe_lst pa_nil) rfl)
    (pss_one (ps_fld (pv 0) (pe_lc (own := [("goal", 2)]) rfl nd (pi_tup (pe_gr T.m_GOALS)) (blkOk_by rfl) (fun _ _ _ _ _ => pg_name (i := 2) nd rfl (Or.inl rfl)) (fun _ _ _ _ _ => pts_nil)
        (te := tMk (RSe T) (tCons (tVar 2) tNil)) (by intro _ _ _ _ _; exact pe_mk (mk_search T) hr (pa_cons (pv 2) pa_nil))) rfl))), ?_⟩
  have l1 : fs.length < 1000 := by
    rcases hfs with e | ⟨x, y, z, e⟩
    · subst e; decide
    · subst e; show 3 < 1000; decide
  have l2 : (putF "game" (.ref ga) fs).length < 1000 := by have := length_putF "game" (.ref ga) fs; rcases hfs with e | ⟨x, y, z, e⟩ <;> subst e <;> (simp at this; omega)
  have l3 : ∀ p : Addr, (putF "past" (.ref p) (putF "game" (.ref ga) fs)).length < 1000 := fun p => by
    have h1 := length_putF "game" (.ref ga) fs
    have h2 := length_putF "past" (.ref p) (putF "game" (.ref ga) fs)
    rcases hfs with e | ⟨x, y, z, e⟩ <;> subst e <;> (simp at h1; omega)
  refine ⟨_, rfl, _, rfl, da, T.CD, dx, fs, rfl, hda, T.clCD, T.n_game, l1, ?_⟩
  refine ⟨szn 0 rfl, fun pa hpa => ?_⟩
  have npa : pa ≠ da := fun z => by rw [z, upd_same] at hpa; cases hpa
  have hpa0 : H pa = none := by rw [upd_ne npa] at hpa; exact hpa
  refine ⟨_, rfl, da, T.CD, dx, _, rfl, (by rw [upd_ne npa.symm]; exact upd_same), T.clCD, T.n_past, l2, ?_⟩
  -- the heap ahead of the searches
  generalize hH1 : upd (upd (upd H da (.ins T.CD dx (putF "game" (.ref ga) fs))) pa (.lst [])) da (.ins T.CD dx (putF "past" (.ref pa) (putF "game" (.ref ga) fs))) = H1
  have h1da : H1 da = some (.ins T.CD dx (putF "past" (.ref pa) (putF "game" (.ref ga) fs))) := by rw [← hH1]; exact upd_same
  have h1pa : H1 pa = some (.lst []) := by rw [← hH1, upd_ne npa]; exact upd_same
  have h1o : ∀ b o, H b = some o → b ≠ da → H1 b = some o := fun b o hb nb => by
    rw [← hH1, upd_ne nb, upd_ne (ne_of_none hb hpa0), upd_ne nb]; exact hb
  have im1 : Im T H H1 := fun b o so hb => h1o b o hb (ne_of hb hda (by intro z; subst z; exact so rfl))
  refine ⟨T.aGOALS, rfl, ⟨_, T.t_GOALS.sq⟩, fun D hD => lc_tup (K := K) (xs := [.int 0, .int 1, .int 2]) (fun i H' => i ≤ 3 ∧ Same H1 H' ∧ ∃ (s d : Nat → Addr), H' D = some (.lst ((List.range i).map fun j => .ref (s j))) ∧ (∀ j, j < i → MemoAt T H' (s j) j (d j) (shape g) []) ∧ ∀ j k, j < i → k < i → j ≠ k → d j ≠ d k)
    ⟨by decide, same_new hD _, fun _ => 0, fun _ => 0, upd_same, fun j hj => absurd hj (Nat.not_lt_zero _), fun j k hj => absurd hj (Nat.not_lt_zero _)⟩ (fun i H' _ _ => T.t_GOALS.sq) ?_ ?_⟩
  · rintro i x H' hx ⟨hi, s1, sf, df, hD1, hM, hap⟩
    have hi3 : i < 3 := (List.getElem?_eq_some_iff.mp hx).1
    have ex : x = .int (i : Nat) := by
      match i, hi3, hx with
      | 0, _, hx => exact (Option.some.inj hx).symm
      | 1, _, hx => exact (Option.some.inj hx).symm
      | 2, _, hx => exact (Option.some.inj hx).symm
    subst ex
    refine ⟨rfl, ?_⟩
    show tMk (RSe T) (tCons (tVar 2) tNil) _ H' _
    refine ⟨_, rfl, _, rfl, fun p dx2 dd H2 s2 hp0 hd0 npd hp hd => ?_⟩
    refine ⟨_, s2 _ _ hD1, ?_, hi3, ?_, fun j => if j = i then p else sf j, fun j => if j = i then dd else df j, ?_, fun j hj => ?_, fun j k hj hk njk => ?_⟩
    · rw [List.length_map, List.length_range]
      exact small1000 (by omega)
    · intro b o hb
      rw [upd_ne (ne_of_none hb hD)]
      exact s2 _ _ (s1 _ _ hb)
    · rw [upd_same, List.range_succ, List.map_append]
      congr 3
      · refine List.map_congr_left fun j hj => ?_
        have : j ≠ i := by have := List.mem_range.mp hj; omega
        show V.ref (sf j) = V.ref (if j = i then p else sf j)
        rw [if_neg this]
      · show [V.ref p] = [V.ref (if i = i then p else sf i)]
        rw [if_pos rfl]
    · by_cases e : j = i
      · subst e
        simp only [if_pos rfl]
        have M : MemoAt T H2 p j dd (shape g) [] := ⟨⟨dx2, hp⟩, hd, (fun p hp => nomatch hp), Memo.nil _ _⟩
        exact M.updL (s2 _ _ hD1)
      · simp only [if_neg e]
        exact ((hM j (by omega)).same s2).updL (s2 _ _ hD1)
    · have nn : ∀ m, m < i → df m ≠ dd := fun m hm => ne_of_none (hM m hm).dic hd0
      by_cases e1 : j = i
      · have e2 : k ≠ i := fun z => njk (e1.trans z.symm)
        simp only [if_pos e1, if_neg e2]
        exact (nn k (by omega)).symm
      · by_cases e2 : k = i
        · simp only [if_neg e1, if_pos e2]
          exact nn j (by omega)
        · simp only [if_neg e1, if_neg e2]
          exact hap j k (by omega) (by omega) njk
  · rintro H' ⟨_, s1, sf, df, hD1, hM, hap⟩
    refine ⟨_, rfl, da, T.CD, dx, _, rfl, s1 _ _ h1da, T.clCD, T.n_searches, l3 pa, ?_⟩
    have efs : putF "searches" (.ref D) (putF "past" (.ref pa) (putF "game" (.ref ga) fs)) = deF (.ref ga) (.ref pa) (.ref D) := by
      rcases hfs with e | ⟨x, y, z, e⟩ <;> subst e <;> rfl
    have hda' := s1 _ _ h1da
    have im2 : Im T H' (upd H' da (.ins T.CD dx (deF (.ref ga) (.ref pa) (.ref D)))) := im_ins hda' _
    have keep : ∀ b o, H' b = some o → b ≠ da → upd H' da (.ins T.CD dx (deF (.ref ga) (.ref pa) (.ref D))) b = some o := fun b o hb nb => by rw [upd_ne nb]; exact hb
    show Q .non (upd H' da (.ins T.CD dx (putF "searches" (.ref D) (putF "past" (.ref pa) (putF "game" (.ref ga) fs)))))
    rw [efs]
    have nl : ∀ (b : Addr) (xs : List V), H' b = some (.lst xs) → b ≠ da := fun b xs hb => ne_of hb hda' (by intro z; cases z)
    refine q _ pa (fun b o hb nb => keep b o (s1 _ _ (h1o b o hb nb)) nb) hpa0 fun n => ⟨ga, D, [], sf, df, fun _ => [], ⟨dx, upd_same⟩, (im1.trans (s1.im.trans im2)).ga hg, G, keep _ _ (s1 _ _ h1pa) npa, rfl, (fun i a h => by simp at h), (fun g h => nomatch h), Nat.zero_le _,
      keep _ _ hD1 (nl _ _ hD1), ?_, fun j hj => ?_, fun j hj => Nat.zero_le _, hap⟩
    · exact (ne_of_none h1pa hD).symm
    · obtain ⟨⟨dx2, hi⟩, hd2, hk2, m⟩ := hM j hj
      refine ⟨⟨dx2, keep _ _ hi (ne_of hi hda' (fun z => T.neS (HO.ins.inj z).1))⟩, keep _ _ hd2 (ne_of hd2 hda' (by intro z; cases z)), im2.keys hk2, m⟩
theorem sc_initCD : FnScope ["self"] ["self"] (defScope s_initCD) := ⟨rfl, rfl, rfl, by decide +kernel, rfl, by decide +kernel, by decide +kernel⟩
def RDe (T : Tx K mg) : List V → Hp → VK → Prop := fun vs H Q => vs = [] ∧ ∀ p pa H', Same H H' → H pa = none → (∀ n, DeskAt T H' p Vbsgaj.start pa n) → Q (.ref p) H'
def spDe (T : Tx K mg) : Sp := fun vs H Q _ => ∃ (p dx : Addr), vs = [.ref p] ∧ H p = some (.ins T.CD dx []) ∧ ∀ H' pa, (∀ b o, H b = some o → b ≠ p → H' b = some o) → H pa = none → (∀ n, DeskAt T H' p Vbsgaj.start pa n) → Q .non H'
theorem vg_begun : VG Vbsgaj.begun := ⟨by decide, by decide, .inl rfl, by decide, by decide, fun c hc => nomatch hc⟩
theorem mk_desk (T : Tx K mg) : Mak P w K mg base 4 "Desk" (RDe T) := by
  refine T.F_initCD.mak (k := 3) (sp := spDe T) T.k_Desk sc_initCD (fun vs H Q E h => by obtain ⟨p, dx, rfl, _⟩ := h; rfl) ?_ ?_
  · rintro vs H Q ⟨rfl, q⟩ y dx ny nd ne
    refine ⟨y, dx, rfl, upd_same, fun H' pa kp hpa hD => ⟨rfl, q y pa H' (fun b o hb => kp b o (same_made ny nd _ _ _ _ hb) (ne_of_none hb ny)) ?_ hD⟩⟩
    exact (same_made ny nd _ _).free hpa
  · rintro f cdv A outer s H vs Q E hr ⟨p, dx, rfl, hp, q⟩
    refine ⟨_, pss_one (ps_expr (pe_m2 (c_begin_with T) hr T.clCD (pv 0) (pe_c0 (c_first_game T) hr))), ?_⟩
    refine ⟨_, rfl, p, dx, [], rfl, hp, rfl, fun ga H1 s1 hg => ?_⟩
    refine ⟨p, ga, dx, [], Vbsgaj.begun, rfl, rfl, s1 _ _ hp, .inl rfl, hg, vg_begun, fun H' pa kp hpa hD => ?_⟩
    exact q H' pa (fun b o hb nb => kp b o (s1 _ _ hb) nb) (s1.free hpa) hD
end
end ST
set_option Elab.async false
set_option linter.all false
set_option maxRecDepth 100000
namespace ST
open PySem PySem.Spec PyProof.Rows L2 NKey
section
variable {K : PySem.W.Frag} {mg : Str → Option Value}
def Done (T : Tx K mg) (H : Hp) (da : Addr) (st : Vbsgaj.State) (pa : Addr) (n : Nat) (c : Vbsgaj.Call) (Q : VK) : Prop :=
  ∀ p H' pa', Kept pa pa' H H' → DeskAt T H' da (Vbsgaj.step st c).1 pa' (n + 1) → H' p = some (.lst ((Vbsgaj.step st c).2.map V.int)) → (Vbsgaj.step st c).2.length ≤ 100 → Fr pa H p → Q (.ref p) H'
/-- what each call promises: R ties its numbers and its row to the specification's call -/
def q_deed (T : Tx K mg) (R : List Int → List Int → Vbsgaj.Call → Prop) : V → V → V → Hp → VK → Prop := fun v u z H Q => ∃ (da nu ro : Addr) (st : Vbsgaj.State) (pa : Addr) (n : Nat) (ns rs : List Int) (c : Vbsgaj.Call), v = .ref da ∧ u = .ref nu ∧ z = .ref ro ∧ R ns rs c ∧
  DeskAt T H da st pa n ∧ n < 400 ∧ H nu = some (.lst (ns.map V.int)) ∧ H ro = some (.lst (rs.map V.int)) ∧ rs.length ≤ 1000 ∧ Done T H da st pa n c Q
theorem DeskAt.same {T : Tx K mg} {H H' : Hp} {da pa : Addr} {st : Vbsgaj.State} {n : Nat} (D : DeskAt T H da st pa n) (e : Same H H') : DeskAt T H' da st pa n := by
  obtain ⟨ga, sl, pas, s, d, kv, R⟩ := D
  exact (R.same e).at
variable {T : Tx K mg} {H H' H1 H2 : Hp} {da pa ga sl : Addr} {pas : List Addr} {s d : Nat → Addr} {kv : Nat → KN} {st : Vbsgaj.State} {n : Nat}
/-- another game, another past -/
theorem DeskR.move (R : DeskR T H da pa ga sl pas s d kv st n) {dx ga' : Addr} {pas' : List Addr} {st' : Vbsgaj.State} (keep : ∀ b o, H b = some o → b ≠ da → b ≠ pa → H' b = some o) (hda : H' da = some (.ins T.CD dx (deF (.ref ga') (.ref pa) (.ref sl)))) (hpa : H' pa = some (.lst (pas'.map V.ref)))
    (hg : Ga T H' ga' st'.game) (G : VG st'.game) (hsh : shape st'.game = shape st.game) (hlen : pas'.length = st'.past.length) (hpat : ∀ (i : Nat) (a : Addr), pas'.reverse[i]? = some a → ∃ g, st'.past[i]? = some g ∧ Ga T H' a g) (hpok : ∀ g ∈ st'.past, VG g ∧ shape g = shape st'.game) (hsz : pas'.length ≤ n + 1) :
    DeskR T H' da pa ga' sl pas' s d kv st' (n + 1) := by
  obtain ⟨dx0, h0⟩ := R.ins
  refine ⟨⟨dx, hda⟩, hg, G, hpa, hlen, hpat, hpok, hsz, keep _ _ R.slst (ne_of R.slst h0 (by intro z; cases z)) R.slpa, R.slpa, fun j hj => ?_, fun j hj => by have := R.size j hj; omega, R.apart⟩
  rw [hsh]
  obtain ⟨⟨dx2, hi⟩, hd2, hk2, m⟩ := R.memo j hj
  have im : Im T H H' := fun b o so hb => keep b o hb (ne_of hb h0 (by intro z; subst z; exact so rfl)) (ne_of hb R.plst (by intro z; subst z; exact so))
  exact ⟨⟨dx2, keep _ _ hi (ne_of hi h0 (fun z => T.neS (HO.ins.inj z).1)) (ne_of hi R.plst (by intro z; cases z))⟩, keep _ _ hd2 (ne_of hd2 h0 (by intro z; cases z)) (ne_of hd2 R.plst (by intro z; cases z)), im.keys hk2, m⟩
theorem im_move (R : DeskR T H da pa ga sl pas s d kv st n) (keep : ∀ b o, H b = some o → b ≠ da → b ≠ pa → H' b = some o) : Im T H H' := by
  obtain ⟨dx0, h0⟩ := R.ins
  exact fun b o so hb => keep b o hb (ne_of hb h0 (by intro z; subst z; exact so rfl)) (ne_of hb R.plst (by intro z; subst z; exact so))
theorem kept_move (R : DeskR T H da pa ga sl pas s d kv st n) (keep : ∀ b o, H b = some o → b ≠ da → b ≠ pa → H' b = some o) : Kept pa pa H H' := by
  obtain ⟨dx0, h0⟩ := R.ins
  exact ⟨fun w xs h nw => ⟨keep _ _ h (ne_of h h0 (by intro z; cases z)) nw, nw⟩, fun w o u h => keep _ _ h (ne_of h h0 (by intro z; cases z)) (ne_of h R.plst (by intro z; cases z))⟩
theorem kept_begin {dx pa2 : Addr} {fs : List (Str × V)} (s1 : Same H H1) (hda : H1 da = some (.ins T.CD dx fs)) (kp : ∀ b o, H1 b = some o → b ≠ da → H2 b = some o) (hpa : H1 pa2 = none) : Kept pa pa2 H H2 :=
  ⟨fun w xs h nw => ⟨kp _ _ (s1 _ _ h) (ne_of (s1 _ _ h) hda (by intro z; cases z)), ne_of_none (s1 _ _ h) hpa⟩, fun w o u h => kp _ _ (s1 _ _ h) (ne_of (s1 _ _ h) hda (by intro z; cases z))⟩
theorem no_begin (a b c : V) : (deF a b c).lookup ("begin_with" : Str) = none := rfl
end
theorem vg_swapped {g : Vbsgaj.Game} (G : VG g) : VG (Vbsgaj.swapped g) := by
  refine ⟨G.mb, G.ma, ?_, G.le, by show (g.companies.map _).length ≤ 3; rw [List.length_map]; exact G.nc, fun c hc => ?_⟩
  · show 1 - g.turn = 0 ∨ 1 - g.turn = 1
    rcases G.tu with e | e <;> omega
  · have hc : c ∈ g.companies.map Vbsgaj.swapCompany := hc
    obtain ⟨c', h1, h2⟩ := List.mem_map.mp hc
    subst h2
    have := G.co c' h1
    exact ⟨this.n1, this.n8, this.pl, this.pr, this.py⟩
section
variable {P : Program} {w : World} {K : PySem.W.Frag} {mg : Str → Option Value} {base : Heap}
theorem sc_tell_worths : FnScope ["desk", "numbers", "row"] ["desk", "numbers", "row"] (defScope s_tell_worths) := ⟨rfl, rfl, rfl, by decide +kernel, rfl, by decide +kernel, by decide +kernel⟩
theorem c_tell_worths (T : Tx K mg) : Cal P w K mg base 4 "tell_worths" ["desk", "numbers", "row"] (sp3 (q_deed T fun _ _ c => c = .worth)) := by
  refine T.F_tell_worths.cal (k := 3) sc_tell_worths sp3_len fun f cdv A outer s H vs Q E hr h => ?_
  obtain ⟨_, _, _, rfl, da, nu, ro, st, pa, n, ns, rs, c, rfl, rfl, rfl, rfl, ⟨ga, sl, pas, sf, df, kv, R⟩, hn, hnu, hro, hrl, q⟩ := h
  refine ⟨_, pss_one (ps_ret (pe_c1 (c_both_worths T) hr (pe_fld (pv 0) rfl))), ?_⟩
  exact ⟨_, rfl, rd_game R ⟨ga, st.game, rfl, R.game, R.ok, fun p H' s1 hf hp => q p H' pa s1.kept (R.same s1).later.at hp (by show 2 ≤ 100; decide) (Fr.new hf)⟩⟩
theorem sc_list_orders : FnScope ["desk", "numbers", "row", "found"] ["desk", "numbers", "row"] (defScope s_list_orders) := ⟨rfl, rfl, rfl, by decide +kernel, rfl, by decide +kernel, by decide +kernel⟩
theorem ordL_len {g : Vbsgaj.Game} (G : VG g) : (ordL g).length ≤ 13 := by
  unfold ordL
  split
  · simp
  · have := orders_len g; have := G.nc; omega
theorem c_list_orders (T : Tx K mg) : Cal P w K mg base 4 "list_orders" ["desk", "numbers", "row"] (sp3 (q_deed T fun _ _ c => c = .orders)) := by
  refine T.F_list_orders.cal (k := 3) sc_list_orders sp3_len fun f cdv A outer s H vs Q E hr h => ?_
  obtain ⟨_, _, _, rfl, da, nu, ro, st, pa, n, ns, rs, c, rfl, rfl, rfl, rfl, ⟨ga, sl, pas, sf, df, kv, R⟩, hn, hnu, hro, hrl, q⟩ := h
  refine ⟨_, pss_cons (ps_set (i := 3) sc_list_orders.nd rfl (Or.inl rfl) (pe_c1 (c_orders_of T) hr (pe_fld (pv 0) rfl)))
    (pss_one (ps_ret (pe_op op_cat (pe_lst (pa_cons (pe_callB call_len_seq rfl T.b_len PySem.boot_len (pa_cons (pv 3) pa_nil)) pa_nil)) (pv 3)))), ?_⟩
  have hl := ordL_len R.ok
  have nl : (nV (ordL st.game)).length = (ordL st.game).length := List.length_map _
  refine ⟨_, rfl, rd_game R ⟨ga, st.game, rfl, R.game, R.ok, fun ol H1 s1 hol => ?_⟩⟩
  refine ⟨_, rfl, ol, _, rfl, .inl (SqL.of hol), szn 1 rfl, fun l hl1 => ⟨_, rfl, l, ol, _, _, rfl, rfl, upd_same, same_new hl1 _ _ _ hol, ?_, fun p hp => ?_⟩⟩
  · rw [nl]
    exact sz (by simp; omega)
  · have s2 := s1.trans ((same_new hl1 (.lst [.int ((nV (ordL st.game)).length : Nat)])).trans (same_new hp (.lst ([.int ((nV (ordL st.game)).length : Nat)] ++ nV (ordL st.game)))))
    refine q p _ pa s2.kept (R.same s2).later.at ?_ ?_ ((s1.trans (same_new hl1 _)).kept.fr hp)
    · show _ = some (HO.lst ((Vbsgaj.counted Vbsgaj.one (ordL st.game)).map V.int))
      rw [upd_same, counted_one, nl]
      all_goals rfl
    · show (Vbsgaj.counted Vbsgaj.one (ordL st.game)).length ≤ 100
      have e : (Vbsgaj.counted Vbsgaj.one (ordL st.game)).length = (ordL st.game).length + 1 := by
        have := congrArg List.length (counted_one (ordL st.game))
        rw [List.length_map, List.length_cons, nl] at this
        exact this
      omega
theorem sc_clear_all : FnScope ["desk", "numbers", "row"] ["desk", "numbers", "row"] (defScope s_clear_all) := ⟨rfl, rfl, rfl, by decide +kernel, rfl, by decide +kernel, by decide +kernel⟩
theorem c_clear_all (T : Tx K mg) : Cal P w K mg base 4 "clear_all" ["desk", "numbers", "row"] (sp3 (q_deed T fun _ _ c => c = .clear)) := by
  refine T.F_clear_all.cal (k := 3) sc_clear_all sp3_len fun f cdv A outer s H vs Q E hr h => ?_
  obtain ⟨_, _, _, rfl, da, nu, ro, st, pa, n, ns, rs, c, rfl, rfl, rfl, rfl, ⟨ga, sl, pas, sf, df, kv, R⟩, hn, hnu, hro, hrl, q⟩ := h
  refine ⟨_, pss_cons (ps_expr (pe_m2 (c_begin_with T) hr T.clCD (pv 0) (pe_c0 (c_first_game T) hr))) (pss_one (ps_ret (pe_lst (pa_cons pe_int pa_nil)))), ?_⟩
  obtain ⟨dx, hin⟩ := R.ins
  refine ⟨_, rfl, da, dx, _, rfl, hin, no_begin _ _ _, fun p1 H1 s1 h1 => ⟨da, p1, dx, _, Vbsgaj.begun, rfl, rfl, s1 _ _ hin, .inr ⟨_, _, _, rfl⟩, h1, vg_begun, fun H2 pa2 kp hpa hD => ?_⟩⟩
  refine ⟨szn 1 rfl, fun p hp => q p _ pa2 ((kept_begin s1 (s1 _ _ hin) kp hpa).trans (same_new hp _).kept) ((hD (n + 1)).same (same_new hp _)) upd_same (by show 1 ≤ 100; decide) ((kept_begin s1 (s1 _ _ hin) kp hpa).fr hp)⟩
theorem sc_swap_players : FnScope ["desk", "numbers", "row"] ["desk", "numbers", "row"] (defScope s_swap_players) := ⟨rfl, rfl, rfl, by decide +kernel, rfl, by decide +kernel, by decide +kernel⟩
theorem c_swap_players (T : Tx K mg) : Cal P w K mg base 6 "swap_players" ["desk", "numbers", "row"] (sp3 (q_deed T fun _ _ c => c = .swap)) := by
  refine T.F_swap_players.cal (k := 5) sc_swap_players sp3_len fun f cdv A outer s H vs Q E hr h => ?_
  obtain ⟨_, _, _, rfl, da, nu, ro, st, pa, n, ns, rs, c, rfl, rfl, rfl, rfl, ⟨ga, sl, pas, sf, df, kv, R⟩, hn, hnu, hro, hrl, q⟩ := h
  refine ⟨_, pss_cons (ps_expr (pe_m2 (c_begin_with T) (hr.mono (by decide)) T.clCD (pv 0) (pe_c1 (c_swapped T) hr (pe_fld (pv 0) rfl)))) (pss_one (ps_ret (pe_lst (pa_cons pe_int pa_nil)))), ?_⟩
  obtain ⟨dx, hin⟩ := R.ins
  refine ⟨_, rfl, da, dx, _, rfl, hin, no_begin _ _ _, _, rfl, rd_game R ⟨ga, st.game, rfl, R.game, R.ok, fun p1 H1 s1 h1 => ⟨da, p1, dx, _, _, rfl, rfl, s1 _ _ hin, .inr ⟨_, _, _, rfl⟩, h1, vg_swapped R.ok, fun H2 pa2 kp hpa hD => ?_⟩⟩⟩
  refine ⟨szn 1 rfl, fun p hp => q p _ pa2 ((kept_begin s1 (s1 _ _ hin) kp hpa).trans (same_new hp _).kept) ((hD (n + 1)).same (same_new hp _)) upd_same (by show 1 ≤ 100; decide) ((kept_begin s1 (s1 _ _ hin) kp hpa).fr hp)⟩
theorem sc_undo : FnScope ["desk", "numbers", "row"] ["desk", "numbers", "row"] (defScope s_undo) := ⟨rfl, rfl, rfl, by decide +kernel, rfl, by decide +kernel, by decide +kernel⟩
theorem c_undo (T : Tx K mg) : Cal P w K mg base 1 "undo" ["desk", "numbers", "row"] (sp3 (q_deed T fun _ _ c => c = .undo)) := by
  refine T.F_undo.cal (k := 0) sc_undo sp3_len fun f cdv A outer s H vs Q E hr h => ?_
  obtain ⟨_, _, _, rfl, da, nu, ro, st, pa, n, ns, rs, c, rfl, rfl, rfl, rfl, ⟨ga, sl, pas, sf, df, kv, R⟩, hn, hnu, hro, hrl, q⟩ := h
  refine ⟨_, pss_cons (ps_if (pt_cmpR op_eq (pe_callB call_len_seq rfl T.b_len PySem.boot_len (pa_cons (pe_fld (pv 0) rfl) pa_nil)) pe_int (nomark _)) (pss_one (ps_ret (pe_lst (pa_cons (pe_gi T.i_NOTHING_PLAYED) pa_nil)))) pss_nil)
    (pss_cons (ps_fld (pv 0) (pe_bm0 PySem.F.plainAttrs_list PySem.F.slot_list_pop PySem.F.type_list_pop mt_pop (pe_fld (pv 0) rfl)) rfl)
    (pss_one (ps_ret (pe_lst (pa_cons pe_int pa_nil))))), ?_⟩
  have nl : (pas.map V.ref).length = pas.length := List.length_map _
  refine ⟨_, rfl, rd_past R ⟨pa, _, rfl, .inl (SqL.of R.plst), rfl, _, rfl, ?_⟩⟩
  rw [nl]
  obtain ⟨g0, past⟩ := st
  refine itI (fun e0 => ?_) (fun e0 => ?_)
  · have e0 : pas.length = 0 := by omega
    have ep : past = [] := List.length_eq_zero_iff.mp (by have := R.plen; rw [e0] at this; exact this.symm)
    subst ep
    exact ⟨szn 1 rfl, fun p hp => q p _ pa (same_new hp _).kept (R.same (same_new hp _)).later.at upd_same (by show 1 ≤ 100; decide) (Fr.new hp)⟩
  · cases past with
    | nil =>
      have := R.plen
      exact absurd (by rw [this]; rfl) e0
    | cons g r =>
      have hne : pas ≠ [] := fun z => by rw [z] at e0; exact e0 rfl
      obtain ⟨dx, hin⟩ := R.ins
      have hlast : pas.reverse[0]? = some (pas.getLast hne) := by
        rw [← List.head?_eq_getElem?, List.head?_reverse, List.getLast?_eq_some_getLast hne]
      obtain ⟨g', hg', hgl⟩ := R.pat 0 _ hlast
      have eg : g = g' := Option.some.inj hg'
      subst eg
      have hat : (pas.map V.ref)[(pas.map V.ref).length - 1]? = some (.ref (pas.getLast hne)) := by
        rw [nl, List.getElem?_map, ← List.getLast?_eq_getElem?, List.getLast?_eq_some_getLast hne]
        rfl
      obtain ⟨Gg, shg⟩ := R.pok g (List.mem_cons_self ..)
      refine ⟨_, rfl, rd_past R ⟨.inl ⟨rfl, _, SqL.of R.plst⟩, pa, _, _, rfl, rfl, R.plst, hat, ?_⟩⟩
      have nda : da ≠ pa := ne_of hin R.plst (by intro z; cases z)
      refine ⟨_, rfl, da, T.CD, dx, _, rfl, (by rw [upd_ne nda]; exact hin), T.clCD, T.n_game, (by show 3 < 1000; decide), ?_⟩
      have hH : ∀ b o, H b = some o → b ≠ da → b ≠ pa → upd (upd H pa (.lst (pas.map V.ref).dropLast)) da (.ins T.CD dx (deF (.ref (pas.getLast hne)) (.ref pa) (.ref sl))) b = some o := fun b o hb n1 n2 => by rw [upd_ne n1, upd_ne n2]; exact hb
      have im := im_move R hH
      refine ⟨szn 1 rfl, fun p hp => ?_⟩
      have Rn : DeskR T (upd (upd H pa (.lst (pas.map V.ref).dropLast)) da (.ins T.CD dx (deF (.ref (pas.getLast hne)) (.ref pa) (.ref sl)))) da pa (pas.getLast hne) sl pas.dropLast sf df kv ⟨g, r⟩ (n + 1) := by
        refine R.move hH upd_same ?_ (im.ga hgl) Gg shg ?_ (fun i a hi => ?_) (fun g2 hg2 => ?_) ?_
        · rw [upd_ne nda.symm, upd_same, List.map_dropLast]
        · have := R.plen
          rw [List.length_dropLast, this]
          rfl
        · have e1 : pas.reverse = pas.getLast hne :: pas.dropLast.reverse := by
            conv => lhs; rw [← List.dropLast_concat_getLast hne]
            rw [List.reverse_append]
            rfl
          have h1 : pas.reverse[i + 1]? = some a := by rw [e1]; exact hi
          obtain ⟨g2, h2, h3⟩ := R.pat (i + 1) a h1
          exact ⟨g2, h2, im.ga h3⟩
        · obtain ⟨a1, a2⟩ := R.pok g2 (List.mem_cons_of_mem _ hg2)
          exact ⟨a1, a2.trans shg.symm⟩
        · rw [List.length_dropLast]
          have := R.psz
          omega
      exact q p _ pa ((kept_move R hH).trans (same_new hp _).kept) (Rn.same (same_new hp _)).at upd_same (by show 1 ≤ 100; decide) ((kept_move R hH).fr hp)
end
end ST
set_option Elab.async false
set_option linter.all false
set_option maxRecDepth 100000
namespace ST
open PySem PySem.Spec PyProof.Rows L2 NKey
theorem wi_iff {n lo hi : Int} : Vbsgaj.within n lo hi = true ↔ lo ≤ n ∧ n ≤ hi := by
  unfold Vbsgaj.within
  rw [decide_eq_true_eq]
theorem pf_iff {l : List Int} (h : Vbsgaj.pricesFit l = true) : (1 ≤ l.length ∧ l.length ≤ 8) ∧ ∀ p ∈ l, 1 ≤ p ∧ p ≤ 1000000 := by
  unfold Vbsgaj.pricesFit at h
  rw [Bool.and_eq_true, decide_eq_true_eq, Bool.and_eq_true] at h
  refine ⟨h.1, fun p hp => ?_⟩
  have := List.all_eq_true.mp h.2.1 p hp
  exact wi_iff.mp this
theorem not_t {b : Bool} {A B : Prop} (h1 : b = false → A) (h2 : b = true → B) : if (!b) = true then A else B := by
  cases b
  · exact h1 rfl
  · exact h2 rfl
section
variable {P : Program} {w : World} {K : PySem.W.Frag} {mg : Str → Option Value} {base : Heap}
theorem sc_play : FnScope ["desk", "numbers", "row", "order"] ["desk", "numbers", "row"] (defScope s_play) := ⟨rfl, rfl, rfl, by decide +kernel, rfl, by decide +kernel, by decide +kernel⟩
theorem c_play (T : Tx K mg) : Cal P w K mg base 7 "play" ["desk", "numbers", "row"] (sp3 (q_deed T fun ns _ c => ∃ o, ns = [o] ∧ c = .play o)) := by
  refine T.F_play.cal (k := 6) sc_play sp3_len fun f cdv A outer s H vs Q E hr h => ?_
  obtain ⟨_, _, _, rfl, da, nu, ro, st, pa, n, ns, rs, c, rfl, rfl, rfl, ⟨o, rfl, rfl⟩, ⟨ga, sl, pas, sf, df, kv, R⟩, hn, hnu, hro, hrl, q⟩ := h
  have nd := sc_play.nd
  refine ⟨_, pss_cons (ps_set (i := 3) nd rfl (Or.inl rfl) (pe_ix ix_list (pv 1) pe_int (fun _ _ => rfl)))
    (pss_cons (ps_if (pt_cmpR op_eq (pe_fld (pe_fld (pv 0) rfl) rfl) pe_int (nomark _)) (pss_one (ps_ret (pe_lst (pa_cons (pe_gi T.i_NO_TURNS) pa_nil)))) pss_nil)
    (pss_cons (ps_if (pt_cmpR op_notIn_seq (pv 3) (pe_c1 (c_orders_of T) (hr.mono (by decide)) (pe_fld (pv 0) rfl)) rfl) (pss_one (ps_ret (pe_lst (pa_cons (pe_gi T.i_NOT_ALLOWED) pa_nil)))) pss_nil)
    (pss_cons (ps_expr (pe_bm PySem.F.plainAttrs_list PySem.F.slot_list_append PySem.F.type_list_append mt_append (pe_fld (pv 0) rfl) (pa_cons (pe_fld (pv 0) rfl) pa_nil)))
    (pss_cons (ps_fld (pv 0) (pe_c2 (c_game_behind T) hr (pe_fld (pv 0) rfl) (pv 3)) rfl)
    (pss_one (ps_ret (pe_c1 (c_both_worths T) (hr.mono (by decide)) (pe_fld (pv 0) rfl)))))))), ?_⟩
  have hg := R.game
  have G := R.ok
  have hg' := hg
  obtain ⟨cs, hgr, hcs⟩ := hg'
  obtain ⟨dx, hin⟩ := R.ins
  refine ⟨_, rfl, nu, _, _, _, rfl, rfl, SqL.of hnu, rfl, ?_⟩
  refine ⟨_, rfl, rd_game R (rd_left hgr ⟨rfl, _, rfl, itI (fun e0 => ?_) (fun e0 => ?_)⟩)⟩
  · have e0 : st.game.left = 0 := by omega
    have es : Vbsgaj.step st (.play o) = (st, [-5]) := if_pos e0
    unfold Done at q
    rw [es] at q
    exact ⟨szn 1 rfl, fun p hp => q p _ pa (same_new hp _).kept (R.same (same_new hp _)).later.at upd_same (by show 1 ≤ 100; decide) (Fr.new hp)⟩
  have e0 : 0 < st.game.left := by omega
  refine ⟨_, rfl, _, rfl, rd_game R ⟨ga, st.game, rfl, hg, G, fun ol H1 s1 hol => ?_⟩⟩
  rw [ordL_pos e0] at hol
  refine ⟨ol, _, rfl, .inl (SqL.of hol), rfl, flat_nat _, _, rfl, ?_⟩
  have ein : (if (true : Bool) = true then !inV (.int o) (nV (Vbsgaj.orders st.game)) else inV (.int o) (nV (Vbsgaj.orders st.game))) = !(decide (0 ≤ o ∧ o.toNat ∈ Vbsgaj.orders st.game)) := by
    rw [if_pos rfl, inV_nat]
  rw [ein]
  refine not_t (fun c => ?_) (fun c => ?_)
  · have c := of_decide_eq_false c
    have es : Vbsgaj.step st (.play o) = (st, [-3]) := by
      show (if st.game.left = 0 then _ else if (decide (0 ≤ o) && Vbsgaj.may st.game o.toNat) = false then _ else _) = _
      rw [if_neg (by omega), if_pos]
      by_cases h0 : 0 ≤ o
      · cases hm : Vbsgaj.may st.game o.toNat with
        | false => rw [Bool.and_false]
        | true => exact absurd ⟨h0, mem_orders.mpr hm⟩ c
      · rw [decide_eq_false h0, Bool.false_and]
    unfold Done at q
    rw [es] at q
    exact ⟨szn 1 rfl, fun p hp => q p _ pa (s1.trans (same_new hp _)).kept (R.same (s1.trans (same_new hp _))).later.at upd_same (by show 1 ≤ 100; decide) (s1.kept.fr hp)⟩
  have c := of_decide_eq_true c
  have hm := mem_orders.mp c.2
  have eo : o = ((o.toNat : Nat) : Int) := by omega
  have es : Vbsgaj.step st (.play o) = (⟨Vbsgaj.played st.game o.toNat, st.game :: st.past⟩, [Vbsgaj.worth 0 (Vbsgaj.played st.game o.toNat), Vbsgaj.worth 1 (Vbsgaj.played st.game o.toNat)]) := by
    show (if st.game.left = 0 then _ else if (decide (0 ≤ o) && Vbsgaj.may st.game o.toNat) = false then _ else _) = _
    rw [if_neg (by omega), if_neg]
    rw [decide_eq_true c.1, hm]
    decide
  unfold Done at q
  rw [es] at q
  have R1 := R.same s1
  have nda : da ≠ pa := ne_of hin R.plst (by intro z; cases z)
  refine ⟨_, rfl, rd_past R1 ⟨.inl ⟨rfl, _, SqL.of R1.plst⟩, _, rfl, rd_game R1 ⟨pa, _, _, rfl, rfl, R1.plst, ?_, ?_⟩⟩⟩
  · rw [List.length_map]
    have := R.psz
    exact small1000 (by omega)
  have im2 : Im T H1 (upd H1 pa (.lst (pas.map V.ref ++ [.ref ga]))) := Im.updL R1.plst
  have rdg : ∀ {Q : V → Prop}, Q (.ref ga) → RdF K (upd H1 pa (.lst (pas.map V.ref ++ [.ref ga]))) da "game" Q := fun {Q} q => ⟨da, T.CD, dx, _, _, rfl, by rw [upd_ne nda]; exact s1 _ _ hin, T.clCD, T.n_game, lk_game _ _ _, q⟩
  refine ⟨_, rfl, rdg ⟨_, rfl, ga, st.game, o.toNat, rfl, by rw [← eo], (s1.im.trans im2).ga hg, G, hm, e0, fun p3 H3 s3 h3 => ?_⟩⟩
  refine ⟨_, rfl, da, T.CD, dx, _, rfl, s3 _ _ (by rw [upd_ne nda]; exact s1 _ _ hin), T.clCD, T.n_game, (by show 3 < 1000; decide), ?_⟩
  have keep : ∀ b u, H b = some u → b ≠ da → b ≠ pa → upd H3 da (.ins T.CD dx (deF (.ref p3) (.ref pa) (.ref sl))) b = some u := fun b u hb n1 n2 => by
    rw [upd_ne n1]
    exact s3 _ _ (by rw [upd_ne n2]; exact s1 _ _ hb)
  have im := im_move R keep
  have im3 : Im T H3 (upd H3 da (.ins T.CD dx (deF (.ref p3) (.ref pa) (.ref sl)))) := im_ins (s3 _ _ (by rw [upd_ne nda]; exact s1 _ _ hin)) _
  have Rn : DeskR T (upd H3 da (.ins T.CD dx (deF (.ref p3) (.ref pa) (.ref sl)))) da pa p3 sl (pas ++ [ga]) sf df kv ⟨Vbsgaj.played st.game o.toNat, st.game :: st.past⟩ (n + 1) := by
    refine R.move keep upd_same ?_ (im3.ga h3) (G.played hm) (played_shape _ _) ?_ (fun i a hi => ?_) (fun g2 hg2 => ?_) ?_
    · rw [upd_ne nda.symm, s3 _ _ upd_same, List.map_append]
      all_goals rfl
    · rw [List.length_append, R.plen]
      rfl
    · rw [List.reverse_append] at hi
      cases i with
      | zero =>
        have ea : ga = a := Option.some.inj hi
        subst ea
        exact ⟨st.game, rfl, im.ga hg⟩
      | succ i =>
        obtain ⟨g2, h1, h2⟩ := R.pat i a hi
        exact ⟨g2, h1, im.ga h2⟩
    · show VG g2 ∧ shape g2 = shape (Vbsgaj.played st.game o.toNat)
      rw [played_shape]
      rcases List.mem_cons.mp hg2 with z | z
      · subst z; exact ⟨G, rfl⟩
      · exact R.pok g2 z
    · rw [List.length_append]
      have := R.psz
      show pas.length + 1 ≤ n + 1
      omega
  refine ⟨_, rfl, rd_game Rn ⟨p3, _, rfl, Rn.game, Rn.ok, fun p H' s' hf hp => ?_⟩⟩
  exact q p H' pa ((kept_move R keep).trans s'.kept) (Rn.same s').at hp (by show 2 ≤ 100; decide) ((kept_move R keep).fr hf)
theorem sc_set_players : FnScope ["desk", "numbers", "row", "game"] ["desk", "numbers", "row"] (defScope s_set_players) := ⟨rfl, rfl, rfl, by decide +kernel, rfl, by decide +kernel, by decide +kernel⟩
theorem c_set_players (T : Tx K mg) : Cal P w K mg base 4 "set_players" ["desk", "numbers", "row"] (sp3 (q_deed T fun ns _ c => ∃ a b t l, ns = [a, b, t, l] ∧ c = .players a b t l)) := by
  refine T.F_set_players.cal (k := 3) sc_set_players sp3_len fun f cdv A outer s H vs Q E hr h => ?_
  obtain ⟨_, _, _, rfl, da, nu, ro, st, pa, n, ns, rs, c, rfl, rfl, rfl, ⟨m0, m1, tu, le, rfl, rfl⟩, ⟨ga, sl, pas, sf, df, kv, R⟩, hn, hnu, hro, hrl, q⟩ := h
  have nd := sc_set_players.nd
  refine ⟨_, pss_cons (ps_set (i := 3) nd rfl (Or.inl rfl) (pe_mk (mk_game T) (hr.mono (by decide)) (pa_cons (pe_tup (pa_cons (pe_ix ix_list (pv 1) pe_int (fun _ _ => rfl)) (pa_cons (pe_ix ix_list (pv 1) pe_int (fun _ _ => rfl)) pa_nil))) (pa_cons (pe_ix ix_list (pv 1) pe_int (fun _ _ => rfl)) (pa_cons (pe_ix ix_list (pv 1) pe_int (fun _ _ => rfl)) (pa_cons (pe_fld (pe_fld (pv 0) rfl) rfl) pa_nil))))))
    (pss_cons (ps_if (pt_not (pt_val (pe_c1 (c_players_fit T) (hr.mono (by decide)) (pv 3)))) (pss_one (ps_ret (pe_lst (pa_cons (pe_gi T.i_WRONG_NUMBER) pa_nil)))) pss_nil)
    (pss_cons (ps_expr (pe_m2 (c_begin_with T) hr T.clCD (pv 0) (pv 3))) (pss_one (ps_ret (pe_lst (pa_cons pe_int pa_nil)))))), ?_⟩
  have G := R.ok
  have hg' := R.game
  obtain ⟨cs, hgr, hcs⟩ := hg'
  obtain ⟨dx, hin⟩ := R.ins
  refine ⟨_, rfl, nu, _, _, _, rfl, rfl, SqL.of hnu, rfl, _, rfl, nu, _, _, _, rfl, rfl, SqL.of hnu, rfl, szn 2 rfl, fun t ht => ?_⟩
  have st1 := same_new ht (.tup [.int m0, .int m1])
  have R1 := R.same st1
  refine ⟨_, rfl, nu, _, _, _, rfl, rfl, SqL.of (st1 _ _ hnu), rfl, _, rfl, nu, _, _, _, rfl, rfl, SqL.of (st1 _ _ hnu), rfl, _, rfl, rd_game R1 (rd_companies (st1.im.gaR hgr) fun co hco => ⟨_, _, _, _, rfl, fun gp dg H1 s1 hgp => ?_⟩)⟩
  have s01 := st1.trans s1
  have hraw : GaR T H1 gp m0 m1 tu le cs := ⟨dg, t, co, hgp, SqT.of (s1 _ _ upd_same), s1.sqT hco⟩
  refine ⟨_, rfl, gp, _, _, _, _, _, rfl, hraw, fun H2 s2 => ⟨_, rfl, not_t (fun c => ?_) (fun c => ?_)⟩⟩
  · have es : Vbsgaj.step st (.players m0 m1 tu le) = (st, [-2]) := if_pos c
    unfold Done at q
    rw [es] at q
    exact ⟨szn 1 rfl, fun p hp => q p _ pa ((s01.trans s2).trans (same_new hp _)).kept (R.same ((s01.trans s2).trans (same_new hp _))).later.at upd_same (by show 1 ≤ 100; decide) ((s01.trans s2).kept.fr hp)⟩
  have es : Vbsgaj.step st (.players m0 m1 tu le) = Vbsgaj.anew { st.game with moneyA := m0, moneyB := m1, turn := tu.toNat, left := le.toNat } := if_neg (by rw [c]; decide)
  unfold Done at q
  rw [es] at q
  rw [Bool.and_eq_true, Bool.and_eq_true, Bool.and_eq_true, wi_iff, wi_iff, wi_iff, wi_iff] at c
  obtain ⟨c1, c2, c3, c4⟩ := c
  have c4 : 0 ≤ le ∧ le ≤ 8 := c4
  have et : tu = ((tu.toNat : Nat) : Int) := by omega
  have el : le = ((le.toNat : Nat) : Int) := by omega
  have Gn : VG { st.game with moneyA := m0, moneyB := m1, turn := tu.toNat, left := le.toNat } := ⟨c1.1, c2.1, by show tu.toNat = 0 ∨ tu.toNat = 1; omega, by show le.toNat ≤ 8; omega, G.nc, G.co⟩
  have hgn : Ga T H2 gp { st.game with moneyA := m0, moneyB := m1, turn := tu.toNat, left := le.toNat } := by
    refine ⟨cs, ?_, (s01.trans s2).im.cos hcs⟩
    show GaR T H2 gp m0 m1 ((tu.toNat : Nat) : Int) ((le.toNat : Nat) : Int) cs
    rw [← et, ← el]
    exact s2.im.gaR hraw
  have hin2 := (s01.trans s2) _ _ hin
  refine ⟨_, rfl, da, dx, _, rfl, hin2, no_begin _ _ _, _, rfl, da, gp, dx, _, _, rfl, rfl, hin2, .inr ⟨_, _, _, rfl⟩, hgn, Gn, fun H3 pa2 kp hpa hD => ?_⟩
  refine ⟨szn 1 rfl, fun p hp => q p _ pa2 ((kept_begin (s01.trans s2) hin2 kp hpa).trans (same_new hp _).kept) ((hD (n + 1)).same (same_new hp _)) upd_same (by show 1 ≤ 100; decide) ((kept_begin (s01.trans s2) hin2 kp hpa).fr hp)⟩
theorem sc_add_company : FnScope ["desk", "numbers", "row", "company", "game"] ["desk", "numbers", "row"] (defScope s_add_company) := ⟨rfl, rfl, rfl, by decide +kernel, rfl, by decide +kernel, by decide +kernel⟩
theorem c_add_company (T : Tx K mg) : Cal P w K mg base 4 "add_company" ["desk", "numbers", "row"] (sp3 (q_deed T fun ns rs c => ∃ p d a b m, ns = [p, d, a, b, m] ∧ c = .company p d a b m rs)) := by
  refine T.F_add_company.cal (k := 3) sc_add_company sp3_len fun f cdv A outer s H vs Q E hr h => ?_
  obtain ⟨_, _, _, rfl, da, nu, ro, st, pa, n, ns, rs, c, rfl, rfl, rfl, ⟨pl, py, s0, s1, po, rfl, rfl⟩, ⟨ga, sl, pas, sf, df, kv, R⟩, hn, hnu, hro, hrl, q⟩ := h
  have nd := sc_add_company.nd
  refine ⟨_, pss_cons (ps_set (i := 3) nd rfl (Or.inl rfl) (pe_mk (mk_company T) (hr.mono (by decide)) (pa_cons (pe_ix ix_list (pv 1) pe_int (fun _ _ => rfl)) (pa_cons (pe_ix ix_list (pv 1) pe_int (fun _ _ => rfl)) (pa_cons (pe_tup (pa_cons (pe_ix ix_list (pv 1) pe_int (fun _ _ => rfl)) (pa_cons (pe_ix ix_list (pv 1) pe_int (fun _ _ => rfl)) pa_nil)))
      (pa_cons (pe_ix ix_list (pv 1) pe_int (fun _ _ => rfl)) (pa_cons (pe_callTy call_tuple_of rfl T.b_tuple boot_tuple (pa_cons (pv 2) pa_nil)) pa_nil)))))))
    (pss_cons (ps_set (i := 4) nd rfl (Or.inl rfl) (pe_fld (pv 0) rfl))
    (pss_cons (ps_if (pt_not (pt_val (pe_c1 (c_company_fits T) (hr.mono (by decide)) (pv 3)))) (pss_one (ps_ret (pe_lst (pa_cons (pe_gi T.i_WRONG_NUMBER) pa_nil)))) pss_nil)
    (pss_cons (ps_if (pt_cmpR op_eq (pe_callB call_len_seq rfl T.b_len PySem.boot_len (pa_cons (pe_fld (pv 4) rfl) pa_nil)) (pe_gi T.i_MOST_COMPANIES) (nomark _)) (pss_one (ps_ret (pe_lst (pa_cons (pe_gi T.i_NO_ROOM) pa_nil)))) pss_nil)
    (pss_cons (ps_expr (pe_m2 (c_begin_with T) hr T.clCD (pv 0) (pe_mk (mk_game T) (hr.mono (by decide)) (pa_cons (pe_fld (pv 4) rfl) (pa_cons (pe_fld (pv 4) rfl) (pa_cons (pe_fld (pv 4) rfl) (pa_cons (pe_op op_catU (pe_fld (pv 4) rfl) (pe_tup (pa_cons (pv 3) pa_nil))) pa_nil)))))))
    (pss_one (ps_ret (pe_lst (pa_cons (pe_callB call_len_seq rfl T.b_len PySem.boot_len (pa_cons (pe_fld (pv 4) rfl) pa_nil)) pa_nil)))))))), ?_⟩
  have G := R.ok
  have hg' := R.game
  obtain ⟨cs, hgr, hcs⟩ := hg'
  obtain ⟨dx, hin⟩ := R.ins
  refine ⟨_, rfl, nu, _, _, _, rfl, rfl, SqL.of hnu, rfl, _, rfl, nu, _, _, _, rfl, rfl, SqL.of hnu, rfl, _, rfl, nu, _, _, _, rfl, rfl, SqL.of hnu, rfl, _, rfl, nu, _, _, _, rfl, rfl, SqL.of hnu, rfl, szn 2 rfl, fun t ht => ?_⟩
  have st1 := same_new ht (.tup [.int s0, .int s1])
  refine ⟨_, rfl, nu, _, _, _, rfl, rfl, SqL.of (st1 _ _ hnu), rfl, _, rfl, ro, _, rfl, .inl ⟨SqL.of (st1 _ _ hro), fun l hl => ⟨_, _, _, _, _, rfl, fun cp dc H1 s1' hcp => ?_⟩⟩⟩
  have st2 := same_new hl (.tup (rs.map V.int))
  have s01 := st1.trans (st2.trans s1')
  have hraw : CoR T H1 cp ⟨pl, py, s0, s1, po, rs⟩ := ⟨dc, t, l, hcp, SqT.of (s1' _ _ (st2 _ _ upd_same)), SqT.of (s1' _ _ upd_same)⟩
  have R1 := R.same s01
  refine ⟨_, rfl, rd_game R1 ⟨_, rfl, cp, ⟨pl, py, s0, s1, po, rs⟩, rfl, hraw, hrl, fun H2 s2 => ⟨_, rfl, not_t (fun c => ?_) (fun c => ?_)⟩⟩⟩
  · have es : Vbsgaj.step st (.company pl py s0 s1 po rs) = (st, [-2]) := if_pos c
    unfold Done at q
    rw [es] at q
    exact ⟨szn 1 rfl, fun p hp => q p _ pa ((s01.trans s2).trans (same_new hp _)).kept (R.same ((s01.trans s2).trans (same_new hp _))).later.at upd_same (by show 1 ≤ 100; decide) ((s01.trans s2).kept.fr hp)⟩
  have s02 := s01.trans s2
  have hgr2 := s02.im.gaR hgr
  refine ⟨_, rfl, rd_companies hgr2 fun co hco => ⟨co, _, rfl, .inr hco, rfl, _, rfl, ?_⟩⟩
  have nl : (cs.map V.ref).length = st.game.companies.length := by rw [List.length_map]; exact hcs.1
  rw [nl]
  have hnc := G.nc
  refine itI (fun e3 => ?_) (fun e3 => ?_)
  · have e3 : st.game.companies.length = 3 := by omega
    have es : Vbsgaj.step st (.company pl py s0 s1 po rs) = (st, [-4]) := by
      show (if Vbsgaj.companyFits pl py s0 s1 po rs = false then _ else if Vbsgaj.COMPANIES ≤ st.game.companies.length then _ else _) = _
      rw [if_neg (by rw [show Vbsgaj.companyFits pl py s0 s1 po rs = true from c]; decide), if_pos (by show 3 ≤ _; omega)]
    unfold Done at q
    rw [es] at q
    exact ⟨szn 1 rfl, fun p hp => q p _ pa (s02.trans (same_new hp _)).kept (R.same (s02.trans (same_new hp _))).later.at upd_same (by show 1 ≤ 100; decide) (s02.kept.fr hp)⟩
  have e3 : st.game.companies.length < 3 := by omega
  have es : Vbsgaj.step st (.company pl py s0 s1 po rs) = (⟨{ st.game with companies := st.game.companies ++ [⟨rs, pl.toNat, py, s0.toNat, s1.toNat, po.toNat⟩] }, []⟩, Vbsgaj.one st.game.companies.length) := by
    show (if Vbsgaj.companyFits pl py s0 s1 po rs = false then _ else if Vbsgaj.COMPANIES ≤ st.game.companies.length then _ else _) = _
    rw [if_neg (by rw [show Vbsgaj.companyFits pl py s0 s1 po rs = true from c]; decide), if_neg (by show ¬ 3 ≤ _; omega)]
  unfold Done at q
  rw [es] at q
  have c : Vbsgaj.companyFits pl py s0 s1 po rs = true := c
  unfold Vbsgaj.companyFits at c
  rw [Bool.and_eq_true, Bool.and_eq_true, Bool.and_eq_true, Bool.and_eq_true, Bool.and_eq_true, wi_iff, wi_iff, wi_iff, wi_iff, wi_iff] at c
  obtain ⟨cpf, c1, c2, c3, c4, c5⟩ := c
  obtain ⟨pf1, pf2⟩ := pf_iff cpf
  have c2 : 0 ≤ py ∧ py ≤ 1000000 := c2
  have Gc : VC ⟨rs, pl.toNat, py, s0.toNat, s1.toNat, po.toNat⟩ := ⟨pf1.1, pf1.2, by show pl.toNat < rs.length; omega, pf2, c2⟩
  have Gn : VG { st.game with companies := st.game.companies ++ [⟨rs, pl.toNat, py, s0.toNat, s1.toNat, po.toNat⟩] } := by
    refine ⟨G.ma, G.mb, G.tu, G.le, ?_, fun c hc => ?_⟩
    · show (st.game.companies ++ [_]).length ≤ 3
      rw [List.length_append]
      show _ + 1 ≤ 3
      omega
    · rcases List.mem_append.mp (show c ∈ st.game.companies ++ [_] from hc) with z | z
      · exact G.co c z
      · have : c = ⟨rs, pl.toNat, py, s0.toNat, s1.toNat, po.toNat⟩ := by simpa using z
        subst this
        exact Gc
  have hin2 := s02 _ _ hin
  refine ⟨_, rfl, da, dx, _, rfl, hin2, no_begin _ _ _, _, rfl, rd_money hgr2 fun mo hmo => ⟨_, rfl, rd_turn hgr2 ⟨_, rfl, rd_left hgr2 ⟨_, rfl, rd_companies hgr2 fun co2 hco2 => ⟨_, rfl, szn 1 rfl, fun t2 ht2 => ⟨co2, t2, _, _, rfl, rfl, (same_new ht2 _).sqT hco2, SqT.of upd_same, ?_, fun p3 H3 s3 h3 => ⟨_, _, _, _, rfl, fun gp dg H4 s4 hgp => ?_⟩⟩⟩⟩⟩⟩⟩
  · rw [nl]
    exact sz (by simp; omega)
  have st3 := same_new ht2 (.tup [.ref cp])
  have s24 := st3.trans (s3.trans s4)
  have s04 := s02.trans s24
  have hcp4 : CoR T H4 cp ⟨pl, py, s0, s1, po, rs⟩ := (s2.trans s24).im.coR hraw
  have erc : rc ⟨rs, pl.toNat, py, s0.toNat, s1.toNat, po.toNat⟩ = ⟨pl, py, s0, s1, po, rs⟩ := by
    show RC.mk ((pl.toNat : Nat) : Int) py ((s0.toNat : Nat) : Int) ((s1.toNat : Nat) : Int) ((po.toNat : Nat) : Int) rs = _
    have c3 : 0 ≤ s0 ∧ s0 ≤ 9 := c3
    have c4 : 0 ≤ s1 ∧ s1 ≤ 9 := c4
    have c5 : 0 ≤ po ∧ po ≤ 9 := c5
    rw [Int.toNat_of_nonneg c1.1, Int.toNat_of_nonneg c3.1, Int.toNat_of_nonneg c4.1, Int.toNat_of_nonneg c5.1]
  have hgn : Ga T H4 gp { st.game with companies := st.game.companies ++ [⟨rs, pl.toNat, py, s0.toNat, s1.toNat, po.toNat⟩] } := by
    refine ⟨cs ++ [cp], ⟨dg, mo, p3, hgp, s24.sqT hmo, ?_⟩, ?_, fun i a hi => ?_⟩
    · rw [List.map_append]
      exact s4.sqT h3
    · show (cs ++ [cp]).length = (st.game.companies ++ [_]).length
      rw [List.length_append, List.length_append, hcs.1]
      rfl
    · by_cases hi2 : i < cs.length
      · rw [List.getElem?_append_left hi2] at hi
        obtain ⟨c, h1, h2⟩ := hcs.2 i a hi
        refine ⟨c, ?_, s04.im.coR h2⟩
        show (st.game.companies ++ [_])[i]? = _
        rw [List.getElem?_append_left (by rw [← hcs.1]; exact hi2)]
        exact h1
      · have hie : i = cs.length := by
          have := (List.getElem?_eq_some_iff.mp hi).1
          rw [List.length_append] at this
          simp at this
          omega
        subst hie
        rw [List.getElem?_append_right (Nat.le_refl _), Nat.sub_self] at hi
        have ea : cp = a := Option.some.inj hi
        subst ea
        refine ⟨⟨rs, pl.toNat, py, s0.toNat, s1.toNat, po.toNat⟩, ?_, ?_⟩
        · show (st.game.companies ++ [_])[cs.length]? = _
          rw [hcs.1, List.getElem?_append_right (Nat.le_refl _), Nat.sub_self]
          rfl
        · show CoR T H4 cp (rc _)
          rw [erc]
          exact hcp4
  have hin4 := s04 _ _ hin
  refine ⟨da, gp, dx, _, _, rfl, rfl, hin4, .inr ⟨_, _, _, rfl⟩, hgn, Gn, fun H5 pa2 kp hpa hD => ?_⟩
  have im5 : Im T H4 H5 := fun b u su hb => kp b u hb (ne_of hb hin4 (by intro z; subst z; exact su rfl))
  refine ⟨_, rfl, rd_companies (im5.gaR (s04.im.gaR hgr)) fun co5 hco5 => ⟨co5, _, rfl, .inr hco5, szn 1 rfl, fun p hp => ?_⟩⟩
  refine q p _ pa2 ((kept_begin s04 hin4 kp hpa).trans (same_new hp _).kept) ((hD (n + 1)).same (same_new hp _)) ?_ (by show 1 ≤ 100; decide) ((kept_begin s04 hin4 kp hpa).fr hp)
  rw [upd_same, nl]
  all_goals rfl
end
end ST
set_option Elab.async false
set_option linter.all false
set_option maxRecDepth 100000
namespace ST
open PySem PySem.Spec PyProof.Rows L2 NKey
theorem asks_2 {st : Vbsgaj.State} {k : Int} {f : Nat → Vbsgaj.Answer} (h : Vbsgaj.within k 0 2 = false) : Vbsgaj.asks st k f = (st, [-2]) := if_pos h
theorem asks_7 {st : Vbsgaj.State} {k : Int} {f : Nat → Vbsgaj.Answer} (h : Vbsgaj.within k 0 2 = true) (h2 : Vbsgaj.few st.game = false) : Vbsgaj.asks st k f = (st, [-7]) := by
  unfold Vbsgaj.asks Vbsgaj.kindFits
  rw [if_neg (by rw [h]; decide), if_pos h2]
theorem asks_ok {st : Vbsgaj.State} {k : Int} {f : Nat → Vbsgaj.Answer} (h : Vbsgaj.within k 0 2 = true) (h2 : Vbsgaj.few st.game = true) : Vbsgaj.asks st k f = (st, f k.toNat) := by
  unfold Vbsgaj.asks Vbsgaj.kindFits
  rw [if_neg (by rw [h]; decide), if_neg (by rw [h2]; decide)]
theorem wi_kind {k : Int} (h : Vbsgaj.within k 0 2 = true) : k = ((k.toNat : Nat) : Int) ∧ k.toNat < 3 := by
  have := of_decide_eq_true (show decide (0 ≤ k ∧ k ≤ 2) = true from h)
  omega
theorem wi_pl {k : Int} (h : Vbsgaj.within k 0 1 = true) : k = ((k.toNat : Nat) : Int) ∧ k.toNat < 2 := by
  have := of_decide_eq_true (show decide (0 ≤ k ∧ k ≤ 1) = true from h)
  omega
theorem room_for {kvs : KN} {g : Vbsgaj.Game} {n : Nat} (G : VG g) (hf : Vbsgaj.few g = true) (h : kvs.length ≤ 25000 * n) (hn : n < 400) : kvs.length + cost kvs g < sizeLine ∧ kvs.length + cost kvs g ≤ 25000 * (n + 1) := by
  have h1 := cost_le kvs g
  have h2 := few_cnt G hf
  have h3 : (10000000 : Nat) < sizeLine := by decide
  constructor <;> omega
theorem vg_turn {g : Vbsgaj.Game} (G : VG g) : VG { g with turn := 1 - g.turn } := ⟨G.ma, G.mb, by show 1 - g.turn = 0 ∨ 1 - g.turn = 1; rcases G.tu with e | e <;> omega, G.le, G.nc, G.co⟩
section
variable {P : Program} {w : World} {K : PySem.W.Frag} {mg : Str → Option Value} {base : Heap}
/-- a refusal, or on -/
theorem refused {T : Tx K mg} {H : Hp} {da pa : Addr} {st : Vbsgaj.State} {n : Nat} {k : Int} {c : Vbsgaj.Call} {f : Nat → Vbsgaj.Answer} {Q : VK} (q : Done T H da st pa n c Q) (ec : Vbsgaj.step st c = Vbsgaj.asks st k f) (D : DeskAt T H da st pa (n + 1)) {p : Addr} {H1 : Hp} (s1 : Same H H1) (hf0 : H p = none)
    (hp : H1 p = some (.lst ((refu (Vbsgaj.within k 0 2) st.game).map V.int))) (h : refu (Vbsgaj.within k 0 2) st.game ≠ []) : Q (.ref p) H1 := by
  unfold Done at q
  rw [ec] at q
  unfold refu at hp h
  cases hw : Vbsgaj.within k 0 2 with
  | false =>
    rw [asks_2 hw] at q
    rw [if_pos hw] at hp
    exact q p H1 pa s1.kept (D.same s1) hp (by show 1 ≤ 100; decide) (Fr.new hf0)
  | true =>
    rw [if_neg (by rw [hw]; decide)] at hp h
    cases hf : Vbsgaj.few st.game with
    | false =>
      rw [asks_7 hw hf] at q
      rw [if_pos hf] at hp
      exact q p H1 pa s1.kept (D.same s1) hp (by show 1 ≤ 100; decide) (Fr.new hf0)
    | true =>
      rw [if_neg (by rw [hf]; decide)] at h
      exact absurd rfl h
theorem passed {b : Bool} {g : Vbsgaj.Game} (h : refu b g = []) : b = true ∧ Vbsgaj.few g = true := by
  unfold refu at h
  cases b with
  | false => rw [if_pos rfl] at h; cases h
  | true =>
    rw [if_neg (by decide)] at h
    cases hf : Vbsgaj.few g with
    | false => rw [if_pos hf] at h; cases h
    | true => exact ⟨rfl, rfl⟩
theorem e_goals (k : Int) : (if (false : Bool) = true then !inV (.int k) [.int 0, .int 1, .int 2] else inV (.int k) [.int 0, .int 1, .int 2]) = Vbsgaj.within k 0 2 := by rw [if_neg Bool.false_ne_true, in012]
theorem e_goalsN (k : Int) : (if (true : Bool) = true then !inV (.int k) [.int 0, .int 1, .int 2] else inV (.int k) [.int 0, .int 1, .int 2]) = !Vbsgaj.within k 0 2 := by rw [if_pos rfl, in012]
theorem e_players (k : Int) : (if (false : Bool) = true then !inV (.int k) [.int 0, .int 1] else inV (.int k) [.int 0, .int 1]) = Vbsgaj.within k 0 1 := by rw [if_neg Bool.false_ne_true, in01]
theorem len_pos {l : List Int} {A B : Prop} (h1 : l ≠ [] → A) (h2 : l = [] → B) : if decide ((0 : Int) < (((l.map V.int).length : Nat) : Int)) = true then A else B := by
  cases l with
  | nil => rw [if_neg (by decide)]; exact h2 rfl
  | cons a r => rw [if_pos (by simp)]; exact h1 (by simp)
theorem sc_tell_value : FnScope ["desk", "numbers", "row", "goal", "refusal"] ["desk", "numbers", "row"] (defScope s_tell_value) := ⟨rfl, rfl, rfl, by decide +kernel, rfl, by decide +kernel, by decide +kernel⟩
theorem c_tell_value (T : Tx K mg) : Cal P w K mg base 25 "tell_value" ["desk", "numbers", "row"] (sp3 (q_deed T fun ns _ c => ∃ k, ns = [k] ∧ c = .value k)) := by
  refine T.F_tell_value.cal (k := 24) sc_tell_value sp3_len fun f cdv A outer s H vs Q E hr h => ?_
  obtain ⟨_, _, _, rfl, da, nu, ro, st, pa, n, ns, rs, c, rfl, rfl, rfl, ⟨k, rfl, rfl⟩, ⟨ga, sl, pas, sf, df, kv, R⟩, hn, hnu, hro, hrl, q⟩ := h
  have nd := sc_tell_value.nd
  refine ⟨_, pss_cons (ps_set (i := 3) nd rfl (Or.inl rfl) (pe_ix ix_list (pv 1) pe_int (fun _ _ => rfl)))
    (pss_cons (ps_set (i := 4) nd rfl (Or.inl rfl) (pe_c2 (c_search_refusal T) (hr.mono (by decide)) (pe_cmpR op_in_seq (pv 3) (pe_gr T.m_GOALS) rfl) (pe_fld (pv 0) rfl)))
    (pss_cons (ps_if (pt_cmpR op_gt (pe_callB call_len_seq rfl T.b_len PySem.boot_len (pa_cons (pv 4) pa_nil)) pe_int (nomark _)) (pss_one (ps_ret (pv 4))) pss_nil)
    (pss_one (ps_ret (pe_lst (pa_cons (pe_m2 (c_value T) hr T.clCS (pe_ix ix_list (pe_fld (pv 0) rfl) (pv 3) (fun _ _ => rfl)) (pe_fld (pv 0) rfl)) pa_nil)))))), ?_⟩
  have G := R.ok
  refine ⟨_, rfl, nu, _, _, _, rfl, rfl, SqL.of hnu, rfl, ?_⟩
  refine ⟨_, rfl, T.aGOALS, _, rfl, .inr T.t_GOALS.sq, rfl, rfl, ?_⟩
  rw [e_goals]
  refine ⟨_, rfl, rd_game R ⟨_, ga, st.game, rfl, rfl, R.game, G, fun rl H1 s1 hf0 hrf => ?_⟩⟩
  refine ⟨_, rfl, rl, _, rfl, .inl (SqL.of hrf), _, _, rfl, rfl, _, rfl, len_pos (fun hne => ⟨_, rfl, refused (f := fun k => [Vbsgaj.valueOf k st.game]) q rfl R.later.at s1 hf0 hrf hne⟩) (fun hnil => ?_)⟩
  obtain ⟨hw, hf⟩ := passed hnil
  obtain ⟨ek, hk⟩ := wi_kind hw
  have R1 := R.same s1
  have M := R1.memo k.toNat hk
  obtain ⟨dx, hin⟩ := M.ins
  obtain ⟨z1, z2⟩ := room_for G hf (R.size _ hk) hn
  refine ⟨_, rfl, rd_searches R1 ⟨_, rfl, sl, _, _, _, rfl, rfl, SqL.of R1.slst, by rw [ek]; exact at_three hk, sf k.toNat, dx, _, rfl, hin, (no_meth _ _).1, _, rfl, rd_game R1 ⟨_, ga, k.toNat, _, _, _, st.game, rfl, rfl, M, by omega, R1.game, G, rfl, by have := G.le; omega, z1, fun H2 kvs2 b2 M2 gr2 hl2 hh2 => ?_⟩⟩⟩
  refine ⟨szn 1 rfl, fun p hp => ?_⟩
  have R2 := R1.but hk b2 M2 (by omega)
  unfold Done at q
  rw [show Vbsgaj.step st (.value k) = Vbsgaj.asks st k (fun k => [Vbsgaj.valueOf k st.game]) from rfl, asks_ok hw hf] at q
  exact q p _ pa (s1.kept.trans ((b2.kept M.dic).trans (same_new hp _).kept)) (R2.same (same_new hp _)).at upd_same (by show 1 ≤ 100; decide) ((s1.kept.trans (b2.kept M.dic)).fr hp)
theorem sc_tell_tempo : FnScope ["desk", "numbers", "row", "goal", "refusal"] ["desk", "numbers", "row"] (defScope s_tell_tempo) := ⟨rfl, rfl, rfl, by decide +kernel, rfl, by decide +kernel, by decide +kernel⟩
theorem c_tell_tempo (T : Tx K mg) : Cal P w K mg base 25 "tell_tempo" ["desk", "numbers", "row"] (sp3 (q_deed T fun ns _ c => ∃ k, ns = [k] ∧ c = .tempo k)) := by
  refine T.F_tell_tempo.cal (k := 24) sc_tell_tempo sp3_len fun f cdv A outer s H vs Q E hr h => ?_
  obtain ⟨_, _, _, rfl, da, nu, ro, st, pa, n, ns, rs, c, rfl, rfl, rfl, ⟨k, rfl, rfl⟩, ⟨ga, sl, pas, sf, df, kv, R⟩, hn, hnu, hro, hrl, q⟩ := h
  have nd := sc_tell_tempo.nd
  refine ⟨_, pss_cons (ps_set (i := 3) nd rfl (Or.inl rfl) (pe_ix ix_list (pv 1) pe_int (fun _ _ => rfl)))
    (pss_cons (ps_set (i := 4) nd rfl (Or.inl rfl) (pe_c2 (c_search_refusal T) (hr.mono (by decide)) (pe_cmpR op_in_seq (pv 3) (pe_gr T.m_GOALS) rfl) (pe_fld (pv 0) rfl)))
    (pss_cons (ps_if (pt_cmpR op_gt (pe_callB call_len_seq rfl T.b_len PySem.boot_len (pa_cons (pv 4) pa_nil)) pe_int (nomark _)) (pss_one (ps_ret (pv 4))) pss_nil)
    (pss_one (ps_ret (pe_lst (pa_cons (pe_m2 (c_value T) hr T.clCS (pe_ix ix_list (pe_fld (pv 0) rfl) (pv 3) (fun _ _ => rfl)) (pe_c1 (c_with_other_turn T) (hr.mono (by decide)) (pe_fld (pv 0) rfl))) pa_nil)))))), ?_⟩
  have G := R.ok
  refine ⟨_, rfl, nu, _, _, _, rfl, rfl, SqL.of hnu, rfl, ?_⟩
  refine ⟨_, rfl, T.aGOALS, _, rfl, .inr T.t_GOALS.sq, rfl, rfl, ?_⟩
  rw [e_goals]
  refine ⟨_, rfl, rd_game R ⟨_, ga, st.game, rfl, rfl, R.game, G, fun rl H1 s1 hf0 hrf => ?_⟩⟩
  refine ⟨_, rfl, rl, _, rfl, .inl (SqL.of hrf), _, _, rfl, rfl, _, rfl, len_pos (fun hne => ⟨_, rfl, refused (f := fun k => [Vbsgaj.valueOf k { st.game with turn := 1 - st.game.turn }]) q rfl R.later.at s1 hf0 hrf hne⟩) (fun hnil => ?_)⟩
  obtain ⟨hw, hf⟩ := passed hnil
  obtain ⟨ek, hk⟩ := wi_kind hw
  have R1 := R.same s1
  have M0 := R1.memo k.toNat hk
  obtain ⟨dx, hin⟩ := M0.ins
  refine ⟨_, rfl, rd_searches R1 ⟨_, rfl, sl, _, _, _, rfl, rfl, SqL.of R1.slst, by rw [ek]; exact at_three hk, sf k.toNat, dx, _, rfl, hin, (no_meth _ _).1, _, rfl, rd_game R1 ⟨ga, st.game, rfl, R1.game, G, fun gp Hg sg hgp => ?_⟩⟩⟩
  have R1 := R1.same sg
  have M := R1.memo k.toNat hk
  obtain ⟨z1, z2⟩ := room_for (g := { st.game with turn := 1 - st.game.turn }) (vg_turn G) hf (R.size _ hk) hn
  refine ⟨_, gp, k.toNat, _, _, _, _, rfl, rfl, M, by omega, hgp, vg_turn G, rfl, by have := G.le; show st.game.left < 9; omega, z1, fun H2 kvs2 b2 M2 gr2 hl2 hh2 => ?_⟩
  refine ⟨szn 1 rfl, fun p hp => ?_⟩
  have R2 := R1.but hk b2 M2 (Nat.le_trans hl2 z2)
  unfold Done at q
  rw [show Vbsgaj.step st (.tempo k) = Vbsgaj.asks st k (fun k => [Vbsgaj.valueOf k { st.game with turn := 1 - st.game.turn }]) from rfl, asks_ok hw hf] at q
  exact q p _ pa ((s1.trans sg).kept.trans ((b2.kept M.dic).trans (same_new hp _).kept)) (R2.same (same_new hp _)).at upd_same (by show 1 ≤ 100; decide) (((s1.trans sg).kept.trans (b2.kept M.dic)).fr hp)
theorem sc_tell_best : FnScope ["desk", "numbers", "row", "goal", "search"] ["desk", "numbers", "row"] (defScope s_tell_best) := ⟨rfl, rfl, rfl, by decide +kernel, rfl, by decide +kernel, by decide +kernel⟩
theorem c_tell_best (T : Tx K mg) : Cal P w K mg base 26 "tell_best" ["desk", "numbers", "row"] (sp3 (q_deed T fun ns _ c => ∃ k, ns = [k] ∧ c = .best k)) := by
  refine T.F_tell_best.cal (k := 25) sc_tell_best sp3_len fun f cdv A outer s H vs Q E hr h => ?_
  obtain ⟨_, _, _, rfl, da, nu, ro, st, pa, n, ns, rs, c, rfl, rfl, rfl, ⟨k, rfl, rfl⟩, ⟨ga, sl, pas, sf, df, kv, R⟩, hn, hnu, hro, hrl, q⟩ := h
  have nd := sc_tell_best.nd
  refine ⟨_, pss_cons (ps_set (i := 3) nd rfl (Or.inl rfl) (pe_ix ix_list (pv 1) pe_int (fun _ _ => rfl)))
    (pss_cons (ps_if (pt_cmpR op_notIn_seq (pv 3) (pe_gr T.m_GOALS) rfl) (pss_one (ps_ret (pe_lst (pa_cons (pe_gi T.i_WRONG_NUMBER) pa_nil)))) pss_nil)
    (pss_cons (ps_if (pt_cmpR op_eq (pe_fld (pe_fld (pv 0) rfl) rfl) pe_int (nomark _)) (pss_one (ps_ret (pe_lst (pa_cons (pe_gi T.i_NO_TURNS) pa_nil)))) pss_nil)
    (pss_cons (ps_if (pt_val (pe_c1 (c_too_many_positions T) (hr.mono (by decide)) (pe_fld (pv 0) rfl))) (pss_one (ps_ret (pe_lst (pa_cons (pe_gi T.i_TOO_MANY_POSITIONS) pa_nil)))) pss_nil)
    (pss_cons (ps_set (i := 4) nd rfl (Or.inl rfl) (pe_ix ix_list (pe_fld (pv 0) rfl) (pv 3) (fun _ _ => rfl)))
    (pss_one (ps_ret (pe_lst (pa_cons (pe_m2 (c_best_order T) hr T.clCS (pv 4) (pe_fld (pv 0) rfl)) (pa_cons (pe_m2 (c_value T) (hr.mono (by decide)) T.clCS (pv 4) (pe_fld (pv 0) rfl)) pa_nil))))))))), ?_⟩
  have G := R.ok
  have hg' := R.game
  obtain ⟨cs, hgr, hcs⟩ := hg'
  have put : ∀ (m : Int), Vbsgaj.step st (.best k) = (st, [m]) → ∀ p, H p = none → Q (.ref p) (upd H p (.lst [.int m])) := fun m es p hp => by
    unfold Done at q
    rw [es] at q
    exact q p _ pa (same_new hp _).kept (R.same (same_new hp _)).later.at upd_same (by show 1 ≤ 100; decide) (Fr.new hp)
  refine ⟨_, rfl, nu, _, _, _, rfl, rfl, SqL.of hnu, rfl, ?_⟩
  refine ⟨_, rfl, T.aGOALS, _, rfl, .inr T.t_GOALS.sq, rfl, rfl, _, rfl, ?_⟩
  rw [e_goalsN]
  cases hw : Vbsgaj.within k 0 2 with
  | false =>
    refine iteT ⟨szn 1 rfl, put (-2) ?_⟩
    show (if st.game.left = 0 then (st, [if Vbsgaj.kindFits k = true then (-5 : Int) else -2]) else Vbsgaj.asks st k _) = _
    rw [show Vbsgaj.kindFits k = false from hw, asks_2 hw]
    split <;> rfl
  | true =>
    refine iteF ?_
    refine ⟨_, rfl, rd_game R (rd_left hgr ⟨rfl, _, rfl, itI (fun e0 => ?_) (fun e0 => ?_)⟩)⟩
    · have e0 : st.game.left = 0 := by omega
      refine ⟨szn 1 rfl, put (-5) ?_⟩
      show (if st.game.left = 0 then (st, [if Vbsgaj.kindFits k = true then (-5 : Int) else -2]) else Vbsgaj.asks st k _) = _
      rw [if_pos e0, show Vbsgaj.kindFits k = true from hw, if_pos rfl]
    have e0 : 0 < st.game.left := by omega
    have es : Vbsgaj.step st (.best k) = Vbsgaj.asks st k fun k => [(Vbsgaj.bestOrder k st.game : Int), Vbsgaj.valueOf k st.game] := if_neg (by omega)
    refine ⟨_, rfl, rd_game R ⟨ga, st.game, rfl, R.game, G, _, rfl, ?_⟩⟩
    cases hf : Vbsgaj.few st.game with
    | false => exact iteT ⟨szn 1 rfl, put (-7) (by rw [es, asks_7 hw hf])⟩
    | true =>
      refine iteF ?_
      obtain ⟨ek, hk⟩ := wi_kind hw
      have M := R.memo k.toNat hk
      obtain ⟨dx, hin⟩ := M.ins
      obtain ⟨z1, z2⟩ := room_for G hf (R.size _ hk) hn
      refine ⟨_, rfl, rd_searches R ⟨_, rfl, sl, _, _, _, rfl, rfl, SqL.of R.slst, by rw [ek]; exact at_three hk, ?_⟩⟩
      refine ⟨_, rfl, sf k.toNat, dx, _, rfl, hin, (no_meth _ _).2.2, _, rfl, rd_game R ⟨_, ga, k.toNat, _, _, _, st.game, rfl, rfl, M, by omega, R.game, G, rfl, e0, z1, fun H2 kvs2 b2 M2 gr2 hl2 hh2 => ?_⟩⟩
      have R2 := R.but hk b2 M2 (by omega)
      obtain ⟨dx2, hin2⟩ := M2.ins
      have hc0 := cost_has hh2
      refine ⟨_, rfl, sf k.toNat, dx2, _, rfl, hin2, (no_meth _ _).1, _, rfl, rd_game R2 ⟨_, ga, k.toNat, _, _, _, st.game, rfl, rfl, M2, by omega, R2.game, G, rfl, by have := G.le; omega, by omega, fun H3 kvs3 b3 M3 gr3 hl3 hh3 => ?_⟩⟩
      have R3 := R.but hk (b2.trans b3) M3 (by omega)
      refine ⟨szn 2 rfl, fun p hp => ?_⟩
      unfold Done at q
      rw [es, asks_ok hw hf] at q
      exact q p _ pa (((b2.trans b3).kept M.dic).trans (same_new hp _).kept) (R3.same (same_new hp _)).at upd_same (by show 2 ≤ 100; decide) (((b2.trans b3).kept M.dic).fr hp)
end
end ST
set_option Elab.async false
set_option linter.all false
set_option maxRecDepth 100000
namespace ST
open PySem PySem.Spec PyProof.Rows L2 NKey
section
variable {P : Program} {w : World} {K : PySem.W.Frag} {mg : Str → Option Value} {base : Heap}
theorem sc_tell_values : FnScope ["desk", "numbers", "row", "goal", "refusal", "given", "found", "order"] ["desk", "numbers", "row"] (defScope s_tell_values) := ⟨rfl, rfl, rfl, by decide +kernel, rfl, by decide +kernel, by decide +kernel⟩
def twoV (k : Nat) (g : Vbsgaj.Game) (os : List Nat) : List Int := os.flatMap fun (o : Nat) => [(o : Int), Vbsgaj.valueOf k (Vbsgaj.played g o)]
theorem twoV_len (k : Nat) (g : Vbsgaj.Game) : ∀ os : List Nat, (twoV k g os).length = 2 * os.length
  | [] => rfl
  | o :: r => by
    show (twoV k g r).length + 1 + 1 = _
    rw [twoV_len k g r, List.length_cons]
    omega
theorem c_tell_values (T : Tx K mg) : Cal P w K mg base 25 "tell_values" ["desk", "numbers", "row"] (sp3 (q_deed T fun ns _ c => ∃ k, ns = [k] ∧ c = .values k)) := by
  refine T.F_tell_values.cal (k := 24) sc_tell_values sp3_len fun f cdv A outer s H vs Q E hr h => ?_
  obtain ⟨_, _, _, rfl, da, nu, ro, st, pa, n, ns, rs, c, rfl, rfl, rfl, ⟨k, rfl, rfl⟩, ⟨ga, sl, pas, sf, df, kv, R⟩, hn, hnu, hro, hrl, q⟩ := h
  have nd := sc_tell_values.nd
  refine ⟨_, pss_cons (ps_set (i := 3) nd rfl (Or.inl rfl) (pe_ix ix_list (pv 1) pe_int (fun _ _ => rfl)))
    (pss_cons (ps_set (i := 4) nd rfl (Or.inl rfl) (pe_c2 (c_search_refusal T) (hr.mono (by decide)) (pe_cmpR op_in_seq (pv 3) (pe_gr T.m_GOALS) rfl) (pe_fld (pv 0) rfl)))
    (pss_cons (ps_if (pt_cmpR op_gt (pe_callB call_len_seq rfl T.b_len PySem.boot_len (pa_cons (pv 4) pa_nil)) pe_int (nomark _)) (pss_one (ps_ret (pv 4))) pss_nil)
    (pss_cons (ps_set (i := 5) nd rfl (Or.inl rfl) (pe_c1 (c_orders_of T) (hr.mono (by decide)) (pe_fld (pv 0) rfl)))
    (pss_cons (ps_set (i := 6) nd rfl (Or.inl rfl) (pe_lst (pa_cons (pe_callB call_len_seq rfl T.b_len PySem.boot_len (pa_cons (pv 5) pa_nil)) pa_nil)))
    (pss_cons (ps_for PassesOwn.never rfl (pi_list (pv 5)) (pg_name (i := 7) nd rfl (Or.inl rfl))
      (pss_one (ps_expr (pe_bm PySem.F.plainAttrs_list PySem.F.slot_list_extend PySem.F.type_list_extend mt_extend (pv 6) (pa_cons (pe_lst (pa_cons (pv 7) (pa_cons (pe_m2 (c_value T) hr T.clCS (pe_ix ix_list (pe_fld (pv 0) rfl) (pv 3) (fun _ _ => rfl)) (pe_c2 (c_game_behind T) (hr.mono (by decide)) (pe_fld (pv 0) rfl) (pv 7))) pa_nil))) pa_nil)))))
    (pss_one (ps_ret (pv 6)))))))), ?_⟩
  have G := R.ok
  refine ⟨_, rfl, nu, _, _, _, rfl, rfl, SqL.of hnu, rfl, ?_⟩
  refine ⟨_, rfl, T.aGOALS, _, rfl, .inr T.t_GOALS.sq, rfl, rfl, ?_⟩
  rw [e_goals]
  refine ⟨_, rfl, rd_game R ⟨_, ga, st.game, rfl, rfl, R.game, G, fun rl H1 s1 hf0 hrf => ?_⟩⟩
  refine ⟨_, rfl, rl, _, rfl, .inl (SqL.of hrf), _, _, rfl, rfl, _, rfl, len_pos (fun hne => ⟨_, rfl, refused (f := fun k => Vbsgaj.counted (fun (o : Nat) => [(o : Int), Vbsgaj.value k (st.game.left - 1) (Vbsgaj.played st.game o)]) (if st.game.left = 0 then [] else Vbsgaj.orders st.game)) q rfl R.later.at s1 hf0 hrf hne⟩) (fun hnil => ?_)⟩
  obtain ⟨hw, hf⟩ := passed hnil
  obtain ⟨ek, hk⟩ := wi_kind hw
  have R1 := R.same s1
  have hol13 := ordL_len G
  have nl : (nV (ordL st.game)).length = (ordL st.game).length := List.length_map _
  refine ⟨_, rfl, rd_game R1 ⟨ga, st.game, rfl, R1.game, G, fun ol H2 s2 hol => ?_⟩⟩
  refine ⟨_, rfl, ol, _, rfl, .inl (SqL.of hol), szn 1 rfl, fun fp hfp => ?_⟩
  rw [nl]
  have s3 := same_new hfp (.lst [.int ((ordL st.game).length : Nat)])
  have s03 := s1.trans (s2.trans s3)
  have R3 := R.same s03
  have M3 := R3.memo k.toNat hk
  have nfo : fp ≠ ol := (ne_of_none hol hfp).symm
  have hbig : (kv k.toNat).length + (4 * st.game.companies.length + 1) * cnt (4 * st.game.companies.length + 1) (st.game.left - 1) ≤ 25000 * (n + 1) := by
    have h1 := R.size _ hk
    have h2 := few_cnt G hf
    cases hl : st.game.left with
    | zero =>
      show _ + _ * 0 ≤ _
      omega
    | succ t =>
      rw [hl] at h2
      have h2 : (4 * st.game.companies.length + 1) * cnt (4 * st.game.companies.length + 1) t + 1 ≤ 25000 := h2
      show _ + (4 * st.game.companies.length + 1) * cnt (4 * st.game.companies.length + 1) t ≤ _
      omega
  have hsz : (10000000 : Nat) < sizeLine := by decide
  refine ⟨_, rfl, ol, rfl, ⟨_, SqL.of (s3 _ _ hol)⟩, for_list (K := K) (a := ol) (xs := nV (ordL st.game))
    (fun i σ H' => ∃ v7 kvs', σ = [some (.ref da), some (.ref nu), some (.ref ro), some (.int k), some (.ref rl), some (.ref ol), some (.ref fp), v7] ∧ But (df k.toNat) H2 H' ∧ MemoAt T H' (sf k.toNat) k.toNat (df k.toNat) (shape st.game) kvs' ∧
      kvs'.length ≤ (kv k.toNat).length + i * cnt (4 * st.game.companies.length + 1) (st.game.left - 1) ∧ H' fp = some (.lst ((((ordL st.game).length : Int) :: twoV k.toNat st.game ((ordL st.game).take i)).map V.int)))
    ⟨none, kv k.toNat, rfl, s3.but, M3, by omega, upd_same⟩ (fun i σ H' _ ⟨_, _, _, b, M, _⟩ => SqL.of (b _ _ hol (ne_of hol (R1.same s2 |>.memo k.toNat hk).dic (by intro z; cases z)))) ?_ ?_⟩
  · rintro i y σ H' hy ⟨v7, kvs', rfl, b, M, hl, hfl⟩
    obtain ⟨o, ho, rfl⟩ := nat_of hy
    have e0 : 0 < st.game.left := by
      by_cases z : st.game.left = 0
      · unfold ordL at ho
        rw [if_pos z] at ho
        simp at ho
      · omega
    rw [ordL_pos e0] at ho hol13
    have hm := may_take ho
    have hi : i < (Vbsgaj.orders st.game).length := (List.getElem?_eq_some_iff.mp ho).1
    have hol2 := orders_len st.game
    have hd2 := ((R1.same s2).memo k.toNat hk).dic
    have im : Im T H2 H' := b.im hd2
    have RH : ∀ {Q : V → Prop}, Q (.ref ga) → RdF K H' da "game" Q := fun {Q} qq => by
      obtain ⟨dx0, h0⟩ := (R1.same s2).ins
      exact ⟨da, T.CD, dx0, _, _, rfl, b _ _ h0 (ne_of h0 hd2 (by intro z; cases z)), T.clCD, T.n_game, lk_game _ _ _, qq⟩
    have RS : ∀ {Q : V → Prop}, Q (.ref sl) → RdF K H' da "searches" Q := fun {Q} qq => by
      obtain ⟨dx0, h0⟩ := (R1.same s2).ins
      exact ⟨da, T.CD, dx0, _, _, rfl, b _ _ h0 (ne_of h0 hd2 (by intro z; cases z)), T.clCD, T.n_searches, lk_searches _ _ _, qq⟩
    have hsl : H' sl = _ := b _ _ (R1.same s2).slst (ne_of (R1.same s2).slst hd2 (by intro z; cases z))
    have hga : Ga T H' ga st.game := im.ga (R1.same s2).game
    obtain ⟨dx, hin⟩ := M.ins
    refine ⟨_, rfl, .inl ⟨rfl, _, SqL.of hfl⟩, _, rfl, _, rfl, RS ⟨_, rfl, sl, _, _, _, rfl, rfl, SqL.of hsl, by rw [ek]; exact at_three hk, sf k.toNat, dx, _, rfl, hin, (no_meth _ _).1, _, rfl, RH ⟨_, rfl, ga, st.game, o, rfl, rfl, hga, G, hm, e0, fun p4 H4 s4 h4 => ?_⟩⟩⟩
    have hcost : cost kvs' (Vbsgaj.played st.game o) ≤ cnt (4 * st.game.companies.length + 1) (st.game.left - 1) := by
      have := cost_le kvs' (Vbsgaj.played st.game o)
      rw [played_len, played_left] at this
      exact this
    have hmul : (i + 1) * cnt (4 * st.game.companies.length + 1) (st.game.left - 1) ≤ (4 * st.game.companies.length + 1) * cnt (4 * st.game.companies.length + 1) (st.game.left - 1) := Nat.mul_le_mul_right _ (by omega)
    rw [Nat.add_mul, Nat.one_mul] at hmul
    refine ⟨_, p4, k.toNat, _, _, kvs', Vbsgaj.played st.game o, rfl, rfl, M.same s4, by omega, h4, G.played hm, played_shape _ _, by rw [played_left]; have := G.le; omega, by omega, fun H5 kvs5 b5 M5 gr5 hl5 hh5 => ?_⟩
    have hfl5 := b5 _ _ (s4 _ _ hfl) (ne_of (s4 _ _ hfl) (s4 _ _ M.dic) (by intro z; cases z))
    refine ⟨szn 2 rfl, fun t ht => ?_⟩
    have s6 := same_new ht (.lst [.int (o : Nat), .int (Vbsgaj.valueOf k.toNat (Vbsgaj.played st.game o))])
    have hfl6 := s6 _ _ hfl5
    refine ⟨fp, t, _, _, rfl, rfl, hfl6, upd_same, ?_, ?_⟩
    · rw [List.length_map, List.length_cons, twoV_len, List.length_take]
      show _ + 2 ≤ sizeLine
      omega
    · refine ⟨_, kvs5, rfl, ?_, (M5.same s6).updL hfl6, ?_, ?_⟩
      · intro c u hc nc
        rw [upd_ne (ne_of_none hc hfp)]
        exact s6 _ _ (b5 _ _ (s4 _ _ (b _ _ hc nc)) nc)
      · rw [Nat.add_mul, Nat.one_mul]
        omega
      · rw [upd_same, ordL_pos e0, List.take_add_one, ho]
        show _ = some (HO.lst ((_ :: twoV k.toNat st.game (_ ++ [o])).map V.int))
        unfold twoV
        simp [List.flatMap_append]
  · rintro σ H' ⟨v7, kvs', rfl, b, M, hl, hfl⟩
    rw [nl] at hl hfl
    rw [List.take_length] at hfl
    refine ⟨_, rfl, ?_⟩
    unfold Done at q
    rw [show Vbsgaj.step st (.values k) = Vbsgaj.asks st k (fun k => Vbsgaj.counted (fun (o : Nat) => [(o : Int), Vbsgaj.value k (st.game.left - 1) (Vbsgaj.played st.game o)]) (ordL st.game)) from rfl, asks_ok hw hf] at q
    have ec : Vbsgaj.counted (fun (o : Nat) => [(o : Int), Vbsgaj.value k.toNat (st.game.left - 1) (Vbsgaj.played st.game o)]) (ordL st.game) = ((ordL st.game).length : Int) :: twoV k.toNat st.game (ordL st.game) := by
      unfold Vbsgaj.counted twoV
      congr 2
    rw [ec] at q
    have R2 := R1.same s2
    have hd2 := (R2.memo k.toNat hk).dic
    have hlen : kvs'.length ≤ 25000 * (n + 1) := by
      by_cases z : st.game.left = 0
      · have : (ordL st.game).length = 0 := by unfold ordL; rw [if_pos z]; rfl
        rw [this] at hl
        have := R.size _ hk
        omega
      · have h1 := orders_len st.game
        rw [← ordL_pos (by omega)] at h1
        have := Nat.mul_le_mul_right (cnt (4 * st.game.companies.length + 1) (st.game.left - 1)) h1
        omega
    refine q fp H' pa ((s1.trans s2).kept.trans (b.kept hd2)) (R2.but hk b M hlen).at hfl ?_ ((s1.trans s2).kept.fr hfp)
    show (((ordL st.game).length : Int) :: twoV k.toNat st.game (ordL st.game)).length ≤ 100
    rw [List.length_cons, twoV_len]
    omega
theorem sc_tell_line : FnScope ["desk", "numbers", "row", "goal", "refusal"] ["desk", "numbers", "row"] (defScope s_tell_line) := ⟨rfl, rfl, rfl, by decide +kernel, rfl, by decide +kernel, by decide +kernel⟩
theorem told_len (os : List Nat) (x y : Int) : (Vbsgaj.counted Vbsgaj.one os ++ [x, y]).length = os.length + 3 := by
  have := congrArg List.length (counted_one os)
  rw [List.length_map, List.length_cons, List.length_map] at this
  rw [List.length_append, this]
  rfl
theorem c_tell_line (T : Tx K mg) : Cal P w K mg base 27 "tell_line" ["desk", "numbers", "row"] (sp3 (q_deed T fun ns _ c => ∃ k, ns = [k] ∧ c = .line k)) := by
  refine T.F_tell_line.cal (k := 26) sc_tell_line sp3_len fun f cdv A outer s H vs Q E hr h => ?_
  obtain ⟨_, _, _, rfl, da, nu, ro, st, pa, n, ns, rs, c, rfl, rfl, rfl, ⟨k, rfl, rfl⟩, ⟨ga, sl, pas, sf, df, kv, R⟩, hn, hnu, hro, hrl, q⟩ := h
  have nd := sc_tell_line.nd
  refine ⟨_, pss_cons (ps_set (i := 3) nd rfl (Or.inl rfl) (pe_ix ix_list (pv 1) pe_int (fun _ _ => rfl)))
    (pss_cons (ps_set (i := 4) nd rfl (Or.inl rfl) (pe_c2 (c_search_refusal T) (hr.mono (by decide)) (pe_cmpR op_in_seq (pv 3) (pe_gr T.m_GOALS) rfl) (pe_fld (pv 0) rfl)))
    (pss_cons (ps_if (pt_cmpR op_gt (pe_callB call_len_seq rfl T.b_len PySem.boot_len (pa_cons (pv 4) pa_nil)) pe_int (nomark _)) (pss_one (ps_ret (pv 4))) pss_nil)
    (pss_one (ps_ret (pe_c2 (c_line_told T) (hr.mono (by decide)) (pe_fld (pv 0) rfl) (pe_c2 (c_best_line T) hr (pe_ix ix_list (pe_fld (pv 0) rfl) (pv 3) (fun _ _ => rfl)) (pe_fld (pv 0) rfl))))))), ?_⟩
  have G := R.ok
  refine ⟨_, rfl, nu, _, _, _, rfl, rfl, SqL.of hnu, rfl, ?_⟩
  refine ⟨_, rfl, T.aGOALS, _, rfl, .inr T.t_GOALS.sq, rfl, rfl, ?_⟩
  rw [e_goals]
  refine ⟨_, rfl, rd_game R ⟨_, ga, st.game, rfl, rfl, R.game, G, fun rl H1 s1 hf0 hrf => ?_⟩⟩
  refine ⟨_, rfl, rl, _, rfl, .inl (SqL.of hrf), _, _, rfl, rfl, _, rfl, len_pos (fun hne => ⟨_, rfl, refused (f := fun k => Vbsgaj.counted Vbsgaj.one (Vbsgaj.lineFrom k st.game.left st.game).1 ++ [Vbsgaj.worth 0 (Vbsgaj.lineFrom k st.game.left st.game).2, Vbsgaj.worth 1 (Vbsgaj.lineFrom k st.game.left st.game).2]) q rfl R.later.at s1 hf0 hrf hne⟩) (fun hnil => ?_)⟩
  obtain ⟨hw, hf⟩ := passed hnil
  obtain ⟨ek, hk⟩ := wi_kind hw
  have R1 := R.same s1
  have M := R1.memo k.toNat hk
  obtain ⟨z1, z2⟩ := room_for G hf (R.size _ hk) hn
  refine ⟨_, rfl, rd_game R1 ⟨_, rfl, rd_searches R1 ⟨_, rfl, sl, _, _, _, rfl, rfl, SqL.of R1.slst, by rw [ek]; exact at_three hk, _, rfl, rd_game R1 ⟨_, ga, k.toNat, _, _, _, st.game, rfl, rfl, M, by omega, R1.game, G, rfl, z1, fun lp H2 kvs2 b2 M2 hl2 hlp => ?_⟩⟩⟩⟩
  have R2 := R1.but hk b2 M2 (by omega)
  obtain ⟨k1, k2, k3⟩ := line_ok k.toNat st.game.left st.game rfl
  have hle := G.le
  refine ⟨ga, lp, st.game, _, rfl, rfl, R2.game, G, hlp, k1, by omega, fun p H3 s3 hf3 hp => ?_⟩
  unfold Done at q
  rw [show Vbsgaj.step st (.line k) = Vbsgaj.asks st k (fun k => Vbsgaj.counted Vbsgaj.one (Vbsgaj.lineFrom k st.game.left st.game).1 ++ [Vbsgaj.worth 0 (Vbsgaj.lineFrom k st.game.left st.game).2, Vbsgaj.worth 1 (Vbsgaj.lineFrom k st.game.left st.game).2]) from rfl, asks_ok hw hf] at q
  rw [k2] at hp
  exact q p H3 pa (s1.kept.trans ((b2.kept M.dic).trans s3.kept)) (R2.same s3).at hp (by rw [told_len]; omega) ((s1.kept.trans (b2.kept M.dic)).fr hf3)
theorem sc_tell_duel : FnScope ["desk", "numbers", "row", "player", "refusal", "given"] ["desk", "numbers", "row"] (defScope s_tell_duel) := ⟨rfl, rfl, rfl, by decide +kernel, rfl, by decide +kernel, by decide +kernel⟩
theorem step_duel (st : Vbsgaj.State) (x : Int) (l : List Int) (hw : Vbsgaj.within x 0 1 = true) (hf : Vbsgaj.few st.game = true) : Vbsgaj.step st (.duel x l) = match duelZ x.toNat st.game.left st.game l with
    | none => (st, [-3])
    | some y => (st, Vbsgaj.counted Vbsgaj.one y.1 ++ [Vbsgaj.worth 0 y.2, Vbsgaj.worth 1 y.2]) := by
  show (if Vbsgaj.within x 0 1 = false then (st, [-2]) else if Vbsgaj.few st.game = false then (st, [-7]) else if (l.all fun o => decide (0 ≤ o)) = false then (st, [-3]) else _) = _
  rw [if_neg (by rw [hw]; decide), if_neg (by rw [hf]; decide)]
  cases ha : (l.all fun o => decide (0 ≤ o)) with
  | false => rw [if_pos rfl, duelZ_neg _ _ _ _ ha]
  | true =>
    rw [if_neg (by decide), duelZ_all _ _ _ _ ha]
    cases Vbsgaj.duel x.toNat st.game.left st.game (l.map Int.toNat) <;> rfl
theorem c_tell_duel (T : Tx K mg) : Cal P w K mg base 27 "tell_duel" ["desk", "numbers", "row"] (sp3 (q_deed T fun ns rs c => ∃ x, ns = [x] ∧ c = .duel x rs)) := by
  refine T.F_tell_duel.cal (k := 26) sc_tell_duel sp3_len fun f cdv A outer s H vs Q E hr h => ?_
  obtain ⟨_, _, _, rfl, da, nu, ro, st, pa, n, ns, rs, c, rfl, rfl, rfl, ⟨k, rfl, rfl⟩, ⟨ga, sl, pas, sf, df, kv, R⟩, hn, hnu, hro, hrl, q⟩ := h
  have nd := sc_tell_duel.nd
  refine ⟨_, pss_cons (ps_set (i := 3) nd rfl (Or.inl rfl) (pe_ix ix_list (pv 1) pe_int (fun _ _ => rfl)))
    (pss_cons (ps_set (i := 4) nd rfl (Or.inl rfl) (pe_c2 (c_search_refusal T) (hr.mono (by decide)) (pe_cmpR op_in_seq (pv 3) (pe_gr T.m_PLAYERS) rfl) (pe_fld (pv 0) rfl)))
    (pss_cons (ps_if (pt_cmpR op_gt (pe_callB call_len_seq rfl T.b_len PySem.boot_len (pa_cons (pv 4) pa_nil)) pe_int (nomark _)) (pss_one (ps_ret (pv 4))) pss_nil)
    (pss_cons (ps_set (i := 5) nd rfl (Or.inl rfl) (pe_c4 (c_duel_line T) hr (pe_ix ix_list (pe_fld (pv 0) rfl) (pv 3) (fun _ _ => rfl)) (pe_fld (pv 0) rfl) (pv 3) (pv 2)))
    (pss_cons (ps_if (pt_cmpR op_isN (pv 5) pe_non (nomark _)) (pss_one (ps_ret (pe_lst (pa_cons (pe_gi T.i_NOT_ALLOWED) pa_nil)))) pss_nil)
    (pss_one (ps_ret (pe_c2 (c_line_told T) (hr.mono (by decide)) (pe_fld (pv 0) rfl) (pv 5)))))))), ?_⟩
  have G := R.ok
  refine ⟨_, rfl, nu, _, _, _, rfl, rfl, SqL.of hnu, rfl, ?_⟩
  refine ⟨_, rfl, T.aPLAYERS, _, rfl, .inr T.t_PLAYERS.sq, rfl, rfl, ?_⟩
  rw [e_players]
  refine ⟨_, rfl, rd_game R ⟨_, ga, st.game, rfl, rfl, R.game, G, fun rl H1 s1 hf0 hrf => ?_⟩⟩
  have R1 := R.same s1
  refine ⟨_, rfl, rl, _, rfl, .inl (SqL.of hrf), _, _, rfl, rfl, _, rfl, len_pos (fun hne => ⟨_, rfl, ?_⟩) (fun hnil => ?_)⟩
  · unfold Done at q
    unfold refu at hrf hne
    cases hw : Vbsgaj.within k 0 1 with
    | false =>
      rw [show Vbsgaj.step st (.duel k rs) = (st, [-2]) from if_pos hw] at q
      rw [if_pos hw] at hrf
      exact q rl H1 pa s1.kept R1.later.at hrf (by show 1 ≤ 100; decide) (Fr.new hf0)
    | true =>
      rw [if_neg (by rw [hw]; decide)] at hrf hne
      cases hf : Vbsgaj.few st.game with
      | false =>
        have es : Vbsgaj.step st (.duel k rs) = (st, [-7]) := by
          show (if Vbsgaj.within k 0 1 = false then (st, [-2]) else if Vbsgaj.few st.game = false then (st, [-7]) else _) = _
          rw [if_neg (by rw [hw]; decide), if_pos hf]
        rw [es] at q
        rw [if_pos hf] at hrf
        exact q rl H1 pa s1.kept R1.later.at hrf (by show 1 ≤ 100; decide) (Fr.new hf0)
      | true =>
        rw [if_neg (by rw [hf]; decide)] at hne
        exact absurd rfl hne
  obtain ⟨hw, hf⟩ := passed hnil
  obtain ⟨ek, hk2⟩ := wi_pl hw
  have hk : k.toNat < 3 := by omega
  have M := R1.memo k.toNat hk
  obtain ⟨z1, z2⟩ := room_for G hf (R.size _ hk) hn
  have hle := G.le
  unfold Done at q
  rw [step_duel st k rs hw hf] at q
  refine ⟨_, rfl, rd_searches R1 ⟨_, rfl, sl, _, _, _, rfl, rfl, SqL.of R1.slst, by rw [ek]; exact at_three hk, _, rfl, rd_game R1 ⟨_, rfl, _, rfl, _, ga, ro, k.toNat, _, _, _, st.game, rs, rfl, rfl, by rw [← ek], rfl, M, by omega, R1.game, G, rfl, s1 _ _ hro, z1, fun H2 kvs2 b2 M2 hl2 hz => ?_, fun lp H2 kvs2 y b2 M2 hl2 hz hlp => ?_⟩⟩⟩
  · have R2 := R1.but hk b2 M2 (by omega)
    rw [hz] at q
    refine ⟨_, rfl, rfl, _, rfl, iteT ⟨szn 1 rfl, fun p hp => ?_⟩⟩
    exact q p _ pa (s1.kept.trans ((b2.kept M.dic).trans (same_new hp _).kept)) (R2.same (same_new hp _)).at upd_same (by show 1 ≤ 100; decide) ((s1.kept.trans (b2.kept M.dic)).fr hp)
  · have R2 := R1.but hk b2 M2 (by omega)
    rw [hz] at q
    obtain ⟨k1, k2, k3⟩ := duelZ_ok k.toNat st.game.left st.game rs y rfl hz
    refine ⟨_, rfl, rfl, _, rfl, iteF ⟨_, rfl, rd_game R2 ⟨_, rfl, ga, lp, st.game, _, rfl, rfl, R2.game, G, hlp, k1, by omega, fun p H3 s3 hf3 hp => ?_⟩⟩⟩
    rw [k2] at hp
    exact q p H3 pa (s1.kept.trans ((b2.kept M.dic).trans s3.kept)) (R2.same s3).at hp (by show (Vbsgaj.counted Vbsgaj.one y.1 ++ [_, _]).length ≤ 100; rw [told_len]; omega) ((s1.kept.trans (b2.kept M.dic)).fr hf3)
end
end ST
set_option Elab.async false
set_option linter.all false
set_option maxRecDepth 100000
namespace ST
open PySem PySem.Spec PyProof.Rows L2 NKey
theorem vg_scaled {g : Vbsgaj.Game} {k : Int} (G : VG g) (hk : 1 ≤ k) (h : Vbsgaj.scaleFits k g = true) : VG (Vbsgaj.scaled k g) := by
  unfold Vbsgaj.scaleFits at h
  rw [Bool.and_eq_true, Bool.and_eq_true, wi_iff, wi_iff] at h
  obtain ⟨h1, h2, h3⟩ := h
  refine ⟨h1.1, h2.1, G.tu, G.le, by show (g.companies.map _).length ≤ 3; rw [List.length_map]; exact G.nc, fun c hc => ?_⟩
  obtain ⟨c', m1, m2⟩ := List.mem_map.mp (show c ∈ g.companies.map (Vbsgaj.scaleCompany k) from hc)
  subst m2
  have Gc := G.co c' m1
  have h4 := List.all_eq_true.mp h3 c' m1
  rw [Bool.and_eq_true, wi_iff] at h4
  refine ⟨?_, ?_, ?_, fun p hp => ?_, h4.1⟩
  · show 1 ≤ (c'.prices.map _).length; rw [List.length_map]; exact Gc.n1
  · show (c'.prices.map _).length ≤ 8; rw [List.length_map]; exact Gc.n8
  · show c'.place < (c'.prices.map _).length; rw [List.length_map]; exact Gc.pl
  · obtain ⟨p', n1, n2⟩ := List.mem_map.mp (show p ∈ c'.prices.map (fun p => k * p) from hp)
    subst n2
    exact wi_iff.mp (List.all_eq_true.mp h4.2 p' n1)
theorem coN_flat : ∀ l : List Int, l.flatMap (fun p => [p]) = l
  | [] => rfl
  | a :: l => by show a :: l.flatMap (fun p => [p]) = a :: l; rw [coN_flat l]
theorem coN_eq (c : Vbsgaj.Company) : Vbsgaj.companyNums c = [(c.place : Int), c.pay, (c.a : Int), (c.b : Int), (c.pool : Int)] ++ [(c.prices.length : Int)] ++ c.prices := by
  unfold Vbsgaj.companyNums Vbsgaj.counted
  rw [coN_flat]
  rfl
theorem coN_len {c : Vbsgaj.Company} (G : VC c) : (Vbsgaj.companyNums c).length ≤ 14 := by
  rw [coN_eq, List.length_append]
  have := G.n8
  show 6 + _ ≤ 14
  omega
theorem coNs_len : ∀ {l : List Vbsgaj.Company}, (∀ c ∈ l, VC c) → (l.flatMap Vbsgaj.companyNums).length ≤ 14 * l.length
  | [], _ => Nat.zero_le _
  | c :: l, h => by
    rw [List.flatMap_cons, List.length_append, List.length_cons]
    have h1 := coN_len (h c (List.mem_cons_self ..))
    have h2 := coNs_len (l := l) fun d hd => h d (List.mem_cons_of_mem _ hd)
    omega
section
variable {P : Program} {w : World} {K : PySem.W.Frag} {mg : Str → Option Value} {base : Heap}
theorem sc_scale_money : FnScope ["desk", "numbers", "row", "times", "game"] ["desk", "numbers", "row"] (defScope s_scale_money) := ⟨rfl, rfl, rfl, by decide +kernel, rfl, by decide +kernel, by decide +kernel⟩
theorem c_scale_money (T : Tx K mg) : Cal P w K mg base 6 "scale_money" ["desk", "numbers", "row"] (sp3 (q_deed T fun ns _ c => ∃ k, ns = [k] ∧ c = .scale k)) := by
  refine T.F_scale_money.cal (k := 5) sc_scale_money sp3_len fun f cdv A outer s H vs Q E hr h => ?_
  obtain ⟨_, _, _, rfl, da, nu, ro, st, pa, n, ns, rs, c, rfl, rfl, rfl, ⟨k, rfl, rfl⟩, ⟨ga, sl, pas, sf, df, kv, R⟩, hn, hnu, hro, hrl, q⟩ := h
  have nd := sc_scale_money.nd
  refine ⟨_, pss_cons (ps_set (i := 3) nd rfl (Or.inl rfl) (pe_ix ix_list (pv 1) pe_int (fun _ _ => rfl)))
    (pss_cons (ps_if (pt_not (pt_chain op_le op_le pe_int (pv 3) (pe_gi T.i_MOST_TIMES))) (pss_one (ps_ret (pe_lst (pa_cons (pe_gi T.i_WRONG_NUMBER) pa_nil)))) pss_nil)
    (pss_cons (ps_set (i := 4) nd rfl (Or.inl rfl) (pe_c2 (c_scaled T) hr (pe_fld (pv 0) rfl) (pv 3)))
    (pss_cons (ps_if (pt_not (pt_val (pe_c1 (c_money_fits T) (hr.mono (by decide)) (pv 4)))) (pss_one (ps_ret (pe_lst (pa_cons (pe_gi T.i_WRONG_NUMBER) pa_nil)))) pss_nil)
    (pss_cons (ps_expr (pe_m2 (c_begin_with T) (hr.mono (by decide)) T.clCD (pv 0) (pv 4))) (pss_one (ps_ret (pe_lst (pa_cons pe_int pa_nil)))))))), ?_⟩
  have G := R.ok
  obtain ⟨dx, hin⟩ := R.ins
  have bad : (Vbsgaj.within k 1 Vbsgaj.MONEY && Vbsgaj.scaleFits k st.game) = false → ∀ H1, Same H H1 → ∀ p, H1 p = none → Q (.ref p) (upd H1 p (.lst [.int (-2)])) := fun z H1 s1 p hp => by
    unfold Done at q
    rw [show Vbsgaj.step st (.scale k) = (st, [-2]) from if_pos z] at q
    exact q p _ pa (s1.trans (same_new hp _)).kept (R.same (s1.trans (same_new hp _))).later.at upd_same (by show 1 ≤ 100; decide) (s1.kept.fr hp)
  have bad1 : Vbsgaj.within k 1 Vbsgaj.MONEY = false → ∀ p, H p = none → Q (.ref p) (upd H p (.lst [.int (-2)])) := fun z p hp => bad (by rw [z, Bool.false_and]) H Same.rfl p hp
  refine ⟨_, rfl, nu, _, _, _, rfl, rfl, SqL.of hnu, rfl, ?_⟩
  refine ⟨_, rfl, _, _, rfl, rfl, _, rfl, itD (fun c1 => ⟨_, _, rfl, rfl, _, rfl, ?_⟩) (fun c1 => ⟨_, rfl, iteT ⟨szn 1 rfl, bad1 (wi_f c1)⟩⟩)⟩
  refine not_t (fun c2 => ⟨szn 1 rfl, bad1 ((wi_t c1).trans c2)⟩) (fun c2 => ?_)
  have hw : Vbsgaj.within k 1 Vbsgaj.MONEY = true := (wi_t c1).trans c2
  have c2 : k ≤ 1000000 := of_decide_eq_true c2
  have c1 : 1 ≤ k := c1
  refine ⟨_, rfl, rd_game R ⟨_, rfl, ga, st.game, k, rfl, rfl, R.game, G, by omega, c2, fun gp H1 s1 hgp => ?_⟩⟩
  refine ⟨_, rfl, gp, _, rfl, hgp, ?_, fun c hc => ?_, fun H2 s2 => ⟨_, rfl, ?_⟩⟩
  · show (st.game.companies.map _).length ≤ 3
    rw [List.length_map]
    exact G.nc
  · obtain ⟨c', m1, m2⟩ := List.mem_map.mp (show c ∈ st.game.companies.map (Vbsgaj.scaleCompany k) from hc)
    subst m2
    show 1 ≤ (c'.prices.map _).length
    rw [List.length_map]
    exact (G.co c' m1).n1
  rw [moneyFits_eq G c1]
  refine not_t (fun c3 => ⟨szn 1 rfl, bad (by rw [c3, Bool.and_false]) H2 (s1.trans s2)⟩) (fun c3 => ?_)
  have s02 := s1.trans s2
  have hin2 := s02 _ _ hin
  unfold Done at q
  rw [show Vbsgaj.step st (.scale k) = Vbsgaj.anew (Vbsgaj.scaled k st.game) from if_neg (by rw [hw, c3]; decide)] at q
  refine ⟨_, rfl, da, dx, _, rfl, hin2, no_begin _ _ _, _, rfl, da, gp, dx, _, _, rfl, rfl, hin2, .inr ⟨_, _, _, rfl⟩, s2.im.ga hgp, vg_scaled G c1 c3, fun H3 pa2 kp hpa hD => ?_⟩
  refine ⟨szn 1 rfl, fun p hp => q p _ pa2 ((kept_begin s02 hin2 kp hpa).trans (same_new hp _).kept) ((hD (n + 1)).same (same_new hp _)) upd_same (by show 1 ≤ 100; decide) ((kept_begin s02 hin2 kp hpa).fr hp)⟩
theorem sc_set_place : FnScope ["desk", "numbers", "row", "number", "place", "companies"] ["desk", "numbers", "row"] (defScope s_set_place) := ⟨rfl, rfl, rfl, by decide +kernel, rfl, by decide +kernel, by decide +kernel⟩
theorem c_set_place (T : Tx K mg) : Cal P w K mg base 5 "set_place" ["desk", "numbers", "row"] (sp3 (q_deed T fun ns _ c => ∃ k l, ns = [k, l] ∧ c = .price k l)) := by
  refine T.F_set_place.cal (k := 4) sc_set_place sp3_len fun f cdv A outer s H vs Q E hr h => ?_
  obtain ⟨_, _, _, rfl, da, nu, ro, st, pa, n, ns, rs, c, rfl, rfl, rfl, ⟨k, l, rfl, rfl⟩, ⟨ga, sl, pas, sf, df, kv, R⟩, hn, hnu, hro, hrl, q⟩ := h
  have nd := sc_set_place.nd
  refine ⟨_, pss_cons (ps_set (i := 3) nd rfl (Or.inl rfl) (pe_ix ix_list (pv 1) pe_int (fun _ _ => rfl)))
    (pss_cons (ps_set (i := 4) nd rfl (Or.inl rfl) (pe_ix ix_list (pv 1) pe_int (fun _ _ => rfl)))
    (pss_cons (ps_set (i := 5) nd rfl (Or.inl rfl) (pe_fld (pe_fld (pv 0) rfl) rfl))
    (pss_cons (ps_if (pt_not (pt_chain op_le op_lt pe_int (pv 3) (pe_callB call_len_seq rfl T.b_len PySem.boot_len (pa_cons (pv 5) pa_nil)))) (pss_one (ps_ret (pe_lst (pa_cons (pe_gi T.i_NO_COMPANY) pa_nil)))) pss_nil)
    (pss_cons (ps_if (pt_not (pt_chain op_le op_lt pe_int (pv 4) (pe_callB call_len_seq rfl T.b_len PySem.boot_len (pa_cons (pe_fld (pe_ix ix_tup (pv 5) (pv 3) (fun _ _ => rfl)) rfl) pa_nil)))) (pss_one (ps_ret (pe_lst (pa_cons (pe_gi T.i_WRONG_NUMBER) pa_nil)))) pss_nil)
    (pss_cons (ps_expr (pe_m2 (c_begin_with T) (hr.mono (by decide)) T.clCD (pv 0) (pe_c3 (c_with_place T) hr (pe_fld (pv 0) rfl) (pv 3) (pv 4)))) (pss_one (ps_ret (pe_lst (pa_cons pe_int pa_nil))))))))), ?_⟩
  have G := R.ok
  have hg' := R.game
  obtain ⟨cs, hgr, hcs⟩ := hg'
  obtain ⟨dx, hin⟩ := R.ins
  have put : ∀ (m : Int), Vbsgaj.step st (.price k l) = (st, [m]) → ∀ p, H p = none → Q (.ref p) (upd H p (.lst [.int m])) := fun m es p hp => by
    unfold Done at q
    rw [es] at q
    exact q p _ pa (same_new hp _).kept (R.same (same_new hp _)).later.at upd_same (by show 1 ≤ 100; decide) (Fr.new hp)
  have nl : (cs.map V.ref).length = st.game.companies.length := by rw [List.length_map]; exact hcs.1
  refine ⟨_, rfl, nu, _, _, _, rfl, rfl, SqL.of hnu, rfl, _, rfl, nu, _, _, _, rfl, rfl, SqL.of hnu, rfl, ?_⟩
  refine ⟨_, rfl, rd_game R (rd_companies hgr fun co hco => ?_)⟩
  have no : ¬ (0 ≤ k ∧ k < st.game.companies.length) → Vbsgaj.step st (.price k l) = (st, [-1]) := fun z => by
    show (match (if 0 ≤ k then st.game.companies[k.toNat]? else none) with | none => _ | some c => _) = _
    by_cases h0 : 0 ≤ k
    · rw [if_pos h0, List.getElem?_eq_none (by omega)]
    · rw [if_neg h0]
  refine ⟨_, rfl, _, _, rfl, rfl, _, rfl, itD (fun c1 => ⟨_, rfl, co, _, rfl, .inr hco, _, _, rfl, rfl, _, rfl, ?_⟩) (fun c1 => ⟨_, rfl, iteT ⟨szn 1 rfl, put (-1) (no fun z => c1 z.1)⟩⟩)⟩
  rw [nl]
  refine not_t (fun c2 => ⟨szn 1 rfl, put (-1) (no fun z => of_decide_eq_false c2 z.2)⟩) (fun c2 => ?_)
  have c2 := of_decide_eq_true c2
  have c1 : 0 ≤ k := c1
  have ek : k = ((k.toNat : Nat) : Int) := by omega
  have hlt : k.toNat < st.game.companies.length := by omega
  have hci := List.getElem?_eq_getElem hlt
  obtain ⟨ca, hca, hcoa, hlt2⟩ := hcs.at hci
  have hat : atI (cs.map V.ref) k = some (.ref ca) := at_mapZ c1 hca
  have es0 : Vbsgaj.step st (.price k l) = if Vbsgaj.within l 0 ((st.game.companies[k.toNat].prices.length : Int) - 1) = false then (st, [-2]) else Vbsgaj.anew { st.game with companies := st.game.companies.set k.toNat { st.game.companies[k.toNat] with place := l.toNat } } := by
    show (match (if 0 ≤ k then st.game.companies[k.toNat]? else none) with | none => _ | some c => _) = _
    rw [if_pos c1, hci]
    rfl
  have nl2 : ((rc st.game.companies[k.toNat]).ps.map V.int).length = st.game.companies[k.toNat].prices.length := List.length_map _
  refine ⟨_, rfl, _, _, rfl, rfl, _, rfl, itD (fun c3 => ⟨_, rfl, _, rfl, co, _, _, _, rfl, rfl, hco, hat, rd_prices hcoa fun pr hpr => ⟨pr, _, rfl, .inr hpr, _, _, rfl, rfl, _, rfl, ?_⟩⟩) (fun c3 => ⟨_, rfl, iteT ⟨szn 1 rfl, put (-2) (by rw [es0, if_pos (wi_f c3)])⟩⟩)⟩
  rw [nl2]
  refine not_t (fun c4 => ⟨szn 1 rfl, put (-2) (by rw [es0, if_pos ((wi_lt c3).trans c4)])⟩) (fun c4 => ?_)
  have hw : Vbsgaj.within l 0 ((st.game.companies[k.toNat].prices.length : Int) - 1) = true := (wi_lt c3).trans c4
  have c4 := of_decide_eq_true c4
  have c3 : 0 ≤ l := c3
  have el : l = ((l.toNat : Nat) : Int) := by omega
  rw [if_neg (by rw [hw]; decide)] at es0
  have Gc := G.co _ (List.mem_of_getElem? hci)
  have Gn : VG { st.game with companies := st.game.companies.set k.toNat { st.game.companies[k.toNat] with place := l.toNat } } := by
    refine ⟨G.ma, G.mb, G.tu, G.le, by show (st.game.companies.set _ _).length ≤ 3; rw [List.length_set]; exact G.nc, fun c hc => ?_⟩
    rcases List.mem_or_eq_of_mem_set (show c ∈ st.game.companies.set k.toNat { st.game.companies[k.toNat] with place := l.toNat } from hc) with z | z
    · exact G.co c z
    · subst z
      exact ⟨Gc.n1, Gc.n8, by show l.toNat < st.game.companies[k.toNat].prices.length; omega, Gc.pr, Gc.py⟩
  unfold Done at q
  rw [es0] at q
  refine ⟨_, rfl, da, dx, _, rfl, hin, no_begin _ _ _, _, rfl, rd_game R ⟨_, rfl, _, rfl, ga, st.game, _, k.toNat, l.toNat, rfl, by rw [← ek], by rw [← el], R.game, G, hci, fun gp H1 s1 hgp => ?_⟩⟩
  have hin1 := s1 _ _ hin
  refine ⟨da, gp, dx, _, _, rfl, rfl, hin1, .inr ⟨_, _, _, rfl⟩, hgp, Gn, fun H2 pa2 kp hpa hD => ?_⟩
  refine ⟨szn 1 rfl, fun p hp => q p _ pa2 ((kept_begin s1 hin1 kp hpa).trans (same_new hp _).kept) ((hD (n + 1)).same (same_new hp _)) upd_same (by show 1 ≤ 100; decide) ((kept_begin s1 hin1 kp hpa).fr hp)⟩
theorem sc_show : FnScope ["desk", "numbers", "row", "game", "shown", "company"] ["desk", "numbers", "row"] (defScope s_show) := ⟨rfl, rfl, rfl, by decide +kernel, rfl, by decide +kernel, by decide +kernel⟩
theorem c_show (T : Tx K mg) : Cal P w K mg base 1 "show" ["desk", "numbers", "row"] (sp3 (q_deed T fun _ _ c => c = .show_)) := by
  refine T.F_show.cal (k := 0) sc_show sp3_len fun f cdv A outer s H vs Q E hr h => ?_
  obtain ⟨_, _, _, rfl, da, nu, ro, st, pa, n, ns, rs, c, rfl, rfl, rfl, rfl, ⟨ga, sl, pas, sf, df, kv, R⟩, hn, hnu, hro, hrl, q⟩ := h
  have nd := sc_show.nd
  refine ⟨_, pss_cons (ps_set (i := 3) nd rfl (Or.inl rfl) (pe_fld (pv 0) rfl))
    (pss_cons (ps_set (i := 4) nd rfl (Or.inl rfl) (pe_lst (pa_cons (pe_ix ix_tup (pe_fld (pv 3) rfl) pe_int (fun _ _ => rfl)) (pa_cons (pe_ix ix_tup (pe_fld (pv 3) rfl) pe_int (fun _ _ => rfl)) (pa_cons (pe_fld (pv 3) rfl) (pa_cons (pe_fld (pv 3) rfl) (pa_cons (pe_callB call_len_seq rfl T.b_len PySem.boot_len (pa_cons (pe_fld (pv 3) rfl) pa_nil)) pa_nil)))))))
    (pss_cons (ps_for PassesOwn.never rfl (pi_tup (pe_fld (pv 3) rfl)) (pg_name (i := 5) nd rfl (Or.inl rfl))
      (pss_cons (ps_expr (pe_bm PySem.F.plainAttrs_list PySem.F.slot_list_extend PySem.F.type_list_extend mt_extend (pv 4) (pa_cons (pe_lst (pa_cons (pe_fld (pv 5) rfl) (pa_cons (pe_fld (pv 5) rfl) (pa_cons (pe_ix ix_tup (pe_fld (pv 5) rfl) pe_int (fun _ _ => rfl)) (pa_cons (pe_ix ix_tup (pe_fld (pv 5) rfl) pe_int (fun _ _ => rfl)) (pa_cons (pe_fld (pv 5) rfl) pa_nil)))))) pa_nil)))
      (pss_cons (ps_expr (pe_bm PySem.F.plainAttrs_list PySem.F.slot_list_append PySem.F.type_list_append mt_append (pv 4) (pa_cons (pe_callB call_len_seq rfl T.b_len PySem.boot_len (pa_cons (pe_fld (pv 5) rfl) pa_nil)) pa_nil)))
      (pss_one (ps_expr (pe_bm PySem.F.plainAttrs_list PySem.F.slot_list_extend PySem.F.type_list_extend mt_extT (pv 4) (pa_cons (pe_fld (pv 5) rfl) pa_nil)))))))
    (pss_one (ps_ret (pv 4))))), ?_⟩
  have G := R.ok
  have hg' := R.game
  obtain ⟨cs, hgr, hcs⟩ := hg'
  have nl : (cs.map V.ref).length = st.game.companies.length := by rw [List.length_map]; exact hcs.1
  have hnc := G.nc
  refine ⟨_, rfl, rd_game R ?_⟩
  refine ⟨_, rfl, rd_money hgr fun m1 hm1 => ⟨m1, _, _, _, rfl, rfl, hm1, at0, _, rfl, rd_money hgr fun m2 hm2 => ⟨m2, _, _, _, rfl, rfl, hm2, at1, _, rfl, rd_turn hgr ⟨_, rfl, rd_left hgr ⟨_, rfl, rd_companies hgr fun co hco => ⟨co, _, rfl, .inr hco, szn 5 rfl, fun sp hsp => ?_⟩⟩⟩⟩⟩⟩
  rw [nl]
  have s0 := same_new hsp (.lst [.int st.game.moneyA, .int st.game.moneyB, .int st.game.turn, .int st.game.left, .int st.game.companies.length])
  have hgr0 := s0.im.gaR hgr
  refine ⟨_, rfl, rd_companies hgr0 fun co2 hco2 => ⟨co2, rfl, ⟨_, hco2⟩, for_tup (K := K) (a := co2) (xs := cs.map V.ref)
    (fun i σ H' => ∃ v5, σ = [some (.ref da), some (.ref nu), some (.ref ro), some (.ref ga), some (.ref sp), v5] ∧ Same H H' ∧ SqT K H' co2 (cs.map V.ref) ∧ H' sp = some (.lst (([st.game.moneyA, st.game.moneyB, (st.game.turn : Int), (st.game.left : Int), (st.game.companies.length : Int)] ++ (st.game.companies.take i).flatMap Vbsgaj.companyNums).map V.int)))
    ⟨none, rfl, s0, hco2, by rw [List.take_zero]; exact upd_same⟩ (fun i σ H' _ ⟨_, _, _, e, _⟩ => e) ?_ ?_⟩⟩
  · rintro i y σ H' hy ⟨v5, rfl, s1, hco3, hsp1⟩
    obtain ⟨ca, hca, rfl⟩ := ref_of hy
    obtain ⟨c, hci, hco4⟩ := hcs.2 i ca hca
    have Gc := G.co c (List.mem_of_getElem? hci)
    have hn8 := Gc.n8
    have hil : i < st.game.companies.length := (List.getElem?_eq_some_iff.mp hci).1
    have hcc := s1.im.coR hco4
    have hlen : (([st.game.moneyA, st.game.moneyB, (st.game.turn : Int), (st.game.left : Int), (st.game.companies.length : Int)] ++ (st.game.companies.take i).flatMap Vbsgaj.companyNums).map V.int).length ≤ 47 := by
      rw [List.length_map, List.length_append]
      have := coNs_len (l := st.game.companies.take i) fun c hc => G.co c (List.mem_of_mem_take hc)
      rw [List.length_take] at this
      show 5 + _ ≤ 47
      omega
    have pc : ∀ {L L' : List V} {H2 : Hp}, H2 sp = some (.lst L) → Same H H2 → Same H (upd H2 sp (.lst L')) := fun h1 h2 b u hb => by
      rw [upd_ne (ne_of_none hb hsp)]
      exact h2 _ _ hb
    refine ⟨_, rfl, .inl ⟨rfl, _, SqL.of hsp1⟩, _, rfl, rd_place hcc ⟨_, rfl, rd_pay hcc ⟨_, rfl, rd_shares hcc fun b1 hb1 => ⟨b1, _, _, _, rfl, rfl, hb1, at0, _, rfl, rd_shares hcc fun b2 hb2 => ⟨b2, _, _, _, rfl, rfl, hb2, at1, _, rfl, rd_pool hcc ⟨szn 5 rfl, fun t ht => ?_⟩⟩⟩⟩⟩⟩
    have s2 := same_new ht (.lst [.int (c.place : Int), .int c.pay, .int (c.a : Int), .int (c.b : Int), .int (c.pool : Int)])
    have hsp2 := s2 _ _ hsp1
    refine ⟨sp, t, _, _, rfl, rfl, hsp2, upd_same, ?_, ?_⟩
    · show _ + 5 ≤ sizeLine
      exact Nat.le_trans (Nat.add_le_add_right hlen 5) (by decide)
    generalize hL : (([st.game.moneyA, st.game.moneyB, (st.game.turn : Int), (st.game.left : Int), (st.game.companies.length : Int)] ++ (st.game.companies.take i).flatMap Vbsgaj.companyNums).map V.int) = L at hsp1 hsp2 hlen ⊢
    have s3 := pc hsp2 (s1.trans s2) (L' := L ++ [.int (c.place : Int), .int c.pay, .int (c.a : Int), .int (c.b : Int), .int (c.pool : Int)])
    have hc3 := s3.im.coR hco4
    refine ⟨_, rfl, .inl ⟨rfl, _, SqL.of upd_same⟩, _, rfl, rd_prices hc3 fun pr hpr => ⟨pr, _, rfl, .inr hpr, sp, _, _, rfl, rfl, upd_same, ?_, ?_⟩⟩
    · rw [List.length_append]
      show _ + 5 < sizeLine
      exact Nat.lt_of_le_of_lt (Nat.add_le_add_right hlen 5) (by decide)
    rw [upd_upd]
    have npl : ((rc c).ps.map V.int).length = c.prices.length := List.length_map _
    rw [npl]
    have s4 := pc hsp2 (s1.trans s2) (L' := L ++ [.int (c.place : Int), .int c.pay, .int (c.a : Int), .int (c.b : Int), .int (c.pool : Int)] ++ [.int (c.prices.length : Int)])
    have hc4 := s4.im.coR hco4
    refine ⟨_, rfl, .inl ⟨rfl, _, SqL.of upd_same⟩, _, rfl, rd_prices hc4 fun pr2 hpr2 => ⟨sp, pr2, _, _, rfl, rfl, upd_same, hpr2, ?_, ?_⟩⟩
    · rw [npl, List.length_append, List.length_append]
      show _ + 5 + 1 + _ ≤ sizeLine
      exact Nat.le_trans (show _ ≤ 1000 by omega) (by decide)
    rw [upd_upd]
    refine ⟨_, rfl, pc hsp2 (s1.trans s2), ?_, ?_⟩
    · have im5 : Im T H' (upd (upd H' t (.lst [.int (c.place : Int), .int c.pay, .int (c.a : Int), .int (c.b : Int), .int (c.pool : Int)])) sp (.lst (L ++ [.int (c.place : Int), .int c.pay, .int (c.a : Int), .int (c.b : Int), .int (c.pool : Int)] ++ [.int (c.prices.length : Int)] ++ (rc c).ps.map V.int))) := s2.im.trans (Im.updL hsp2)
      exact im5.sqT hco3
    · rw [upd_same, List.take_add_one, hci]
      simp only [Option.toList_some, List.flatMap_append, List.flatMap_cons, List.flatMap_nil, List.append_nil, coN_eq]
      rw [← List.append_assoc, List.map_append, hL]
      simp only [List.map_append, List.append_assoc]
      rfl
  · rintro σ H' ⟨v5, rfl, s1, hco3, hsp1⟩
    rw [nl, List.take_length] at hsp1
    refine ⟨_, rfl, q sp H' pa s1.kept (R.same s1).later.at hsp1 ?_ (Fr.new hsp)⟩
    show ([st.game.moneyA, st.game.moneyB, (st.game.turn : Int), (st.game.left : Int), (st.game.companies.length : Int)] ++ st.game.companies.flatMap Vbsgaj.companyNums).length ≤ 100
    rw [List.length_append]
    have := coNs_len (l := st.game.companies) G.co
    show 5 + _ ≤ 100
    omega
end
end ST
set_option Elab.async false
set_option linter.all false
set_option maxRecDepth 100000
namespace ST
open PySem PySem.Spec PyProof.Rows L2 NKey
theorem whole_id (c : List (List Int)) : PyVbsgaj.whole c = c := by
  unfold PyVbsgaj.whole
  split <;> rfl
theorem calls_eq (l : List Int) : PyVbsgaj.calls l = PyFlat.calls PyVbsgaj.shape l.length l := by
  unfold PyVbsgaj.calls
  cases PyFlat.calls PyVbsgaj.shape l.length l with
  | none => rfl
  | some cs =>
    show some (cs.map PyVbsgaj.whole) = some cs
    congr 1
    have : PyVbsgaj.whole = id := funext whole_id
    rw [this, List.map_id]
theorem shape_dom {p : Int} {x : Nat × Nat} (h : PyVbsgaj.shape p = some x) : ∃ c : Nat, c < 17 ∧ p = (c : Int) := by
  by_cases hp : 0 ≤ p ∧ p < 17
  · exact ⟨p.toNat, by omega, by omega⟩
  · unfold PyVbsgaj.shape at h
    rw [if_neg (by omega), if_neg (by omega), if_neg (by omega), if_neg (by omega), if_neg (by omega), if_neg (by omega), if_neg (by omega), if_neg (by omega), if_neg (by omega), if_neg (by omega), if_neg (by omega), if_neg (by omega), if_neg (by omega), if_neg (by omega), if_neg (by omega), if_neg (by omega), if_neg (by omega)] at h
    cases h
theorem calls_step {f : Nat} {l : List Int} {rest : List (List (List Int))} (h : PyFlat.calls PyVbsgaj.shape f l = some rest) (hl : l ≠ []) :
    ∃ (c : Nat) (r : List Int) (nn kk : Nat) (xs : List (List Int)) (t : List Int) (rest' : List (List (List Int))) (f' : Nat), l = (c : Int) :: r ∧ c < 17 ∧ PyVbsgaj.shape (c : Int) = some (nn, kk) ∧ nn ≤ r.length ∧ PyFlat.rows kk (r.drop nn) = some (xs, t) ∧
      rest = (((c : Int) :: r.take nn) :: xs) :: rest' ∧ PyFlat.calls PyVbsgaj.shape f' t = some rest' := by
  cases l with
  | nil => exact absurd rfl hl
  | cons p r =>
    cases f with
    | zero => cases h
    | succ f =>
      unfold PyFlat.calls at h
      cases hc : PyFlat.call PyVbsgaj.shape (p :: r) with
      | none => rw [hc] at h; cases h
      | some ct =>
        obtain ⟨c, t⟩ := ct
        rw [hc] at h
        cases hr : PyFlat.calls PyVbsgaj.shape f t with
        | none => simp only [hr] at h; cases h
        | some rest' =>
          simp only [hr] at h
          have er : c :: rest' = rest := Option.some.inj h
          unfold PyFlat.call at hc
          cases hs : PyVbsgaj.shape p with
          | none => simp only [hs] at hc; cases hc
          | some nk =>
            obtain ⟨nn, kk⟩ := nk
            simp only [hs] at hc
            by_cases hlt : r.length < nn
            · rw [if_pos hlt] at hc; cases hc
            · rw [if_neg hlt] at hc
              cases hrw : PyFlat.rows kk (r.drop nn) with
              | none => simp only [hrw] at hc; cases hc
              | some xt =>
                obtain ⟨xs, t'⟩ := xt
                simp only [hrw] at hc
                have e := Option.some.inj hc
                have e1 : (p :: r.take nn) :: xs = c := congrArg Prod.fst e
                have e2 : t' = t := congrArg Prod.snd e
                obtain ⟨k, hk, rfl⟩ := shape_dom hs
                subst e1 e2
                exact ⟨k, r, nn, kk, xs, t', rest', f, rfl, hk, hs, by omega, hrw, er.symm, hr⟩
theorem row_one {r : List Int} {xs : List (List Int)} {t : List Int} (h : PyFlat.rows 1 r = some (xs, t)) : ∃ (m : Nat) (r' : List Int), r = (m : Int) :: r' ∧ m ≤ r'.length ∧ xs = [r'.take m] ∧ t = r'.drop m := by
  cases r with
  | nil => cases h
  | cons n r' =>
    unfold PyFlat.rows PyFlat.row at h
    by_cases hn : 0 ≤ n ∧ n.toNat ≤ r'.length
    · simp only [if_pos hn] at h
      have e := Option.some.inj h
      have e1 : [r'.take n.toNat] = xs := congrArg Prod.fst e
      have e2 : r'.drop n.toNat = t := congrArg Prod.snd e
      exact ⟨n.toNat, r', by congr 1; omega, hn.2, e1.symm, e2.symm⟩
    · simp only [if_neg hn] at h
      cases h
theorem row_zero {r : List Int} {xs : List (List Int)} {t : List Int} (h : PyFlat.rows 0 r = some (xs, t)) : xs = [] ∧ t = r := by
  have e := Option.some.inj h
  exact ⟨(congrArg Prod.fst e).symm, (congrArg Prod.snd e).symm⟩
theorem cut_mid {l : List Int} {i j : Nat} (h : i ≤ j) (hj : j ≤ l.length) : cutV (l.map V.int) (some (i : Int)) (some (j : Int)) = ((l.drop i).take (j - i)).map V.int := by
  unfold cutV
  rw [HT.sIx_nat, HT.sIx_nat, List.length_map, Nat.min_eq_left (show i ≤ l.length by omega), Nat.min_eq_left hj, ← List.map_drop, ← List.map_take]
def toldOf (st : Vbsgaj.State) (cs : List (List (List Int))) : List Int := PyFlat.told (PyFlat.played VbsgajNeutral.step st cs)
theorem told_cons {st : Vbsgaj.State} {c : List (List Int)} {cs : List (List (List Int))} {d : Vbsgaj.Call} (h : VbsgajNeutral.callOf c = some d) : toldOf st (c :: cs) = ((Vbsgaj.step st d).2.length : Int) :: (Vbsgaj.step st d).2 ++ toldOf (Vbsgaj.step st d).1 cs := by
  have e : VbsgajNeutral.step st c = Vbsgaj.step st d := by unfold VbsgajNeutral.step; rw [h]
  unfold toldOf
  rw [show PyFlat.played VbsgajNeutral.step st (c :: cs) = (VbsgajNeutral.step st c).2 :: PyFlat.played VbsgajNeutral.step (VbsgajNeutral.step st c).1 cs from rfl]
  unfold PyFlat.told
  rw [List.flatMap_cons, e]
section
variable {P : Program} {w : World} {K : PySem.W.Frag} {mg : Str → Option Value} {base : Heap}
def DeedOk (P : Program) (w : World) (K : PySem.W.Frag) (mg : Str → Option Value) (base : Heap) (T : Tx K mg) (c nn kk : Nat) (f : Addr) : Prop := ∃ (R : List Int → List Int → Vbsgaj.Call → Prop) (fd : FuncData) (ps : List Str), FnOk P w K mg base CX0 28 f fd ps (sp3 (q_deed T R)) ∧ PySem.W.keepIn K (.ref f) = true ∧ Binds K fd ps [] ∧
  ∀ (ns rs : List Int) (xs : List (List Int)), ns.length = nn → ((kk = 0 ∧ xs = []) ∨ (kk = 1 ∧ xs = [rs])) → ∃ d, R ns rs d ∧ VbsgajNeutral.callOf (((c : Int) :: ns) :: xs) = some d
theorem deed_of {T : Tx K mg} {k : Nat} {x : Str} {ps : List Str} {R : List Int → List Int → Vbsgaj.Call → Prop} {c nn kk : Nat} {f : Addr} (C : Cal P w K mg base k x ps (sp3 (q_deed T R))) (hk : k ≤ 28) (m : mg x = some (.ref f))
    (hc : ∀ (ns rs : List Int) (xs : List (List Int)), ns.length = nn → ((kk = 0 ∧ xs = []) ∨ (kk = 1 ∧ xs = [rs])) → ∃ d, R ns rs d ∧ VbsgajNeutral.callOf (((c : Int) :: ns) :: xs) = some d) : DeedOk P w K mg base T c nn kk f := by
  obtain ⟨f', fd, F, m', kp, b⟩ := C
  rw [m] at m'
  have e : f = f' := by cases m'; rfl
  subst e
  exact ⟨R, fd, ps, F.mono hk, kp, b, hc⟩
theorem z0 {α : Prop} {xs : List (List Int)} {rs : List Int} (h : ((0 : Nat) = 0 ∧ xs = []) ∨ ((0 : Nat) = 1 ∧ xs = [rs])) (q : xs = [] → α) : α := by
  rcases h with h | h
  · exact q h.2
  · exact absurd h.1 (by decide)
theorem z1 {α : Prop} {xs : List (List Int)} {rs : List Int} (h : ((1 : Nat) = 0 ∧ xs = []) ∨ ((1 : Nat) = 1 ∧ xs = [rs])) (q : xs = [rs] → α) : α := by
  rcases h with h | h
  · exact absurd h.1 (by decide)
  · exact q h.2
def nums : List V := [.int 5, .int 4, .int 0, .int 0, .int 1, .int 0, .int 0, .int 1, .int 1, .int 1, .int 1, .int 1, .int 0, .int 1, .int 0, .int 1, .int 2]
def rows : List V := [.int 1, .int 0, .int 0, .int 0, .int 0, .int 0, .int 0, .int 0, .int 0, .int 0, .int 0, .int 1, .int 0, .int 0, .int 0, .int 0, .int 0]
def dds (T : Tx K mg) : List V := [.ref T.d_add_company, .ref T.d_set_players, .ref T.d_show, .ref T.d_list_orders, .ref T.d_play, .ref T.d_undo, .ref T.d_tell_worths, .ref T.d_tell_value, .ref T.d_tell_best, .ref T.d_tell_values, .ref T.d_tell_line, .ref T.d_tell_duel, .ref T.d_swap_players, .ref T.d_scale_money, .ref T.d_clear_all, .ref T.d_tell_tempo, .ref T.d_set_place]
theorem deed_ok (T : Tx K mg) : ∀ c : Nat, c < 17 → ∃ (nn kk : Nat) (f : Addr), atI nums (c : Int) = some (.int nn) ∧ atI rows (c : Int) = some (.int kk) ∧ atI (dds T) (c : Int) = some (.ref f) ∧ PyVbsgaj.shape (c : Int) = some (nn, kk) ∧ (kk = 0 ∨ kk = 1) ∧ DeedOk P w K mg base T c nn kk f
  | 0, _ => ⟨5, 1, T.d_add_company, rfl, rfl, rfl, rfl, .inr rfl, deed_of (c_add_company T) (by decide) T.m_add_company fun ns rs xs hl hx => z1 hx fun e => match ns, hl with | [a, b, c, d, e'], _ => ⟨_, ⟨a, b, c, d, e', rfl, rfl⟩, by subst e; rfl⟩⟩
  | 1, _ => ⟨4, 0, T.d_set_players, rfl, rfl, rfl, rfl, .inl rfl, deed_of (c_set_players T) (by decide) T.m_set_players fun ns rs xs hl hx => z0 hx fun e => match ns, hl with | [a, b, c, d], _ => ⟨_, ⟨a, b, c, d, rfl, rfl⟩, by subst e; rfl⟩⟩
  | 2, _ => ⟨0, 0, T.d_show, rfl, rfl, rfl, rfl, .inl rfl, deed_of (c_show T) (by decide) T.m_show fun ns rs xs hl hx => z0 hx fun e => match ns, hl with | [], _ => ⟨_, rfl, by subst e; rfl⟩⟩
  | 3, _ => ⟨0, 0, T.d_list_orders, rfl, rfl, rfl, rfl, .inl rfl, deed_of (c_list_orders T) (by decide) T.m_list_orders fun ns rs xs hl hx => z0 hx fun e => match ns, hl with | [], _ => ⟨_, rfl, by subst e; rfl⟩⟩
  | 4, _ => ⟨1, 0, T.d_play, rfl, rfl, rfl, rfl, .inl rfl, deed_of (c_play T) (by decide) T.m_play fun ns rs xs hl hx => z0 hx fun e => match ns, hl with | [k], _ => ⟨_, ⟨k, rfl, rfl⟩, by subst e; rfl⟩⟩
  | 5, _ => ⟨0, 0, T.d_undo, rfl, rfl, rfl, rfl, .inl rfl, deed_of (c_undo T) (by decide) T.m_undo fun ns rs xs hl hx => z0 hx fun e => match ns, hl with | [], _ => ⟨_, rfl, by subst e; rfl⟩⟩
  | 6, _ => ⟨0, 0, T.d_tell_worths, rfl, rfl, rfl, rfl, .inl rfl, deed_of (c_tell_worths T) (by decide) T.m_tell_worths fun ns rs xs hl hx => z0 hx fun e => match ns, hl with | [], _ => ⟨_, rfl, by subst e; rfl⟩⟩
  | 7, _ => ⟨1, 0, T.d_tell_value, rfl, rfl, rfl, rfl, .inl rfl, deed_of (c_tell_value T) (by decide) T.m_tell_value fun ns rs xs hl hx => z0 hx fun e => match ns, hl with | [k], _ => ⟨_, ⟨k, rfl, rfl⟩, by subst e; rfl⟩⟩
  | 8, _ => ⟨1, 0, T.d_tell_best, rfl, rfl, rfl, rfl, .inl rfl, deed_of (c_tell_best T) (by decide) T.m_tell_best fun ns rs xs hl hx => z0 hx fun e => match ns, hl with | [k], _ => ⟨_, ⟨k, rfl, rfl⟩, by subst e; rfl⟩⟩
  | 9, _ => ⟨1, 0, T.d_tell_values, rfl, rfl, rfl, rfl, .inl rfl, deed_of (c_tell_values T) (by decide) T.m_tell_values fun ns rs xs hl hx => z0 hx fun e => match ns, hl with | [k], _ => ⟨_, ⟨k, rfl, rfl⟩, by subst e; rfl⟩⟩
  | 10, _ => ⟨1, 0, T.d_tell_line, rfl, rfl, rfl, rfl, .inl rfl, deed_of (c_tell_line T) (by decide) T.m_tell_line fun ns rs xs hl hx => z0 hx fun e => match ns, hl with | [k], _ => ⟨_, ⟨k, rfl, rfl⟩, by subst e; rfl⟩⟩
  | 11, _ => ⟨1, 1, T.d_tell_duel, rfl, rfl, rfl, rfl, .inr rfl, deed_of (c_tell_duel T) (by decide) T.m_tell_duel fun ns rs xs hl hx => z1 hx fun e => match ns, hl with | [k], _ => ⟨_, ⟨k, rfl, rfl⟩, by subst e; rfl⟩⟩
  | 12, _ => ⟨0, 0, T.d_swap_players, rfl, rfl, rfl, rfl, .inl rfl, deed_of (c_swap_players T) (by decide) T.m_swap_players fun ns rs xs hl hx => z0 hx fun e => match ns, hl with | [], _ => ⟨_, rfl, by subst e; rfl⟩⟩
  | 13, _ => ⟨1, 0, T.d_scale_money, rfl, rfl, rfl, rfl, .inl rfl, deed_of (c_scale_money T) (by decide) T.m_scale_money fun ns rs xs hl hx => z0 hx fun e => match ns, hl with | [k], _ => ⟨_, ⟨k, rfl, rfl⟩, by subst e; rfl⟩⟩
  | 14, _ => ⟨0, 0, T.d_clear_all, rfl, rfl, rfl, rfl, .inl rfl, deed_of (c_clear_all T) (by decide) T.m_clear_all fun ns rs xs hl hx => z0 hx fun e => match ns, hl with | [], _ => ⟨_, rfl, by subst e; rfl⟩⟩
  | 15, _ => ⟨1, 0, T.d_tell_tempo, rfl, rfl, rfl, rfl, .inl rfl, deed_of (c_tell_tempo T) (by decide) T.m_tell_tempo fun ns rs xs hl hx => z0 hx fun e => match ns, hl with | [k], _ => ⟨_, ⟨k, rfl, rfl⟩, by subst e; rfl⟩⟩
  | 16, _ => ⟨2, 0, T.d_set_place, rfl, rfl, rfl, rfl, .inl rfl, deed_of (c_set_place T) (by decide) T.m_set_place fun ns rs xs hl hx => z0 hx fun e => match ns, hl with | [k, l], _ => ⟨_, ⟨k, l, rfl, rfl⟩, by subst e; rfl⟩⟩
  | c + 17, h => absurd h (by omega)
theorem asked_row {c : Nat} {ns rs : List Int} (h : VbsgajNeutral.asked1 [(c : Int) :: ns, rs] = true) : rs.length ≤ 1000 := by
  unfold VbsgajNeutral.asked1 at h
  split at h <;> first | (cases h; done) | skip
  all_goals rename_i heq
  all_goals (try (cases heq))
  all_goals (simp only [Bool.and_eq_true, decide_eq_true_eq] at h)
  all_goals omega
def ArgL (K : PySem.W.Frag) (H : Hp) (a : Addr) (xs : List V) (pa tp : Addr) : Prop := (H a = some (.lst xs) ∧ a ≠ pa ∧ a ≠ tp) ∨ (∃ o, H a = some (.frz o (.lst xs))) ∨ ∃ (o : Obj) (its : Array Value) (n : Nat), K.lookup a = some o ∧ o.cls = .type "list" ∧ o.dict = none ∧ o.data = .seq its n ∧ its.size ≤ sizeLine ∧ Vals xs its.toList
theorem ArgL.sq {H : Hp} {a pa tp : Addr} {xs : List V} (h : ArgL K H a xs pa tp) : SqL K H a xs := by
  rcases h with h | h | h
  · exact .inl (.inl h.1)
  · exact .inl (.inr h)
  · exact .inr h
theorem ArgL.kept {H H' : Hp} {a pa pa' tp : Addr} {xs : List V} (h : ArgL K H a xs pa tp) (k : Kept pa pa' H H') : ArgL K H' a xs pa' tp := by
  rcases h with h | ⟨o, h⟩ | h
  · obtain ⟨h1, h2⟩ := k.lst _ _ h.1 h.2.1
    exact .inl ⟨h1, h2, h.2.2⟩
  · exact .inr (.inl ⟨o, k.frz _ _ _ h⟩)
  · exact .inr (.inr h)
theorem ArgL.of {H H' : Hp} {a pa tp : Addr} {xs : List V} (h : SqL K H a xs) (hp : H pa = none) (ht : H tp = none) (s : Same H H') : ArgL K H' a xs pa tp := by
  rcases h with (h | ⟨o, h⟩) | h
  · exact .inl ⟨s _ _ h, ne_of_none h hp, ne_of_none h ht⟩
  · exact .inr (.inl ⟨o, s _ _ h⟩)
  · exact .inr (.inr h)
theorem ArgL.updT {H : Hp} {a pa tp : Addr} {xs ys : List V} {o : HO} (h : ArgL K H a xs pa tp) (ht : H tp = some (.lst ys)) : ArgL K (upd H tp o) a xs pa tp := by
  rcases h with h | ⟨o, h⟩ | h
  · exact .inl ⟨by rw [upd_ne h.2.2]; exact h.1, h.2⟩
  · exact .inr (.inl ⟨o, by rw [upd_ne (ne_of h ht (by intro z; cases z))]; exact h⟩)
  · exact .inr (.inr h)
theorem DeskAt.updT {T : Tx K mg} {H : Hp} {da pa tp : Addr} {st : Vbsgaj.State} {n : Nat} {done : List Int} {L : List V} (D : DeskAt T H da st pa n) (ht : H tp = some (.lst (done.map V.int))) (np : tp ≠ pa) : DeskAt T (upd H tp (.lst L)) da st pa n := by
  obtain ⟨ga, sl, pas, s, d, kv, R⟩ := D
  obtain ⟨dx, hin⟩ := R.ins
  have im : Im T H (upd H tp (.lst L)) := Im.updL ht
  have nsl : sl ≠ tp := ne_of R.slst ht (by
    intro z
    have z := HO.lst.inj z
    cases done with
    | nil => cases z
    | cons a r => cases z)
  exact ⟨ga, sl, pas, s, d, kv, ⟨dx, by rw [upd_ne (ne_of hin ht (by intro z; cases z))]; exact hin⟩, im.ga R.game, R.ok, by rw [upd_ne np.symm]; exact R.plst, R.plen, fun i a h => let ⟨g, h1, h2⟩ := R.pat i a h; ⟨g, h1, im.ga h2⟩, R.pok, R.psz,
    by rw [upd_ne nsl]; exact R.slst, R.slpa, fun j hj => (R.memo j hj).updL ht, R.size, R.apart⟩
end
end ST
set_option Elab.async false
set_option linter.all false
set_option maxRecDepth 100000
namespace ST
open PySem PySem.Spec PyProof.Rows L2 NKey
section
variable {P : Program} {w : World} {K : PySem.W.Frag} {mg : Str → Option Value} {base : Heap}
theorem sc_answers : FnScope ["calls", "desk", "told", "at", "call", "row_at", "numbers", "row", "act", "answer"] ["calls"] (defScope s_answers) := ⟨rfl, rfl, rfl, by decide +kernel, rfl, by decide +kernel, by decide +kernel⟩
def spAns (K : PySem.W.Frag) : Sp := fun vs H Q _ => ∃ (a : Addr) (ns : List Int), vs = [.ref a] ∧ SqL K H a (ns.map V.int) ∧ ns.length ≤ 30000 ∧ PyVbsgaj.answers_asked ns = true ∧ ∀ (H' : Hp) (p : Addr), H' p = some (.lst ((PyVbsgaj.answers ns).map V.int)) → Q (.ref p) H'
theorem asked_parts {l : List Int} (h : PyVbsgaj.answers_asked l = true) : ∃ cs, PyFlat.calls PyVbsgaj.shape l.length l = some cs ∧ (∀ c ∈ cs, VbsgajNeutral.asked1 c = true) ∧ cs.length ≤ 400 ∧ PyVbsgaj.answers l = toldOf Vbsgaj.start cs := by
  unfold PyVbsgaj.answers_asked at h
  unfold PyVbsgaj.answers
  rw [calls_eq] at h ⊢
  cases hc : PyFlat.calls PyVbsgaj.shape l.length l with
  | none => rw [hc] at h; cases h
  | some cs =>
    simp only [hc] at h
    rw [Bool.and_eq_true] at h
    have h2 := h.2
    unfold VbsgajNeutral.asked at h2
    rw [Bool.and_eq_true] at h2
    exact ⟨cs, rfl, List.all_eq_true.mp h2.1, of_decide_eq_true h.1, rfl⟩
theorem ok_answers (T : Tx K mg) {f : Addr} {fd : FuncData} (F : Fun K "answers" "answers" s_answers f fd) : FnOk P w K mg base CX0 29 f fd ["calls"] (spAns K) := by
  refine F.ok (k := 28) sc_answers (fun vs H Q E h => ?_) (fun cdv A outer s H vs Q E hr h => ?_)
  · obtain ⟨a, ns, rfl, _⟩ := h
    rfl
  obtain ⟨a, l, rfl, hS, hlen, hask, q⟩ := h
  have nd := sc_answers.nd
  obtain ⟨cs, hcs, hask1, hn400, hans⟩ := asked_parts hask
  refine ⟨_, pss_cons (ps_set (i := 1) nd rfl (Or.inl rfl) (pe_mk0 (mk_desk T) (hr.mono (by decide))))
    (pss_cons (ps_set (i := 2) nd rfl (Or.inl rfl) (pe_lst pa_nil))
    (pss_cons (ps_set (i := 3) nd rfl (Or.inl rfl) pe_int)
    (pss_cons (ps_while PassesOwn.never (pt_cmpR op_lt (pv 3) (pe_callB call_len_seq rfl T.b_len PySem.boot_len (pa_cons (pv 0) pa_nil)) (nomark _))
      (pss_cons (ps_set (i := 4) nd rfl (Or.inl rfl) (pe_ix ix_list (pv 0) (pv 3) (fun _ _ => rfl)))
      (pss_cons (ps_set (i := 5) nd rfl (Or.inl rfl) (pe_op op_add (pe_op op_add (pv 3) pe_int) (pe_ix ix_tup (pe_gr T.m_NUMBERS_OF) (pv 4) (fun _ _ => rfl))))
      (pss_cons (ps_set (i := 6) nd rfl (Or.inl rfl) (pe_slice sl_list (pv 0) (po_some (pe_op op_add (pv 3) pe_int)) (po_some (pv 5))))
      (pss_cons (ps_set (i := 7) nd rfl (Or.inl rfl) (pe_lst pa_nil))
      (pss_cons (ps_set (i := 3) nd rfl (Or.inl rfl) (pv 5))
      (pss_cons (ps_if (pt_cmpR op_eq (pe_ix ix_tup (pe_gr T.m_ROWS_OF) (pv 4) (fun _ _ => rfl)) pe_int (nomark _))
        (pss_cons (ps_set (i := 3) nd rfl (Or.inl rfl) (pe_op op_add (pe_op op_add (pv 5) pe_int) (pe_ix ix_list (pv 0) (pv 5) (fun _ _ => rfl))))
        (pss_one (ps_set (i := 7) nd rfl (Or.inl rfl) (pe_slice sl_list (pv 0) (po_some (pe_op op_add (pv 5) pe_int)) (po_some (pv 3)))))) pss_nil)
      (pss_cons (ps_set (i := 8) nd rfl (Or.inl rfl) (pe_ix ix_tup (pe_gr T.m_DEED_OF) (pv 4) (fun _ _ => rfl)))
      (pss_cons (ps_set (i := 9) nd rfl (Or.inl rfl) (pe_callV (k := 28) (i := 8) hr rfl rfl (pa_cons (pv 1) (pa_cons (pv 6) (pa_cons (pv 7) pa_nil)))))
      (pss_cons (ps_expr (pe_bm PySem.F.plainAttrs_list PySem.F.slot_list_append PySem.F.type_list_append mt_append (pv 2) (pa_cons (pe_callB call_len_seq rfl T.b_len PySem.boot_len (pa_cons (pv 9) pa_nil)) pa_nil)))
      (pss_one (ps_expr (pe_bm PySem.F.plainAttrs_list PySem.F.slot_list_extend PySem.F.type_list_extend mt_extend (pv 2) (pa_cons (pv 9) pa_nil))))))))))))))
    (pss_one (ps_ret (pv 2)))))), ?_⟩
  have nl : (l.map V.int).length = l.length := List.length_map _
  refine ⟨rfl, fun da pa H1 s1 hpa hD => ?_⟩
  refine ⟨szn 0 rfl, fun tp htp => ?_⟩
  have s2 := same_new htp (.lst [])
  refine ⟨fun m σ H' => ∃ (k : Nat) (st : Vbsgaj.State) (rest : List (List (List Int))) (done : List Int) (pa : Addr) (n f' : Nat) (v4 v5 v6 v7 v8 v9 : Option V), σ = [some (.ref a), some (.ref da), some (.ref tp), some (.int (k : Nat)), v4, v5, v6, v7, v8, v9] ∧ k ≤ l.length ∧ m = l.length - k ∧
      PyFlat.calls PyVbsgaj.shape f' (l.drop k) = some rest ∧ (∀ c ∈ rest, VbsgajNeutral.asked1 c = true) ∧ n + rest.length ≤ 400 ∧ DeskAt T H' da st pa n ∧ H' tp = some (.lst (done.map V.int)) ∧ tp ≠ pa ∧ done.length ≤ 101 * n ∧ ArgL K H' a (l.map V.int) pa tp ∧ PyVbsgaj.answers l = done ++ toldOf st rest,
    ⟨_, 0, Vbsgaj.start, cs, [], pa, 0, l.length, none, none, none, none, none, none, rfl, Nat.zero_le _, rfl, hcs, hask1, by omega, (hD 0).same s2, upd_same, ?_, Nat.zero_le _, ArgL.of hS hpa (s1.free htp) (s1.trans s2), by rw [hans]; rfl⟩, ?_⟩
  · obtain ⟨ga, sl, pas, sf, df, kv, R⟩ := hD 0
    exact (ne_of_none R.plst htp).symm
  rintro m σ H' ⟨k, st, rest, done, pa, n, f', v4, v5, v6, v7, v8, v9, rfl, hk, hm, hrest, hak, hn, hDk, htp', ntp, hdl, hA, hans'⟩
  refine ⟨_, rfl, _, rfl, a, _, rfl, .inl hA.sq, _, _, rfl, rfl, _, rfl, ?_⟩
  rw [nl]
  refine itD (fun c1 => ?_) (fun c1 => ?_)
  rotate_left
  · have ek : k = l.length := by have : ¬ (k : Int) < (l.length : Int) := c1; omega
    subst ek
    rw [List.drop_length] at hrest
    have er : rest = [] := by
      cases f' <;> exact (Option.some.inj hrest).symm
    subst er
    refine ⟨_, rfl, q H' tp ?_⟩
    rw [hans', show toldOf st [] = [] from rfl, List.append_nil]
    exact htp'
  have hlt : k < l.length := by have : (k : Int) < (l.length : Int) := c1; omega
  have hne : l.drop k ≠ [] := fun z => by
    have := congrArg List.length z
    rw [List.length_drop] at this
    simp at this
    omega
  obtain ⟨c, r, nn, kk, xs, t, rest', f2, hl, hc17, hsh, hnn, hrw, hr, hrest'⟩ := calls_step hrest hne
  obtain ⟨nn', kk', fa, hN, hRw, hDd, hsh', hkk, hDe⟩ := deed_ok (P := P) (w := w) (base := base) T c hc17
  rw [hsh] at hsh'
  have e12 := Option.some.inj hsh'
  have en : nn = nn' := congrArg Prod.fst e12
  have ekk : kk = kk' := congrArg Prod.snd e12
  subst en ekk
  obtain ⟨R, fd2, ps2, FO, kp, bnd, hcall⟩ := hDe
  have hat : l[k]? = some (c : Int) := by
    have : (l.drop k)[0]? = some (c : Int) := by rw [hl]; rfl
    rw [List.getElem?_drop] at this
    exact this
  have hdr : l.drop (k + 1) = r := by
    have : (l.drop k).drop 1 = r := by rw [hl]; rfl
    rw [List.drop_drop] at this
    exact this
  have hrl : r.length = l.length - (k + 1) := by rw [← hdr, List.length_drop]
  refine ⟨_, fun σ' H' h => h, ?_⟩
  refine ⟨_, rfl, _, rfl, a, _, _, _, rfl, rfl, hA.sq, at_map hat, ?_⟩
  refine ⟨_, rfl, _, _, rfl, rfl, _, rfl, T.aNUMBERS_OF, _, _, _, rfl, rfl, T.t_NUMBERS_OF.sq, hN, _, _, rfl, rfl, ?_⟩
  refine ⟨_, rfl, _, rfl, _, _, rfl, rfl, _, rfl, _, rfl, _, rfl, a, _, rfl, hA.sq, fun nu hnu0 => ?_⟩
  have ecut : cutV (l.map V.int) (some ((k : Int) + 1)) (some ((k : Int) + 1 + (nn : Int))) = (r.take nn).map V.int := by
    have := cut_mid (l := l) (i := k + 1) (j := k + 1 + nn) (by omega) (by omega)
    rw [hdr, show k + 1 + nn - (k + 1) = nn by omega] at this
    exact this
  have s3 : Same H' (upd H' nu (.lst (cutV (l.map V.int) (some ((k : Int) + 1)) (some ((k : Int) + 1 + (nn : Int)))))) := same_new hnu0 _
  have hnu : (upd H' nu (.lst (cutV (l.map V.int) (some ((k : Int) + 1)) (some ((k : Int) + 1 + (nn : Int)))))) nu = some (.lst ((r.take nn).map V.int)) := by rw [upd_same, ecut]
  refine ⟨szn 0 rfl, fun rp hrp => ?_⟩
  have s4 := s3.trans (same_new hrp (.lst []))
  have hnu4 := same_new hrp (.lst []) _ _ hnu
  have hA4 := hA.kept s4.kept
  have hns : (r.take nn).length = nn := by rw [List.length_take]; omega
  have hask0 := hak _ (by rw [hr]; exact List.mem_cons_self ..)
  refine ⟨_, rfl, ?_⟩
  refine ⟨_, rfl, T.aROWS_OF, _, _, _, rfl, rfl, T.t_ROWS_OF.sq, hRw, rfl, _, rfl, itI (fun e1 => ?_) (fun e1 => ?_)⟩
  · -- with a row
    have e1 : kk = 1 := by omega
    subst e1
    obtain ⟨mm, r', hr', hmm, hxs, ht⟩ := row_one hrw
    have hat2 : l[k + 1 + nn]? = some (mm : Int) := by
      have : (r.drop nn)[0]? = some (mm : Int) := by rw [hr']; rfl
      rw [List.getElem?_drop, ← hdr, List.getElem?_drop] at this
      exact this
    have hdr2 : l.drop (k + 1 + nn + 1) = r' := by
      have : (r.drop nn).drop 1 = r' := by rw [hr']; rfl
      rw [← hdr, List.drop_drop, List.drop_drop] at this
      exact this
    have hrl2 : r'.length = l.length - (k + 1 + nn + 1) := by rw [← hdr2, List.length_drop]
    have hlt2 : k + 1 + nn < l.length := (List.getElem?_eq_some_iff.mp hat2).1
    refine ⟨_, rfl, _, _, rfl, rfl, _, rfl, _, rfl, a, _, _, _, rfl, rfl, hA4.sq, at_map (k := k + 1 + nn) hat2, _, _, rfl, rfl, ?_⟩
    refine ⟨_, rfl, _, rfl, _, _, rfl, rfl, _, rfl, _, rfl, _, rfl, a, _, rfl, hA4.sq, fun ro hro0 => ?_⟩
    have ecut2 : cutV (l.map V.int) (some ((k : Int) + 1 + (nn : Int) + 1)) (some ((k : Int) + 1 + (nn : Int) + 1 + (mm : Int))) = (r'.take mm).map V.int := by
      have := cut_mid (l := l) (i := k + 1 + nn + 1) (j := k + 1 + nn + 1 + mm) (by omega) (by omega)
      rw [hdr2, show k + 1 + nn + 1 + mm - (k + 1 + nn + 1) = mm by omega] at this
      exact this
    have s5 := s4.trans (same_new hro0 (.lst (cutV (l.map V.int) (some ((k : Int) + 1 + (nn : Int) + 1)) (some ((k : Int) + 1 + (nn : Int) + 1 + (mm : Int))))))
    have hnu5 := same_new hro0 (.lst (cutV (l.map V.int) (some ((k : Int) + 1 + (nn : Int) + 1)) (some ((k : Int) + 1 + (nn : Int) + 1 + (mm : Int))))) _ _ hnu4
    subst hxs
    have hrs := asked_row hask0
    obtain ⟨d, hRd, hcd⟩ := hcall (r.take nn) (r'.take mm) [r'.take mm] hns (.inr ⟨rfl, rfl⟩)
    refine ⟨_, rfl, T.aDEED_OF, _, _, _, rfl, rfl, T.t_DEED_OF.sq, hDd, ?_⟩
    refine ⟨fa, fd2, ps2, _, rfl, FO, kp, bnd, _, rfl, _, rfl, _, rfl, _, _, _, rfl, da, nu, ro, st, pa, n, r.take nn, r'.take mm, d, rfl, rfl, rfl, hRd, hDk.same s5, ?_, hnu5, by rw [upd_same, ecut2], hrs, fun p H6 pa6 kp6 hD6 hp6 hl6 fr6 => ?_⟩
    · rw [hr] at hn
      simp at hn
      omega
    have kall := s5.kept.trans kp6
    obtain ⟨htp6, ntp6⟩ := kall.lst _ _ htp' ntp
    have nfp : tp ≠ p := fr6 tp _ (s5 _ _ htp') ntp
    have nln : ((Vbsgaj.step st d).2.map V.int).length = (Vbsgaj.step st d).2.length := List.length_map _
    rw [hr] at hn hak hans'
    have hn' : n + 1 + rest'.length ≤ 400 := by simp at hn; omega
    have hbig : (101 * 400 + 200 : Nat) < sizeLine := by decide
    refine ⟨_, rfl, .inl ⟨rfl, _, SqL.of htp6⟩, _, rfl, p, _, rfl, .inl (SqL.of hp6), tp, _, _, rfl, rfl, htp6, ?_, ?_⟩
    · rw [List.length_map]
      omega
    refine ⟨_, rfl, .inl ⟨rfl, _, SqL.of upd_same⟩, _, rfl, tp, p, _, _, rfl, rfl, upd_same, (by rw [upd_ne nfp.symm]; exact hp6), ?_, ?_⟩
    · rw [List.length_append, List.length_map, nln]
      show done.length + 1 + _ ≤ sizeLine
      omega
    rw [upd_upd]
    refine ⟨_, ?_, k + 1 + nn + 1 + mm, (Vbsgaj.step st d).1, rest', done ++ (((Vbsgaj.step st d).2.length : Int) :: (Vbsgaj.step st d).2), pa6, n + 1, f2, _, _, _, _, _, _, rfl, ?_, rfl, ?_, fun c hc => hak c (List.mem_cons_of_mem _ hc), hn', hD6.updT htp6 ntp6, ?_, ntp6, ?_, (hA.kept kall).updT htp6, ?_⟩
    · omega
    · omega
    · rw [ht, ← hdr2, List.drop_drop] at hrest'
      exact hrest'
    · rw [upd_same, List.map_append, List.map_cons, nln, List.append_assoc]
      all_goals rfl
    · rw [List.length_append, List.length_cons]
      omega
    · rw [hans', told_cons hcd, List.append_assoc]
  · -- no row
    have e1 : kk = 0 := by rcases hkk with z | z <;> omega
    subst e1
    obtain ⟨hxs, ht⟩ := row_zero hrw
    subst hxs
    obtain ⟨d, hRd, hcd⟩ := hcall (r.take nn) [] [] hns (.inl ⟨rfl, rfl⟩)
    have s5 := s4
    refine ⟨_, rfl, T.aDEED_OF, _, _, _, rfl, rfl, T.t_DEED_OF.sq, hDd, ?_⟩
    refine ⟨fa, fd2, ps2, _, rfl, FO, kp, bnd, _, rfl, _, rfl, _, rfl, _, _, _, rfl, da, nu, rp, st, pa, n, r.take nn, [], d, rfl, rfl, rfl, hRd, hDk.same s5, ?_, hnu4, upd_same, Nat.zero_le _, fun p H6 pa6 kp6 hD6 hp6 hl6 fr6 => ?_⟩
    · rw [hr] at hn
      simp at hn
      omega
    have kall := s5.kept.trans kp6
    obtain ⟨htp6, ntp6⟩ := kall.lst _ _ htp' ntp
    have nfp : tp ≠ p := fr6 tp _ (s5 _ _ htp') ntp
    have nln : ((Vbsgaj.step st d).2.map V.int).length = (Vbsgaj.step st d).2.length := List.length_map _
    rw [hr] at hn hak hans'
    have hn' : n + 1 + rest'.length ≤ 400 := by simp at hn; omega
    have hbig : (101 * 400 + 200 : Nat) < sizeLine := by decide
    refine ⟨_, rfl, .inl ⟨rfl, _, SqL.of htp6⟩, _, rfl, p, _, rfl, .inl (SqL.of hp6), tp, _, _, rfl, rfl, htp6, ?_, ?_⟩
    · rw [List.length_map]
      omega
    refine ⟨_, rfl, .inl ⟨rfl, _, SqL.of upd_same⟩, _, rfl, tp, p, _, _, rfl, rfl, upd_same, (by rw [upd_ne nfp.symm]; exact hp6), ?_, ?_⟩
    · rw [List.length_append, List.length_map, nln]
      show done.length + 1 + _ ≤ sizeLine
      omega
    rw [upd_upd]
    refine ⟨_, ?_, k + 1 + nn, (Vbsgaj.step st d).1, rest', done ++ (((Vbsgaj.step st d).2.length : Int) :: (Vbsgaj.step st d).2), pa6, n + 1, f2, _, _, _, _, _, _, rfl, ?_, rfl, ?_, fun c hc => hak c (List.mem_cons_of_mem _ hc), hn', hD6.updT htp6 ntp6, ?_, ntp6, ?_, (hA.kept kall).updT htp6, ?_⟩
    · omega
    · omega
    · rw [ht, ← hdr, List.drop_drop] at hrest'
      exact hrest'
    · rw [upd_same, List.map_append, List.map_cons, nln, List.append_assoc]
      all_goals rfl
    · rw [List.length_append, List.length_cons]
      omega
    · rw [hans', told_cons hcd, List.append_assoc]
end
end ST
set_option Elab.async false
set_option linter.all false
set_option maxRecDepth 100000
namespace ST
open PySem PySem.Spec PyProof.Rows L2 NKey
section
variable {K : PySem.W.Frag} {h : Heap} {mg : Str → Option Value} {R : Prop}
theorem with_fn {x : Str} {st : Stmt} {ps : List Str} {f : Addr} {oc kV doc pm cdv ct : Value} {od an : Option Addr} {osl : Array (Option Value)} (X : K.In h) (G : h.Ns mainGlobals mg)
    (hb : ∀ (kV doc pm : Value) (an : Option Addr) (cdv ct : Value) (us : List Value), us.length = ps.length → bindArgs (PySem.W.fnOf x x (defArgs st) (defBody st) (defScope st) .none kV doc pm an cdv ct) ⟨us, []⟩ = pure (ps.zip us))
    (a : PySem.W.nsIn K mainGlobals x = some (some (.ref f))) (l : K.lookup f = some ⟨oc, od, .func (PySem.W.fnOf x x (defArgs st) (defBody st) (defScope st) .none kV doc pm an cdv ct), osl⟩) (c : PySem.W.codeIn K cdv x = true) (k : PySem.W.keepIn K (.ref f) = true) (q : Fn K mg x st ps → R) : R := by
  have F := fun_mk (st := st) l c k
  exact q ⟨f, _, F, F.binds hb, PySem.W.mg_of X G a⟩
theorem with_int {x : Str} {n : Int} {t : Tok} (X : K.In h) (G : h.Ns mainGlobals mg) (a : PySem.W.nsIn K mainGlobals x = some (some (.int n t))) (q : (∃ t, mg x = some (.int n t)) → R) : R := q ⟨t, PySem.W.mg_of X G a⟩
theorem with_no {x : Str} (X : K.In h) (G : h.Ns mainGlobals mg) (a : PySem.W.nsIn K mainGlobals x = some none) (q : mg x = none → R) : R := q (PySem.W.mg_none_of X G a)
theorem mt_in {C f : Addr} {m qual : Str} {st : Stmt} {ps : List Str} {oc kV doc pm cdv ct : Value} {od an : Option Addr} {osl : Array (Option Value)}
    (hb : ∀ (kV doc pm : Value) (an : Option Addr) (cdv ct : Value) (us : List Value), us.length = ps.length → bindArgs (PySem.W.fnOf m qual (defArgs st) (defBody st) (defScope st) .none kV doc pm an cdv ct) ⟨us, []⟩ = pure (ps.zip us))
    (a : PySem.W.findIn K (.ref C) m = some (some (.ref f))) (i : PySem.W.isFn K (.ref f) = true) (l : K.lookup f = some ⟨oc, od, .func (PySem.W.fnOf m qual (defArgs st) (defBody st) (defScope st) .none kV doc pm an cdv ct), osl⟩) (c : PySem.W.codeIn K cdv qual = true) (k : PySem.W.keepIn K (.ref f) = true) : Mt K C m qual st ps := by
  have F := fun_mk (st := st) l c k
  exact ⟨f, _, F, F.binds hb, ⟨a, i, k⟩⟩
theorem ini_in {C f : Addr} {qual : Str} {st : Stmt} {ps : List Str} {oc kV doc pm cdv ct : Value} {od an : Option Addr} {osl : Array (Option Value)}
    (hb : ∀ (kV doc pm : Value) (an : Option Addr) (cdv ct : Value) (us : List Value), us.length = ps.length → bindArgs (PySem.W.fnOf "__init__" qual (defArgs st) (defBody st) (defScope st) .none kV doc pm an cdv ct) ⟨us, []⟩ = pure (ps.zip us))
    (a : PySem.W.findIn K (.ref C) "__init__" = some (some (.ref f))) (i : PySem.W.isFn K (.ref f) = true) (l : K.lookup f = some ⟨oc, od, .func (PySem.W.fnOf "__init__" qual (defArgs st) (defBody st) (defScope st) .none kV doc pm an cdv ct), osl⟩) (c : PySem.W.codeIn K cdv qual = true) (k : PySem.W.keepIn K (.ref f) = true)
    (mk : PySem.W.makesIn K C = true) (kc : PySem.W.keepIn K (.ref C) = true) : Ini K C qual st ps := by
  have F := fun_mk (st := st) l c k
  exact ⟨f, _, F, F.binds hb, ⟨mk, a, i, kc⟩⟩
theorem ne_by {C D : Addr} {m : Str} {v : Value} (a : PySem.W.findIn K (.ref C) m = some none) (b : PySem.W.findIn K (.ref D) m = some (some v)) : C ≠ D := fun e => by
  rw [e, b] at a
  cases a
theorem bi_first_game (kV doc pm : Value) (an : Option Addr) (cdv ct : Value) (us : List Value) (hl : us.length = ([] : List Str).length) : bindArgs (PySem.W.fnOf "first_game" "first_game" (defArgs s_first_game) (defBody s_first_game) (defScope s_first_game) .none kV doc pm an cdv ct) ⟨us, []⟩ = pure (([] : List Str).zip us) := match us, hl with | [], _ => rfl
theorem bi_at_place (kV doc pm : Value) (an : Option Addr) (cdv ct : Value) (us : List Value) (hl : us.length = (["company", "place"] : List Str).length) : bindArgs (PySem.W.fnOf "at_place" "at_place" (defArgs s_at_place) (defBody s_at_place) (defScope s_at_place) .none kV doc pm an cdv ct) ⟨us, []⟩ = pure ((["company", "place"] : List Str).zip us) := match us, hl with | [_, _], _ => rfl
theorem bi_with_company (kV doc pm : Value) (an : Option Addr) (cdv ct : Value) (us : List Value) (hl : us.length = (["companies", "number", "company"] : List Str).length) : bindArgs (PySem.W.fnOf "with_company" "with_company" (defArgs s_with_company) (defBody s_with_company) (defScope s_with_company) .none kV doc pm an cdv ct) ⟨us, []⟩ = pure ((["companies", "number", "company"] : List Str).zip us) := match us, hl with | [_, _, _], _ => rfl
theorem bi_price_of (kV doc pm : Value) (an : Option Addr) (cdv ct : Value) (us : List Value) (hl : us.length = (["company"] : List Str).length) : bindArgs (PySem.W.fnOf "price_of" "price_of" (defArgs s_price_of) (defBody s_price_of) (defScope s_price_of) .none kV doc pm an cdv ct) ⟨us, []⟩ = pure ((["company"] : List Str).zip us) := match us, hl with | [_], _ => rfl
theorem bi_worth_of (kV doc pm : Value) (an : Option Addr) (cdv ct : Value) (us : List Value) (hl : us.length = (["game", "player"] : List Str).length) : bindArgs (PySem.W.fnOf "worth_of" "worth_of" (defArgs s_worth_of) (defBody s_worth_of) (defScope s_worth_of) .none kV doc pm an cdv ct) ⟨us, []⟩ = pure ((["game", "player"] : List Str).zip us) := match us, hl with | [_, _], _ => rfl
theorem bi_swapped (kV doc pm : Value) (an : Option Addr) (cdv ct : Value) (us : List Value) (hl : us.length = (["game"] : List Str).length) : bindArgs (PySem.W.fnOf "swapped" "swapped" (defArgs s_swapped) (defBody s_swapped) (defScope s_swapped) .none kV doc pm an cdv ct) ⟨us, []⟩ = pure ((["game"] : List Str).zip us) := match us, hl with | [_], _ => rfl
theorem bi_turned_round (kV doc pm : Value) (an : Option Addr) (cdv ct : Value) (us : List Value) (hl : us.length = (["pair"] : List Str).length) : bindArgs (PySem.W.fnOf "turned_round" "turned_round" (defArgs s_turned_round) (defBody s_turned_round) (defScope s_turned_round) .none kV doc pm an cdv ct) ⟨us, []⟩ = pure ((["pair"] : List Str).zip us) := match us, hl with | [_], _ => rfl
theorem bi_with_shares (kV doc pm : Value) (an : Option Addr) (cdv ct : Value) (us : List Value) (hl : us.length = (["company", "shares"] : List Str).length) : bindArgs (PySem.W.fnOf "with_shares" "with_shares" (defArgs s_with_shares) (defBody s_with_shares) (defScope s_with_shares) .none kV doc pm an cdv ct) ⟨us, []⟩ = pure ((["company", "shares"] : List Str).zip us) := match us, hl with | [_, _], _ => rfl
theorem bi_scaled (kV doc pm : Value) (an : Option Addr) (cdv ct : Value) (us : List Value) (hl : us.length = (["game", "times"] : List Str).length) : bindArgs (PySem.W.fnOf "scaled" "scaled" (defArgs s_scaled) (defBody s_scaled) (defScope s_scaled) .none kV doc pm an cdv ct) ⟨us, []⟩ = pure ((["game", "times"] : List Str).zip us) := match us, hl with | [_, _], _ => rfl
theorem bi_scaled_company (kV doc pm : Value) (an : Option Addr) (cdv ct : Value) (us : List Value) (hl : us.length = (["company", "times"] : List Str).length) : bindArgs (PySem.W.fnOf "scaled_company" "scaled_company" (defArgs s_scaled_company) (defBody s_scaled_company) (defScope s_scaled_company) .none kV doc pm an cdv ct) ⟨us, []⟩ = pure ((["company", "times"] : List Str).zip us) := match us, hl with | [_, _], _ => rfl
theorem bi_all_times (kV doc pm : Value) (an : Option Addr) (cdv ct : Value) (us : List Value) (hl : us.length = (["numbers", "times"] : List Str).length) : bindArgs (PySem.W.fnOf "all_times" "all_times" (defArgs s_all_times) (defBody s_all_times) (defScope s_all_times) .none kV doc pm an cdv ct) ⟨us, []⟩ = pure ((["numbers", "times"] : List Str).zip us) := match us, hl with | [_, _], _ => rfl
theorem bi_with_other_turn (kV doc pm : Value) (an : Option Addr) (cdv ct : Value) (us : List Value) (hl : us.length = (["game"] : List Str).length) : bindArgs (PySem.W.fnOf "with_other_turn" "with_other_turn" (defArgs s_with_other_turn) (defBody s_with_other_turn) (defScope s_with_other_turn) .none kV doc pm an cdv ct) ⟨us, []⟩ = pure ((["game"] : List Str).zip us) := match us, hl with | [_], _ => rfl
theorem bi_with_place (kV doc pm : Value) (an : Option Addr) (cdv ct : Value) (us : List Value) (hl : us.length = (["game", "number", "place"] : List Str).length) : bindArgs (PySem.W.fnOf "with_place" "with_place" (defArgs s_with_place) (defBody s_with_place) (defScope s_with_place) .none kV doc pm an cdv ct) ⟨us, []⟩ = pure ((["game", "number", "place"] : List Str).zip us) := match us, hl with | [_, _, _], _ => rfl
theorem bi_orders_of (kV doc pm : Value) (an : Option Addr) (cdv ct : Value) (us : List Value) (hl : us.length = (["game"] : List Str).length) : bindArgs (PySem.W.fnOf "orders_of" "orders_of" (defArgs s_orders_of) (defBody s_orders_of) (defScope s_orders_of) .none kV doc pm an cdv ct) ⟨us, []⟩ = pure ((["game"] : List Str).zip us) := match us, hl with | [_], _ => rfl
theorem bi_deeds_of (kV doc pm : Value) (an : Option Addr) (cdv ct : Value) (us : List Value) (hl : us.length = (["company", "player", "money"] : List Str).length) : bindArgs (PySem.W.fnOf "deeds_of" "deeds_of" (defArgs s_deeds_of) (defBody s_deeds_of) (defScope s_deeds_of) .none kV doc pm an cdv ct) ⟨us, []⟩ = pure ((["company", "player", "money"] : List Str).zip us) := match us, hl with | [_, _, _], _ => rfl
theorem bi_game_behind (kV doc pm : Value) (an : Option Addr) (cdv ct : Value) (us : List Value) (hl : us.length = (["game", "order"] : List Str).length) : bindArgs (PySem.W.fnOf "game_behind" "game_behind" (defArgs s_game_behind) (defBody s_game_behind) (defScope s_game_behind) .none kV doc pm an cdv ct) ⟨us, []⟩ = pure ((["game", "order"] : List Str).zip us) := match us, hl with | [_, _], _ => rfl
theorem bi_money_behind (kV doc pm : Value) (an : Option Addr) (cdv ct : Value) (us : List Value) (hl : us.length = (["money", "company", "player", "deed"] : List Str).length) : bindArgs (PySem.W.fnOf "money_behind" "money_behind" (defArgs s_money_behind) (defBody s_money_behind) (defScope s_money_behind) .none kV doc pm an cdv ct) ⟨us, []⟩ = pure ((["money", "company", "player", "deed"] : List Str).zip us) := match us, hl with | [_, _, _, _], _ => rfl
theorem bi_company_behind (kV doc pm : Value) (an : Option Addr) (cdv ct : Value) (us : List Value) (hl : us.length = (["company", "player", "deed"] : List Str).length) : bindArgs (PySem.W.fnOf "company_behind" "company_behind" (defArgs s_company_behind) (defBody s_company_behind) (defScope s_company_behind) .none kV doc pm an cdv ct) ⟨us, []⟩ = pure ((["company", "player", "deed"] : List Str).zip us) := match us, hl with | [_, _, _], _ => rfl
theorem bi_with_more (kV doc pm : Value) (an : Option Addr) (cdv ct : Value) (us : List Value) (hl : us.length = (["pair", "player", "more"] : List Str).length) : bindArgs (PySem.W.fnOf "with_more" "with_more" (defArgs s_with_more) (defBody s_with_more) (defScope s_with_more) .none kV doc pm an cdv ct) ⟨us, []⟩ = pure ((["pair", "player", "more"] : List Str).zip us) := match us, hl with | [_, _, _], _ => rfl
theorem bi_traded (kV doc pm : Value) (an : Option Addr) (cdv ct : Value) (us : List Value) (hl : us.length = (["company", "player", "bought"] : List Str).length) : bindArgs (PySem.W.fnOf "traded" "traded" (defArgs s_traded) (defBody s_traded) (defScope s_traded) .none kV doc pm an cdv ct) ⟨us, []⟩ = pure ((["company", "player", "bought"] : List Str).zip us) := match us, hl with | [_, _, _], _ => rfl
theorem bi_moved (kV doc pm : Value) (an : Option Addr) (cdv ct : Value) (us : List Value) (hl : us.length = (["company", "step"] : List Str).length) : bindArgs (PySem.W.fnOf "moved" "moved" (defArgs s_moved) (defBody s_moved) (defScope s_moved) .none kV doc pm an cdv ct) ⟨us, []⟩ = pure ((["company", "step"] : List Str).zip us) := match us, hl with | [_, _], _ => rfl
theorem bi_best_line (kV doc pm : Value) (an : Option Addr) (cdv ct : Value) (us : List Value) (hl : us.length = (["search", "game"] : List Str).length) : bindArgs (PySem.W.fnOf "best_line" "best_line" (defArgs s_best_line) (defBody s_best_line) (defScope s_best_line) .none kV doc pm an cdv ct) ⟨us, []⟩ = pure ((["search", "game"] : List Str).zip us) := match us, hl with | [_, _], _ => rfl
theorem bi_duel_line (kV doc pm : Value) (an : Option Addr) (cdv ct : Value) (us : List Value) (hl : us.length = (["search", "game", "player", "row"] : List Str).length) : bindArgs (PySem.W.fnOf "duel_line" "duel_line" (defArgs s_duel_line) (defBody s_duel_line) (defScope s_duel_line) .none kV doc pm an cdv ct) ⟨us, []⟩ = pure ((["search", "game", "player", "row"] : List Str).zip us) := match us, hl with | [_, _, _, _], _ => rfl
theorem bi_game_at_end (kV doc pm : Value) (an : Option Addr) (cdv ct : Value) (us : List Value) (hl : us.length = (["game", "given"] : List Str).length) : bindArgs (PySem.W.fnOf "game_at_end" "game_at_end" (defArgs s_game_at_end) (defBody s_game_at_end) (defScope s_game_at_end) .none kV doc pm an cdv ct) ⟨us, []⟩ = pure ((["game", "given"] : List Str).zip us) := match us, hl with | [_, _], _ => rfl
theorem bi_too_many_positions (kV doc pm : Value) (an : Option Addr) (cdv ct : Value) (us : List Value) (hl : us.length = (["game"] : List Str).length) : bindArgs (PySem.W.fnOf "too_many_positions" "too_many_positions" (defArgs s_too_many_positions) (defBody s_too_many_positions) (defScope s_too_many_positions) .none kV doc pm an cdv ct) ⟨us, []⟩ = pure ((["game"] : List Str).zip us) := match us, hl with | [_], _ => rfl
theorem bi_reached (kV doc pm : Value) (an : Option Addr) (cdv ct : Value) (us : List Value) (hl : us.length = (["game", "goal"] : List Str).length) : bindArgs (PySem.W.fnOf "reached" "reached" (defArgs s_reached) (defBody s_reached) (defScope s_reached) .none kV doc pm an cdv ct) ⟨us, []⟩ = pure ((["game", "goal"] : List Str).zip us) := match us, hl with | [_, _], _ => rfl
theorem bi_plays_for_most (kV doc pm : Value) (an : Option Addr) (cdv ct : Value) (us : List Value) (hl : us.length = (["player", "goal"] : List Str).length) : bindArgs (PySem.W.fnOf "plays_for_most" "plays_for_most" (defArgs s_plays_for_most) (defBody s_plays_for_most) (defScope s_plays_for_most) .none kV doc pm an cdv ct) ⟨us, []⟩ = pure ((["player", "goal"] : List Str).zip us) := match us, hl with | [_, _], _ => rfl
theorem bi_key_of (kV doc pm : Value) (an : Option Addr) (cdv ct : Value) (us : List Value) (hl : us.length = (["game"] : List Str).length) : bindArgs (PySem.W.fnOf "key_of" "key_of" (defArgs s_key_of) (defBody s_key_of) (defScope s_key_of) .none kV doc pm an cdv ct) ⟨us, []⟩ = pure ((["game"] : List Str).zip us) := match us, hl with | [_], _ => rfl
theorem bi_company_fits (kV doc pm : Value) (an : Option Addr) (cdv ct : Value) (us : List Value) (hl : us.length = (["company"] : List Str).length) : bindArgs (PySem.W.fnOf "company_fits" "company_fits" (defArgs s_company_fits) (defBody s_company_fits) (defScope s_company_fits) .none kV doc pm an cdv ct) ⟨us, []⟩ = pure ((["company"] : List Str).zip us) := match us, hl with | [_], _ => rfl
theorem bi_prices_fit (kV doc pm : Value) (an : Option Addr) (cdv ct : Value) (us : List Value) (hl : us.length = (["prices"] : List Str).length) : bindArgs (PySem.W.fnOf "prices_fit" "prices_fit" (defArgs s_prices_fit) (defBody s_prices_fit) (defScope s_prices_fit) .none kV doc pm an cdv ct) ⟨us, []⟩ = pure ((["prices"] : List Str).zip us) := match us, hl with | [_], _ => rfl
theorem bi_players_fit (kV doc pm : Value) (an : Option Addr) (cdv ct : Value) (us : List Value) (hl : us.length = (["game"] : List Str).length) : bindArgs (PySem.W.fnOf "players_fit" "players_fit" (defArgs s_players_fit) (defBody s_players_fit) (defScope s_players_fit) .none kV doc pm an cdv ct) ⟨us, []⟩ = pure ((["game"] : List Str).zip us) := match us, hl with | [_], _ => rfl
theorem bi_money_fits (kV doc pm : Value) (an : Option Addr) (cdv ct : Value) (us : List Value) (hl : us.length = (["game"] : List Str).length) : bindArgs (PySem.W.fnOf "money_fits" "money_fits" (defArgs s_money_fits) (defBody s_money_fits) (defScope s_money_fits) .none kV doc pm an cdv ct) ⟨us, []⟩ = pure ((["game"] : List Str).zip us) := match us, hl with | [_], _ => rfl
theorem bi_search_refusal (kV doc pm : Value) (an : Option Addr) (cdv ct : Value) (us : List Value) (hl : us.length = (["number_fits", "game"] : List Str).length) : bindArgs (PySem.W.fnOf "search_refusal" "search_refusal" (defArgs s_search_refusal) (defBody s_search_refusal) (defScope s_search_refusal) .none kV doc pm an cdv ct) ⟨us, []⟩ = pure ((["number_fits", "game"] : List Str).zip us) := match us, hl with | [_, _], _ => rfl
theorem bi_both_worths (kV doc pm : Value) (an : Option Addr) (cdv ct : Value) (us : List Value) (hl : us.length = (["game"] : List Str).length) : bindArgs (PySem.W.fnOf "both_worths" "both_worths" (defArgs s_both_worths) (defBody s_both_worths) (defScope s_both_worths) .none kV doc pm an cdv ct) ⟨us, []⟩ = pure ((["game"] : List Str).zip us) := match us, hl with | [_], _ => rfl
theorem bi_line_told (kV doc pm : Value) (an : Option Addr) (cdv ct : Value) (us : List Value) (hl : us.length = (["game", "given"] : List Str).length) : bindArgs (PySem.W.fnOf "line_told" "line_told" (defArgs s_line_told) (defBody s_line_told) (defScope s_line_told) .none kV doc pm an cdv ct) ⟨us, []⟩ = pure ((["game", "given"] : List Str).zip us) := match us, hl with | [_, _], _ => rfl
theorem bi_add_company (kV doc pm : Value) (an : Option Addr) (cdv ct : Value) (us : List Value) (hl : us.length = (["desk", "numbers", "row"] : List Str).length) : bindArgs (PySem.W.fnOf "add_company" "add_company" (defArgs s_add_company) (defBody s_add_company) (defScope s_add_company) .none kV doc pm an cdv ct) ⟨us, []⟩ = pure ((["desk", "numbers", "row"] : List Str).zip us) := match us, hl with | [_, _, _], _ => rfl
theorem bi_set_players (kV doc pm : Value) (an : Option Addr) (cdv ct : Value) (us : List Value) (hl : us.length = (["desk", "numbers", "row"] : List Str).length) : bindArgs (PySem.W.fnOf "set_players" "set_players" (defArgs s_set_players) (defBody s_set_players) (defScope s_set_players) .none kV doc pm an cdv ct) ⟨us, []⟩ = pure ((["desk", "numbers", "row"] : List Str).zip us) := match us, hl with | [_, _, _], _ => rfl
theorem bi_show (kV doc pm : Value) (an : Option Addr) (cdv ct : Value) (us : List Value) (hl : us.length = (["desk", "numbers", "row"] : List Str).length) : bindArgs (PySem.W.fnOf "show" "show" (defArgs s_show) (defBody s_show) (defScope s_show) .none kV doc pm an cdv ct) ⟨us, []⟩ = pure ((["desk", "numbers", "row"] : List Str).zip us) := match us, hl with | [_, _, _], _ => rfl
theorem bi_list_orders (kV doc pm : Value) (an : Option Addr) (cdv ct : Value) (us : List Value) (hl : us.length = (["desk", "numbers", "row"] : List Str).length) : bindArgs (PySem.W.fnOf "list_orders" "list_orders" (defArgs s_list_orders) (defBody s_list_orders) (defScope s_list_orders) .none kV doc pm an cdv ct) ⟨us, []⟩ = pure ((["desk", "numbers", "row"] : List Str).zip us) := match us, hl with | [_, _, _], _ => rfl
theorem bi_play (kV doc pm : Value) (an : Option Addr) (cdv ct : Value) (us : List Value) (hl : us.length = (["desk", "numbers", "row"] : List Str).length) : bindArgs (PySem.W.fnOf "play" "play" (defArgs s_play) (defBody s_play) (defScope s_play) .none kV doc pm an cdv ct) ⟨us, []⟩ = pure ((["desk", "numbers", "row"] : List Str).zip us) := match us, hl with | [_, _, _], _ => rfl
theorem bi_undo (kV doc pm : Value) (an : Option Addr) (cdv ct : Value) (us : List Value) (hl : us.length = (["desk", "numbers", "row"] : List Str).length) : bindArgs (PySem.W.fnOf "undo" "undo" (defArgs s_undo) (defBody s_undo) (defScope s_undo) .none kV doc pm an cdv ct) ⟨us, []⟩ = pure ((["desk", "numbers", "row"] : List Str).zip us) := match us, hl with | [_, _, _], _ => rfl
theorem bi_tell_worths (kV doc pm : Value) (an : Option Addr) (cdv ct : Value) (us : List Value) (hl : us.length = (["desk", "numbers", "row"] : List Str).length) : bindArgs (PySem.W.fnOf "tell_worths" "tell_worths" (defArgs s_tell_worths) (defBody s_tell_worths) (defScope s_tell_worths) .none kV doc pm an cdv ct) ⟨us, []⟩ = pure ((["desk", "numbers", "row"] : List Str).zip us) := match us, hl with | [_, _, _], _ => rfl
theorem bi_tell_value (kV doc pm : Value) (an : Option Addr) (cdv ct : Value) (us : List Value) (hl : us.length = (["desk", "numbers", "row"] : List Str).length) : bindArgs (PySem.W.fnOf "tell_value" "tell_value" (defArgs s_tell_value) (defBody s_tell_value) (defScope s_tell_value) .none kV doc pm an cdv ct) ⟨us, []⟩ = pure ((["desk", "numbers", "row"] : List Str).zip us) := match us, hl with | [_, _, _], _ => rfl
theorem bi_tell_best (kV doc pm : Value) (an : Option Addr) (cdv ct : Value) (us : List Value) (hl : us.length = (["desk", "numbers", "row"] : List Str).length) : bindArgs (PySem.W.fnOf "tell_best" "tell_best" (defArgs s_tell_best) (defBody s_tell_best) (defScope s_tell_best) .none kV doc pm an cdv ct) ⟨us, []⟩ = pure ((["desk", "numbers", "row"] : List Str).zip us) := match us, hl with | [_, _, _], _ => rfl
theorem bi_tell_values (kV doc pm : Value) (an : Option Addr) (cdv ct : Value) (us : List Value) (hl : us.length = (["desk", "numbers", "row"] : List Str).length) : bindArgs (PySem.W.fnOf "tell_values" "tell_values" (defArgs s_tell_values) (defBody s_tell_values) (defScope s_tell_values) .none kV doc pm an cdv ct) ⟨us, []⟩ = pure ((["desk", "numbers", "row"] : List Str).zip us) := match us, hl with | [_, _, _], _ => rfl
theorem bi_tell_line (kV doc pm : Value) (an : Option Addr) (cdv ct : Value) (us : List Value) (hl : us.length = (["desk", "numbers", "row"] : List Str).length) : bindArgs (PySem.W.fnOf "tell_line" "tell_line" (defArgs s_tell_line) (defBody s_tell_line) (defScope s_tell_line) .none kV doc pm an cdv ct) ⟨us, []⟩ = pure ((["desk", "numbers", "row"] : List Str).zip us) := match us, hl with | [_, _, _], _ => rfl
theorem bi_tell_duel (kV doc pm : Value) (an : Option Addr) (cdv ct : Value) (us : List Value) (hl : us.length = (["desk", "numbers", "row"] : List Str).length) : bindArgs (PySem.W.fnOf "tell_duel" "tell_duel" (defArgs s_tell_duel) (defBody s_tell_duel) (defScope s_tell_duel) .none kV doc pm an cdv ct) ⟨us, []⟩ = pure ((["desk", "numbers", "row"] : List Str).zip us) := match us, hl with | [_, _, _], _ => rfl
theorem bi_swap_players (kV doc pm : Value) (an : Option Addr) (cdv ct : Value) (us : List Value) (hl : us.length = (["desk", "numbers", "row"] : List Str).length) : bindArgs (PySem.W.fnOf "swap_players" "swap_players" (defArgs s_swap_players) (defBody s_swap_players) (defScope s_swap_players) .none kV doc pm an cdv ct) ⟨us, []⟩ = pure ((["desk", "numbers", "row"] : List Str).zip us) := match us, hl with | [_, _, _], _ => rfl
theorem bi_scale_money (kV doc pm : Value) (an : Option Addr) (cdv ct : Value) (us : List Value) (hl : us.length = (["desk", "numbers", "row"] : List Str).length) : bindArgs (PySem.W.fnOf "scale_money" "scale_money" (defArgs s_scale_money) (defBody s_scale_money) (defScope s_scale_money) .none kV doc pm an cdv ct) ⟨us, []⟩ = pure ((["desk", "numbers", "row"] : List Str).zip us) := match us, hl with | [_, _, _], _ => rfl
theorem bi_clear_all (kV doc pm : Value) (an : Option Addr) (cdv ct : Value) (us : List Value) (hl : us.length = (["desk", "numbers", "row"] : List Str).length) : bindArgs (PySem.W.fnOf "clear_all" "clear_all" (defArgs s_clear_all) (defBody s_clear_all) (defScope s_clear_all) .none kV doc pm an cdv ct) ⟨us, []⟩ = pure ((["desk", "numbers", "row"] : List Str).zip us) := match us, hl with | [_, _, _], _ => rfl
theorem bi_tell_tempo (kV doc pm : Value) (an : Option Addr) (cdv ct : Value) (us : List Value) (hl : us.length = (["desk", "numbers", "row"] : List Str).length) : bindArgs (PySem.W.fnOf "tell_tempo" "tell_tempo" (defArgs s_tell_tempo) (defBody s_tell_tempo) (defScope s_tell_tempo) .none kV doc pm an cdv ct) ⟨us, []⟩ = pure ((["desk", "numbers", "row"] : List Str).zip us) := match us, hl with | [_, _, _], _ => rfl
theorem bi_set_place (kV doc pm : Value) (an : Option Addr) (cdv ct : Value) (us : List Value) (hl : us.length = (["desk", "numbers", "row"] : List Str).length) : bindArgs (PySem.W.fnOf "set_place" "set_place" (defArgs s_set_place) (defBody s_set_place) (defScope s_set_place) .none kV doc pm an cdv ct) ⟨us, []⟩ = pure ((["desk", "numbers", "row"] : List Str).zip us) := match us, hl with | [_, _, _], _ => rfl
theorem bi_answers (kV doc pm : Value) (an : Option Addr) (cdv ct : Value) (us : List Value) (hl : us.length = (["calls"] : List Str).length) : bindArgs (PySem.W.fnOf "answers" "answers" (defArgs s_answers) (defBody s_answers) (defScope s_answers) .none kV doc pm an cdv ct) ⟨us, []⟩ = pure ((["calls"] : List Str).zip us) := match us, hl with | [_], _ => rfl
theorem bi_initCC (kV doc pm : Value) (an : Option Addr) (cdv ct : Value) (us : List Value) (hl : us.length = (["self", "place", "pay", "shares", "pool", "prices"] : List Str).length) : bindArgs (PySem.W.fnOf "__init__" "Company.__init__" (defArgs s_initCC) (defBody s_initCC) (defScope s_initCC) .none kV doc pm an cdv ct) ⟨us, []⟩ = pure ((["self", "place", "pay", "shares", "pool", "prices"] : List Str).zip us) := match us, hl with | [_, _, _, _, _, _], _ => rfl
theorem bi_initCG (kV doc pm : Value) (an : Option Addr) (cdv ct : Value) (us : List Value) (hl : us.length = (["self", "money", "turn", "left", "companies"] : List Str).length) : bindArgs (PySem.W.fnOf "__init__" "Game.__init__" (defArgs s_initCG) (defBody s_initCG) (defScope s_initCG) .none kV doc pm an cdv ct) ⟨us, []⟩ = pure ((["self", "money", "turn", "left", "companies"] : List Str).zip us) := match us, hl with | [_, _, _, _, _], _ => rfl
theorem bi_initCS (kV doc pm : Value) (an : Option Addr) (cdv ct : Value) (us : List Value) (hl : us.length = (["self", "goal"] : List Str).length) : bindArgs (PySem.W.fnOf "__init__" "Search.__init__" (defArgs s_initCS) (defBody s_initCS) (defScope s_initCS) .none kV doc pm an cdv ct) ⟨us, []⟩ = pure ((["self", "goal"] : List Str).zip us) := match us, hl with | [_, _], _ => rfl
theorem bi_initCD (kV doc pm : Value) (an : Option Addr) (cdv ct : Value) (us : List Value) (hl : us.length = (["self"] : List Str).length) : bindArgs (PySem.W.fnOf "__init__" "Desk.__init__" (defArgs s_initCD) (defBody s_initCD) (defScope s_initCD) .none kV doc pm an cdv ct) ⟨us, []⟩ = pure ((["self"] : List Str).zip us) := match us, hl with | [_], _ => rfl
theorem bi_value (kV doc pm : Value) (an : Option Addr) (cdv ct : Value) (us : List Value) (hl : us.length = (["self", "game"] : List Str).length) : bindArgs (PySem.W.fnOf "value" "Search.value" (defArgs s_value) (defBody s_value) (defScope s_value) .none kV doc pm an cdv ct) ⟨us, []⟩ = pure ((["self", "game"] : List Str).zip us) := match us, hl with | [_, _], _ => rfl
theorem bi_chosen_value (kV doc pm : Value) (an : Option Addr) (cdv ct : Value) (us : List Value) (hl : us.length = (["self", "game"] : List Str).length) : bindArgs (PySem.W.fnOf "chosen_value" "Search.chosen_value" (defArgs s_chosen_value) (defBody s_chosen_value) (defScope s_chosen_value) .none kV doc pm an cdv ct) ⟨us, []⟩ = pure ((["self", "game"] : List Str).zip us) := match us, hl with | [_, _], _ => rfl
theorem bi_best_order (kV doc pm : Value) (an : Option Addr) (cdv ct : Value) (us : List Value) (hl : us.length = (["self", "game"] : List Str).length) : bindArgs (PySem.W.fnOf "best_order" "Search.best_order" (defArgs s_best_order) (defBody s_best_order) (defScope s_best_order) .none kV doc pm an cdv ct) ⟨us, []⟩ = pure ((["self", "game"] : List Str).zip us) := match us, hl with | [_, _], _ => rfl
theorem bi_begin_with (kV doc pm : Value) (an : Option Addr) (cdv ct : Value) (us : List Value) (hl : us.length = (["self", "game"] : List Str).length) : bindArgs (PySem.W.fnOf "begin_with" "Desk.begin_with" (defArgs s_begin_with) (defBody s_begin_with) (defScope s_begin_with) .none kV doc pm an cdv ct) ⟨us, []⟩ = pure ((["self", "game"] : List Str).zip us) := match us, hl with | [_, _], _ => rfl
theorem with_CC {C fI : Addr} {ocI kVI docI pmI cdvI ctI : Value} {odI anI : Option Addr} {oslI : Array (Option Value)} (X : K.In h) (G : h.Ns mainGlobals mg)
    (a : PySem.W.nsIn K mainGlobals "Company" = some (some (.ref C))) (pg : PySem.W.plainGet K C Str.empty = true) (hd : PySem.W.hasDictIn K C = true) (po : PySem.W.plainOver K C = true) (sa : PySem.W.findIn K (.ref C) "__setattr__" = some (some (.builtin "object.__setattr__"))) (mk : PySem.W.makesIn K C = true) (kc : PySem.W.keepIn K (.ref C) = true) (aI : PySem.W.findIn K (.ref C) "__init__" = some (some (.ref fI))) (iI : PySem.W.isFn K (.ref fI) = true) (lI : K.lookup fI = some ⟨ocI, odI, .func (PySem.W.fnOf "__init__" "Company.__init__" (defArgs s_initCC) (defBody s_initCC) (defScope s_initCC) .none kVI docI pmI anI cdvI ctI), oslI⟩) (cI : PySem.W.codeIn K cdvI "Company.__init__" = true) (kI : PySem.W.keepIn K (.ref fI) = true) (n_place : PySem.W.findIn K (.ref C) "place" = some none) (n_pay : PySem.W.findIn K (.ref C) "pay" = some none) (n_shares : PySem.W.findIn K (.ref C) "shares" = some none) (n_pool : PySem.W.findIn K (.ref C) "pool" = some none) (n_prices : PySem.W.findIn K (.ref C) "prices" = some none) (nb : PySem.W.findIn K (.ref C) "begin_with" = some none)
    (q : ∀ C, Cls K C → mg "Company" = some (.ref C) → Ini K C "Company.__init__" s_initCC ["self", "place", "pay", "shares", "pool", "prices"] → NoAttr K C "place" → NoAttr K C "pay" → NoAttr K C "shares" → NoAttr K C "pool" → NoAttr K C "prices" → NoAttr K C "begin_with" → R) : R :=
  q C ⟨pg, hd, po, sa⟩ (PySem.W.mg_of X G a) (ini_in bi_initCC aI iI lI cI kI mk kc) n_place n_pay n_shares n_pool n_prices nb
theorem with_CG {C fI : Addr} {ocI kVI docI pmI cdvI ctI : Value} {odI anI : Option Addr} {oslI : Array (Option Value)} (X : K.In h) (G : h.Ns mainGlobals mg)
    (a : PySem.W.nsIn K mainGlobals "Game" = some (some (.ref C))) (pg : PySem.W.plainGet K C Str.empty = true) (hd : PySem.W.hasDictIn K C = true) (po : PySem.W.plainOver K C = true) (sa : PySem.W.findIn K (.ref C) "__setattr__" = some (some (.builtin "object.__setattr__"))) (mk : PySem.W.makesIn K C = true) (kc : PySem.W.keepIn K (.ref C) = true) (aI : PySem.W.findIn K (.ref C) "__init__" = some (some (.ref fI))) (iI : PySem.W.isFn K (.ref fI) = true) (lI : K.lookup fI = some ⟨ocI, odI, .func (PySem.W.fnOf "__init__" "Game.__init__" (defArgs s_initCG) (defBody s_initCG) (defScope s_initCG) .none kVI docI pmI anI cdvI ctI), oslI⟩) (cI : PySem.W.codeIn K cdvI "Game.__init__" = true) (kI : PySem.W.keepIn K (.ref fI) = true) (n_money : PySem.W.findIn K (.ref C) "money" = some none) (n_turn : PySem.W.findIn K (.ref C) "turn" = some none) (n_left : PySem.W.findIn K (.ref C) "left" = some none) (n_companies : PySem.W.findIn K (.ref C) "companies" = some none) (nb : PySem.W.findIn K (.ref C) "begin_with" = some none)
    (q : ∀ C, Cls K C → mg "Game" = some (.ref C) → Ini K C "Game.__init__" s_initCG ["self", "money", "turn", "left", "companies"] → NoAttr K C "money" → NoAttr K C "turn" → NoAttr K C "left" → NoAttr K C "companies" → NoAttr K C "begin_with" → R) : R :=
  q C ⟨pg, hd, po, sa⟩ (PySem.W.mg_of X G a) (ini_in bi_initCG aI iI lI cI kI mk kc) n_money n_turn n_left n_companies nb
theorem with_CS {C fI : Addr} {f0 : Addr} {f1 : Addr} {f2 : Addr} {ocI kVI docI pmI cdvI ctI : Value} {odI anI : Option Addr} {oslI : Array (Option Value)} {oc0 kV0 doc0 pm0 cdv0 ct0 : Value} {od0 an0 : Option Addr} {osl0 : Array (Option Value)} {oc1 kV1 doc1 pm1 cdv1 ct1 : Value} {od1 an1 : Option Addr} {osl1 : Array (Option Value)} {oc2 kV2 doc2 pm2 cdv2 ct2 : Value} {od2 an2 : Option Addr} {osl2 : Array (Option Value)} (X : K.In h) (G : h.Ns mainGlobals mg)
    (a : PySem.W.nsIn K mainGlobals "Search" = some (some (.ref C))) (pg : PySem.W.plainGet K C Str.empty = true) (hd : PySem.W.hasDictIn K C = true) (po : PySem.W.plainOver K C = true) (sa : PySem.W.findIn K (.ref C) "__setattr__" = some (some (.builtin "object.__setattr__"))) (mk : PySem.W.makesIn K C = true) (kc : PySem.W.keepIn K (.ref C) = true) (aI : PySem.W.findIn K (.ref C) "__init__" = some (some (.ref fI))) (iI : PySem.W.isFn K (.ref fI) = true) (lI : K.lookup fI = some ⟨ocI, odI, .func (PySem.W.fnOf "__init__" "Search.__init__" (defArgs s_initCS) (defBody s_initCS) (defScope s_initCS) .none kVI docI pmI anI cdvI ctI), oslI⟩) (cI : PySem.W.codeIn K cdvI "Search.__init__" = true) (kI : PySem.W.keepIn K (.ref fI) = true) (a0 : PySem.W.findIn K (.ref C) "value" = some (some (.ref f0))) (i0 : PySem.W.isFn K (.ref f0) = true) (l0 : K.lookup f0 = some ⟨oc0, od0, .func (PySem.W.fnOf "value" "Search.value" (defArgs s_value) (defBody s_value) (defScope s_value) .none kV0 doc0 pm0 an0 cdv0 ct0), osl0⟩) (c0 : PySem.W.codeIn K cdv0 "Search.value" = true) (k0 : PySem.W.keepIn K (.ref f0) = true) (a1 : PySem.W.findIn K (.ref C) "chosen_value" = some (some (.ref f1))) (i1 : PySem.W.isFn K (.ref f1) = true) (l1 : K.lookup f1 = some ⟨oc1, od1, .func (PySem.W.fnOf "chosen_value" "Search.chosen_value" (defArgs s_chosen_value) (defBody s_chosen_value) (defScope s_chosen_value) .none kV1 doc1 pm1 an1 cdv1 ct1), osl1⟩) (c1 : PySem.W.codeIn K cdv1 "Search.chosen_value" = true) (k1 : PySem.W.keepIn K (.ref f1) = true) (a2 : PySem.W.findIn K (.ref C) "best_order" = some (some (.ref f2))) (i2 : PySem.W.isFn K (.ref f2) = true) (l2 : K.lookup f2 = some ⟨oc2, od2, .func (PySem.W.fnOf "best_order" "Search.best_order" (defArgs s_best_order) (defBody s_best_order) (defScope s_best_order) .none kV2 doc2 pm2 an2 cdv2 ct2), osl2⟩) (c2 : PySem.W.codeIn K cdv2 "Search.best_order" = true) (k2 : PySem.W.keepIn K (.ref f2) = true) (n_goal : PySem.W.findIn K (.ref C) "goal" = some none) (n_known : PySem.W.findIn K (.ref C) "known" = some none) (nb : PySem.W.findIn K (.ref C) "begin_with" = some none)
    (q : ∀ C, Cls K C → mg "Search" = some (.ref C) → Ini K C "Search.__init__" s_initCS ["self", "goal"] → Mt K C "value" "Search.value" s_value ["self", "game"] → Mt K C "chosen_value" "Search.chosen_value" s_chosen_value ["self", "game"] → Mt K C "best_order" "Search.best_order" s_best_order ["self", "game"] → NoAttr K C "goal" → NoAttr K C "known" → NoAttr K C "begin_with" → R) : R :=
  q C ⟨pg, hd, po, sa⟩ (PySem.W.mg_of X G a) (ini_in bi_initCS aI iI lI cI kI mk kc) (mt_in bi_value a0 i0 l0 c0 k0) (mt_in bi_chosen_value a1 i1 l1 c1 k1) (mt_in bi_best_order a2 i2 l2 c2 k2) n_goal n_known nb
theorem with_CD {C fI : Addr} {f0 : Addr} {ocI kVI docI pmI cdvI ctI : Value} {odI anI : Option Addr} {oslI : Array (Option Value)} {oc0 kV0 doc0 pm0 cdv0 ct0 : Value} {od0 an0 : Option Addr} {osl0 : Array (Option Value)} (X : K.In h) (G : h.Ns mainGlobals mg)
    (a : PySem.W.nsIn K mainGlobals "Desk" = some (some (.ref C))) (pg : PySem.W.plainGet K C Str.empty = true) (hd : PySem.W.hasDictIn K C = true) (po : PySem.W.plainOver K C = true) (sa : PySem.W.findIn K (.ref C) "__setattr__" = some (some (.builtin "object.__setattr__"))) (mk : PySem.W.makesIn K C = true) (kc : PySem.W.keepIn K (.ref C) = true) (aI : PySem.W.findIn K (.ref C) "__init__" = some (some (.ref fI))) (iI : PySem.W.isFn K (.ref fI) = true) (lI : K.lookup fI = some ⟨ocI, odI, .func (PySem.W.fnOf "__init__" "Desk.__init__" (defArgs s_initCD) (defBody s_initCD) (defScope s_initCD) .none kVI docI pmI anI cdvI ctI), oslI⟩) (cI : PySem.W.codeIn K cdvI "Desk.__init__" = true) (kI : PySem.W.keepIn K (.ref fI) = true) (a0 : PySem.W.findIn K (.ref C) "begin_with" = some (some (.ref f0))) (i0 : PySem.W.isFn K (.ref f0) = true) (l0 : K.lookup f0 = some ⟨oc0, od0, .func (PySem.W.fnOf "begin_with" "Desk.begin_with" (defArgs s_begin_with) (defBody s_begin_with) (defScope s_begin_with) .none kV0 doc0 pm0 an0 cdv0 ct0), osl0⟩) (c0 : PySem.W.codeIn K cdv0 "Desk.begin_with" = true) (k0 : PySem.W.keepIn K (.ref f0) = true) (n_game : PySem.W.findIn K (.ref C) "game" = some none) (n_past : PySem.W.findIn K (.ref C) "past" = some none) (n_searches : PySem.W.findIn K (.ref C) "searches" = some none)
    (q : ∀ C, Cls K C → mg "Desk" = some (.ref C) → Ini K C "Desk.__init__" s_initCD ["self"] → Mt K C "begin_with" "Desk.begin_with" s_begin_with ["self", "game"] → NoAttr K C "game" → NoAttr K C "past" → NoAttr K C "searches" → (∃ f, PySem.W.findIn K (.ref C) "begin_with" = some (some f)) → R) : R :=
  q C ⟨pg, hd, po, sa⟩ (PySem.W.mg_of X G a) (ini_in bi_initCD aI iI lI cI kI mk kc) (mt_in bi_begin_with a0 i0 l0 c0 k0) n_game n_past n_searches ⟨_, a0⟩
theorem with_GOALS {a : Addr} {t0 t1 t2 : Tok} {n : Nat} {dct : Option Addr} {sl : Array (Option Value)} (X : K.In h) (G : h.Ns mainGlobals mg) (a0 : PySem.W.nsIn K mainGlobals "GOALS" = some (some (.ref a))) (l : K.lookup a = some ⟨.type "tuple", dct, .seq #[.int 0 t0, .int 1 t1, .int 2 t2] n, sl⟩) (q : ∀ a, mg "GOALS" = some (.ref a) → KTup K a [.int 0, .int 1, .int 2] → R) : R :=
  q a (PySem.W.mg_of X G a0) ⟨_, _, n, l, rfl, rfl, (by show 3 ≤ sizeLine; decide), .cons ⟨_, rfl⟩ (.cons ⟨_, rfl⟩ (.cons ⟨_, rfl⟩ (.nil)))⟩
theorem with_PLAYERS {a : Addr} {t0 t1 : Tok} {n : Nat} {dct : Option Addr} {sl : Array (Option Value)} (X : K.In h) (G : h.Ns mainGlobals mg) (a0 : PySem.W.nsIn K mainGlobals "PLAYERS" = some (some (.ref a))) (l : K.lookup a = some ⟨.type "tuple", dct, .seq #[.int 0 t0, .int 1 t1] n, sl⟩) (q : ∀ a, mg "PLAYERS" = some (.ref a) → KTup K a [.int 0, .int 1] → R) : R :=
  q a (PySem.W.mg_of X G a0) ⟨_, _, n, l, rfl, rfl, (by show 2 ≤ sizeLine; decide), .cons ⟨_, rfl⟩ (.cons ⟨_, rfl⟩ (.nil))⟩
theorem with_NUMBERS_OF {a : Addr} {t0 t1 t2 t3 t4 t5 t6 t7 t8 t9 t10 t11 t12 t13 t14 t15 t16 : Tok} {n : Nat} {dct : Option Addr} {sl : Array (Option Value)} (X : K.In h) (G : h.Ns mainGlobals mg) (a0 : PySem.W.nsIn K mainGlobals "NUMBERS_OF" = some (some (.ref a))) (l : K.lookup a = some ⟨.type "tuple", dct, .seq #[.int 5 t0, .int 4 t1, .int 0 t2, .int 0 t3, .int 1 t4, .int 0 t5, .int 0 t6, .int 1 t7, .int 1 t8, .int 1 t9, .int 1 t10, .int 1 t11, .int 0 t12, .int 1 t13, .int 0 t14, .int 1 t15, .int 2 t16] n, sl⟩) (q : ∀ a, mg "NUMBERS_OF" = some (.ref a) → KTup K a [.int 5, .int 4, .int 0, .int 0, .int 1, .int 0, .int 0, .int 1, .int 1, .int 1, .int 1, .int 1, .int 0, .int 1, .int 0, .int 1, .int 2] → R) : R :=
  q a (PySem.W.mg_of X G a0) ⟨_, _, n, l, rfl, rfl, (by show 17 ≤ sizeLine; decide), .cons ⟨_, rfl⟩ (.cons ⟨_, rfl⟩ (.cons ⟨_, rfl⟩ (.cons ⟨_, rfl⟩ (.cons ⟨_, rfl⟩ (.cons ⟨_, rfl⟩ (.cons ⟨_, rfl⟩ (.cons ⟨_, rfl⟩ (.cons ⟨_, rfl⟩ (.cons ⟨_, rfl⟩ (.cons ⟨_, rfl⟩ (.cons ⟨_, rfl⟩ (.cons ⟨_, rfl⟩ (.cons ⟨_, rfl⟩ (.cons ⟨_, rfl⟩ (.cons ⟨_, rfl⟩ (.cons ⟨_, rfl⟩ (.nil)))))))))))))))))⟩
theorem with_ROWS_OF {a : Addr} {t0 t1 t2 t3 t4 t5 t6 t7 t8 t9 t10 t11 t12 t13 t14 t15 t16 : Tok} {n : Nat} {dct : Option Addr} {sl : Array (Option Value)} (X : K.In h) (G : h.Ns mainGlobals mg) (a0 : PySem.W.nsIn K mainGlobals "ROWS_OF" = some (some (.ref a))) (l : K.lookup a = some ⟨.type "tuple", dct, .seq #[.int 1 t0, .int 0 t1, .int 0 t2, .int 0 t3, .int 0 t4, .int 0 t5, .int 0 t6, .int 0 t7, .int 0 t8, .int 0 t9, .int 0 t10, .int 1 t11, .int 0 t12, .int 0 t13, .int 0 t14, .int 0 t15, .int 0 t16] n, sl⟩) (q : ∀ a, mg "ROWS_OF" = some (.ref a) → KTup K a [.int 1, .int 0, .int 0, .int 0, .int 0, .int 0, .int 0, .int 0, .int 0, .int 0, .int 0, .int 1, .int 0, .int 0, .int 0, .int 0, .int 0] → R) : R :=
  q a (PySem.W.mg_of X G a0) ⟨_, _, n, l, rfl, rfl, (by show 17 ≤ sizeLine; decide), .cons ⟨_, rfl⟩ (.cons ⟨_, rfl⟩ (.cons ⟨_, rfl⟩ (.cons ⟨_, rfl⟩ (.cons ⟨_, rfl⟩ (.cons ⟨_, rfl⟩ (.cons ⟨_, rfl⟩ (.cons ⟨_, rfl⟩ (.cons ⟨_, rfl⟩ (.cons ⟨_, rfl⟩ (.cons ⟨_, rfl⟩ (.cons ⟨_, rfl⟩ (.cons ⟨_, rfl⟩ (.cons ⟨_, rfl⟩ (.cons ⟨_, rfl⟩ (.cons ⟨_, rfl⟩ (.cons ⟨_, rfl⟩ (.nil)))))))))))))))))⟩
theorem with_DEED_OF {a : Addr} {d0 d1 d2 d3 d4 d5 d6 d7 d8 d9 d10 d11 d12 d13 d14 d15 d16 : Addr} {n : Nat} {dct : Option Addr} {sl : Array (Option Value)} (X : K.In h) (G : h.Ns mainGlobals mg) (a0 : PySem.W.nsIn K mainGlobals "DEED_OF" = some (some (.ref a))) (l : K.lookup a = some ⟨.type "tuple", dct, .seq #[.ref d0, .ref d1, .ref d2, .ref d3, .ref d4, .ref d5, .ref d6, .ref d7, .ref d8, .ref d9, .ref d10, .ref d11, .ref d12, .ref d13, .ref d14, .ref d15, .ref d16] n, sl⟩)
    (m0 : PySem.W.nsIn K mainGlobals "add_company" = some (some (.ref d0))) (m1 : PySem.W.nsIn K mainGlobals "set_players" = some (some (.ref d1))) (m2 : PySem.W.nsIn K mainGlobals "show" = some (some (.ref d2))) (m3 : PySem.W.nsIn K mainGlobals "list_orders" = some (some (.ref d3))) (m4 : PySem.W.nsIn K mainGlobals "play" = some (some (.ref d4))) (m5 : PySem.W.nsIn K mainGlobals "undo" = some (some (.ref d5))) (m6 : PySem.W.nsIn K mainGlobals "tell_worths" = some (some (.ref d6))) (m7 : PySem.W.nsIn K mainGlobals "tell_value" = some (some (.ref d7))) (m8 : PySem.W.nsIn K mainGlobals "tell_best" = some (some (.ref d8))) (m9 : PySem.W.nsIn K mainGlobals "tell_values" = some (some (.ref d9))) (m10 : PySem.W.nsIn K mainGlobals "tell_line" = some (some (.ref d10))) (m11 : PySem.W.nsIn K mainGlobals "tell_duel" = some (some (.ref d11))) (m12 : PySem.W.nsIn K mainGlobals "swap_players" = some (some (.ref d12))) (m13 : PySem.W.nsIn K mainGlobals "scale_money" = some (some (.ref d13))) (m14 : PySem.W.nsIn K mainGlobals "clear_all" = some (some (.ref d14))) (m15 : PySem.W.nsIn K mainGlobals "tell_tempo" = some (some (.ref d15))) (m16 : PySem.W.nsIn K mainGlobals "set_place" = some (some (.ref d16)))
    (q : ∀ a d0 d1 d2 d3 d4 d5 d6 d7 d8 d9 d10 d11 d12 d13 d14 d15 d16, mg "DEED_OF" = some (.ref a) → KTup K a [.ref d0, .ref d1, .ref d2, .ref d3, .ref d4, .ref d5, .ref d6, .ref d7, .ref d8, .ref d9, .ref d10, .ref d11, .ref d12, .ref d13, .ref d14, .ref d15, .ref d16] → mg "add_company" = some (.ref d0) → mg "set_players" = some (.ref d1) → mg "show" = some (.ref d2) → mg "list_orders" = some (.ref d3) → mg "play" = some (.ref d4) → mg "undo" = some (.ref d5) → mg "tell_worths" = some (.ref d6) → mg "tell_value" = some (.ref d7) → mg "tell_best" = some (.ref d8) → mg "tell_values" = some (.ref d9) → mg "tell_line" = some (.ref d10) → mg "tell_duel" = some (.ref d11) → mg "swap_players" = some (.ref d12) → mg "scale_money" = some (.ref d13) → mg "clear_all" = some (.ref d14) → mg "tell_tempo" = some (.ref d15) → mg "set_place" = some (.ref d16) → R) : R :=
  q a d0 d1 d2 d3 d4 d5 d6 d7 d8 d9 d10 d11 d12 d13 d14 d15 d16 (PySem.W.mg_of X G a0) ⟨_, _, n, l, rfl, rfl, (by show 17 ≤ sizeLine; decide), .cons rfl (.cons rfl (.cons rfl (.cons rfl (.cons rfl (.cons rfl (.cons rfl (.cons rfl (.cons rfl (.cons rfl (.cons rfl (.cons rfl (.cons rfl (.cons rfl (.cons rfl (.cons rfl (.cons rfl (.nil)))))))))))))))))⟩ (PySem.W.mg_of X G m0) (PySem.W.mg_of X G m1) (PySem.W.mg_of X G m2) (PySem.W.mg_of X G m3) (PySem.W.mg_of X G m4) (PySem.W.mg_of X G m5) (PySem.W.mg_of X G m6) (PySem.W.mg_of X G m7) (PySem.W.mg_of X G m8) (PySem.W.mg_of X G m9) (PySem.W.mg_of X G m10) (PySem.W.mg_of X G m11) (PySem.W.mg_of X G m12) (PySem.W.mg_of X G m13) (PySem.W.mg_of X G m14) (PySem.W.mg_of X G m15) (PySem.W.mg_of X G m16)
theorem with_answers {P : Program} {w : World} {f fa : Addr} {oc kV doc pm cdv ct : Value} {od an : Option Addr} {osl : Array (Option Value)} (T : Tx K mg) (X : K.In h) (G : h.Ns mainGlobals mg) (hfa : mg "answers" = some (.ref fa)) (a : PySem.W.nsIn K mainGlobals "answers" = some (some (.ref f))) (l : K.lookup f = some ⟨oc, od, .func (PySem.W.fnOf "answers" "answers" (defArgs s_answers) (defBody s_answers) (defScope s_answers) .none kV doc pm an cdv ct), osl⟩) (c : PySem.W.codeIn K cdv "answers" = true) (k : PySem.W.keepIn K (.ref f) = true) :
    ∃ fd : FuncData, (∀ (s : Shared) (us : List Value), us.length = (["calls"] : List Str).length → BindsTo s fd ⟨us, []⟩ ((["calls"] : List Str).zip us)) ∧ ∀ base : Heap, K.In base → base.Ns mainGlobals mg → FnOk P w K mg base CX0 29 fa fd ["calls"] (spAns K) := by
  have e := hfa.symm.trans (PySem.W.mg_of X G a)
  cases e
  have F := fun_mk (st := s_answers) l c k
  exact ⟨_, fun s us hu => .of_eq (bi_answers _ _ _ _ _ _ us hu), fun base _ _ => ok_answers T F⟩
end
end ST
set_option Elab.async false
set_option maxRecDepth 100000
open PySem PySem.W PyProof.Rows
-- names taken beforehand: for these constants of the head no rewritten copy is laid (Lean's own file stays small)
noncomputable def PySem.W.Fast.tw7849269367859960013 : Unit := ()
noncomputable def PySem.W.Fast.tw17249792523070144616 : Unit := ()
noncomputable def PySem.W.Fast.tw982432935676736174 : Unit := ()
noncomputable def PySem.W.Fast.tw18143175457056626424 : Unit := ()
noncomputable def PySem.W.Fast.tw5803584206646893530 : Unit := ()
noncomputable def PySem.W.Fast.tw3350319704613136847 : Unit := ()
noncomputable def PySem.W.Fast.tw12829250985419938153 : Unit := ()
noncomputable def PySem.W.Fast.tw11138733289063918606 : Unit := ()
noncomputable def PySem.W.Fast.tw6547533867660151114 : Unit := ()
noncomputable def PySem.W.Fast.tw4701190614059667338 : Unit := ()
noncomputable def PySem.W.Fast.tw7737652330016302295 : Unit := ()
noncomputable def PySem.W.Fast.tw6786415870090912456 : Unit := ()
noncomputable def PySem.W.Fast.tw13278041234818438917 : Unit := ()
noncomputable def PySem.W.Fast.tw14759426786434427020 : Unit := ()
noncomputable def PySem.W.Fast.tw881358233941204125 : Unit := ()
noncomputable def PySem.W.Fast.tw4567091835590903733 : Unit := ()
noncomputable def PySem.W.Fast.tw4279766907437964282 : Unit := ()
noncomputable def PySem.W.Fast.tw3428692295550877516 : Unit := ()
noncomputable def PySem.W.Fast.tw3648951932118542332 : Unit := ()
noncomputable def PySem.W.Fast.tw12043021185452834543 : Unit := ()
set_option maxRecDepth 100000 in
set_option maxHeartbeats 0 in
theorem PySem.Challenge.cw_shareturns_s01_answers_holds : PySem.Challenge.rw_shareturns_s01_answers.Holds := by
  w_on; k_headS; (case hw => exact ⟨[.list [.int 14]], by decide +kernel, by decide +kernel⟩)
  k_fillS
  refine L2.walk_specK (r := PySem.Challenge.rw_shareturns_s01_answers) (k := 29) (CX := L2.CX0) (ps := ["calls"]) (sp := ST.spAns) (by decide +kernel) rfl rfl ⟨rfl, by decide, by decide⟩ (fun w h Y => PySem.W.kIn_of Y) ?F ?S (fun _ _ _ _ z => z)
  case F =>
    intro w mg fa h Y KX G hmg
    refine' ST.with_CC KX G ?a ?pg ?hd ?po ?sa ?mk ?kc ?aI ?iI ?lI ?cI ?kI ?n_place ?n_pay ?n_shares ?n_pool ?n_prices ?nb (fun CC clCC k_Company F_initCC n_place n_pay n_shares n_pool n_prices b_CC => ?_)
    (case a => k_is); (case pg => k_is); (case hd => k_is); (case po => k_is); (case sa => k_is); (case mk => k_is); (case kc => k_is); (case aI => k_is); (case iI => k_is); (case lI => k_is); (case cI => k_is); (case kI => k_is); (case n_place => k_is); (case n_pay => k_is); (case n_shares => k_is); (case n_pool => k_is); (case n_prices => k_is); (case nb => k_is)
    refine' ST.with_CG KX G ?a ?pg ?hd ?po ?sa ?mk ?kc ?aI ?iI ?lI ?cI ?kI ?n_money ?n_turn ?n_left ?n_companies ?nb (fun CG clCG k_Game F_initCG n_money n_turn n_left n_companies b_CG => ?_)
    (case a => k_is); (case pg => k_is); (case hd => k_is); (case po => k_is); (case sa => k_is); (case mk => k_is); (case kc => k_is); (case aI => k_is); (case iI => k_is); (case lI => k_is); (case cI => k_is); (case kI => k_is); (case n_money => k_is); (case n_turn => k_is); (case n_left => k_is); (case n_companies => k_is); (case nb => k_is)
    refine' ST.with_CS KX G ?a ?pg ?hd ?po ?sa ?mk ?kc ?aI ?iI ?lI ?cI ?kI ?a0 ?i0 ?l0 ?c0 ?k0 ?a1 ?i1 ?l1 ?c1 ?k1 ?a2 ?i2 ?l2 ?c2 ?k2 ?n_goal ?n_known ?nb (fun CS clCS k_Search F_initCS F_value F_chosen_value F_best_order n_goal n_known b_CS => ?_)
    (case a => k_is); (case pg => k_is); (case hd => k_is); (case po => k_is); (case sa => k_is); (case mk => k_is); (case kc => k_is); (case aI => k_is); (case iI => k_is); (case lI => k_is); (case cI => k_is); (case kI => k_is); (case a0 => k_is); (case i0 => k_is); (case l0 => k_is); (case c0 => k_is); (case k0 => k_is); (case a1 => k_is); (case i1 => k_is); (case l1 => k_is); (case c1 => k_is); (case k1 => k_is); (case a2 => k_is); (case i2 => k_is); (case l2 => k_is); (case c2 => k_is); (case k2 => k_is); (case n_goal => k_is); (case n_known => k_is); (case nb => k_is)
    refine' ST.with_CD KX G ?a ?pg ?hd ?po ?sa ?mk ?kc ?aI ?iI ?lI ?cI ?kI ?a0 ?i0 ?l0 ?c0 ?k0 ?n_game ?n_past ?n_searches (fun CD clCD k_Desk F_initCD F_begin_with n_game n_past n_searches b_CD => ?_)
    (case a => k_is); (case pg => k_is); (case hd => k_is); (case po => k_is); (case sa => k_is); (case mk => k_is); (case kc => k_is); (case aI => k_is); (case iI => k_is); (case lI => k_is); (case cI => k_is); (case kI => k_is); (case a0 => k_is); (case i0 => k_is); (case l0 => k_is); (case c0 => k_is); (case k0 => k_is); (case n_game => k_is); (case n_past => k_is); (case n_searches => k_is)
    refine' ST.with_GOALS KX G ?a0 ?l (fun aGOALS m_GOALS t_GOALS => ?_)
    (case a0 => k_is); (case l => k_is)
    refine' ST.with_PLAYERS KX G ?a0 ?l (fun aPLAYERS m_PLAYERS t_PLAYERS => ?_)
    (case a0 => k_is); (case l => k_is)
    refine' ST.with_NUMBERS_OF KX G ?a0 ?l (fun aNUMBERS_OF m_NUMBERS_OF t_NUMBERS_OF => ?_)
    (case a0 => k_is); (case l => k_is)
    refine' ST.with_ROWS_OF KX G ?a0 ?l (fun aROWS_OF m_ROWS_OF t_ROWS_OF => ?_)
    (case a0 => k_is); (case l => k_is)
    refine' ST.with_DEED_OF KX G ?a0 ?l ?m0 ?m1 ?m2 ?m3 ?m4 ?m5 ?m6 ?m7 ?m8 ?m9 ?m10 ?m11 ?m12 ?m13 ?m14 ?m15 ?m16 (fun aDEED_OF d_add_company d_set_players d_show d_list_orders d_play d_undo d_tell_worths d_tell_value d_tell_best d_tell_values d_tell_line d_tell_duel d_swap_players d_scale_money d_clear_all d_tell_tempo d_set_place m_DEED_OF t_DEED_OF m_add_company m_set_players m_show m_list_orders m_play m_undo m_tell_worths m_tell_value m_tell_best m_tell_values m_tell_line m_tell_duel m_swap_players m_scale_money m_clear_all m_tell_tempo m_set_place => ?_)
    (case a0 => k_is); (case l => k_is); (case m0 => k_is); (case m1 => k_is); (case m2 => k_is); (case m3 => k_is); (case m4 => k_is); (case m5 => k_is); (case m6 => k_is); (case m7 => k_is); (case m8 => k_is); (case m9 => k_is); (case m10 => k_is); (case m11 => k_is); (case m12 => k_is); (case m13 => k_is); (case m14 => k_is); (case m15 => k_is); (case m16 => k_is)
    refine' ST.with_no (x := "len") KX G ?a (fun b_len => ?_)
    (case a => k_is)
    refine' ST.with_no (x := "range") KX G ?a (fun b_range => ?_)
    (case a => k_is)
    refine' ST.with_no (x := "enumerate") KX G ?a (fun b_enumerate => ?_)
    (case a => k_is)
    refine' ST.with_no (x := "max") KX G ?a (fun b_max => ?_)
    (case a => k_is)
    refine' ST.with_no (x := "min") KX G ?a (fun b_min => ?_)
    (case a => k_is)
    refine' ST.with_no (x := "tuple") KX G ?a (fun b_tuple => ?_)
    (case a => k_is)
    refine' ST.with_no (x := "all") KX G ?a (fun b_all => ?_)
    (case a => k_is)
    refine' ST.with_no (x := "zip") KX G ?a (fun b_zip => ?_)
    (case a => k_is)
    refine' ST.with_int (x := "PASS") (n := 0) KX G ?a (fun i_PASS => ?_)
    (case a => k_is)
    refine' ST.with_int (x := "BUY") (n := 1) KX G ?a (fun i_BUY => ?_)
    (case a => k_is)
    refine' ST.with_int (x := "SELL") (n := 2) KX G ?a (fun i_SELL => ?_)
    (case a => k_is)
    refine' ST.with_int (x := "PAY_OUT") (n := 3) KX G ?a (fun i_PAY_OUT => ?_)
    (case a => k_is)
    refine' ST.with_int (x := "KEEP") (n := 4) KX G ?a (fun i_KEEP => ?_)
    (case a => k_is)
    refine' ST.with_int (x := "DEEDS") (n := 4) KX G ?a (fun i_DEEDS => ?_)
    (case a => k_is)
    refine' ST.with_int (x := "MOST_POSITIONS") (n := 100000) KX G ?a (fun i_MOST_POSITIONS => ?_)
    (case a => k_is)
    refine' ST.with_int (x := "NO_COMPANY") (n := (-1)) KX G ?a (fun i_NO_COMPANY => ?_)
    (case a => k_is)
    refine' ST.with_int (x := "WRONG_NUMBER") (n := (-2)) KX G ?a (fun i_WRONG_NUMBER => ?_)
    (case a => k_is)
    refine' ST.with_int (x := "NOT_ALLOWED") (n := (-3)) KX G ?a (fun i_NOT_ALLOWED => ?_)
    (case a => k_is)
    refine' ST.with_int (x := "NO_ROOM") (n := (-4)) KX G ?a (fun i_NO_ROOM => ?_)
    (case a => k_is)
    refine' ST.with_int (x := "NO_TURNS") (n := (-5)) KX G ?a (fun i_NO_TURNS => ?_)
    (case a => k_is)
    refine' ST.with_int (x := "NOTHING_PLAYED") (n := (-6)) KX G ?a (fun i_NOTHING_PLAYED => ?_)
    (case a => k_is)
    refine' ST.with_int (x := "TOO_MANY_POSITIONS") (n := (-7)) KX G ?a (fun i_TOO_MANY_POSITIONS => ?_)
    (case a => k_is)
    refine' ST.with_int (x := "MOST_COMPANIES") (n := 3) KX G ?a (fun i_MOST_COMPANIES => ?_)
    (case a => k_is)
    refine' ST.with_int (x := "MOST_PRICES") (n := 8) KX G ?a (fun i_MOST_PRICES => ?_)
    (case a => k_is)
    refine' ST.with_int (x := "MOST_SHARES") (n := 9) KX G ?a (fun i_MOST_SHARES => ?_)
    (case a => k_is)
    refine' ST.with_int (x := "MOST_TURNS") (n := 8) KX G ?a (fun i_MOST_TURNS => ?_)
    (case a => k_is)
    refine' ST.with_int (x := "MOST_MONEY") (n := 1000000) KX G ?a (fun i_MOST_MONEY => ?_)
    (case a => k_is)
    refine' ST.with_int (x := "MOST_TIMES") (n := 1000000) KX G ?a (fun i_MOST_TIMES => ?_)
    (case a => k_is)
    refine' ST.with_fn (x := "first_game") (st := ST.s_first_game) (ps := []) KX G ST.bi_first_game ?a ?l ?c ?k (fun F_first_game => ?_)
    (case a => k_is); (case l => k_is); (case c => k_is); (case k => k_is)
    refine' ST.with_fn (x := "at_place") (st := ST.s_at_place) (ps := ["company", "place"]) KX G ST.bi_at_place ?a ?l ?c ?k (fun F_at_place => ?_)
    (case a => k_is); (case l => k_is); (case c => k_is); (case k => k_is)
    refine' ST.with_fn (x := "with_company") (st := ST.s_with_company) (ps := ["companies", "number", "company"]) KX G ST.bi_with_company ?a ?l ?c ?k (fun F_with_company => ?_)
    (case a => k_is); (case l => k_is); (case c => k_is); (case k => k_is)
    refine' ST.with_fn (x := "price_of") (st := ST.s_price_of) (ps := ["company"]) KX G ST.bi_price_of ?a ?l ?c ?k (fun F_price_of => ?_)
    (case a => k_is); (case l => k_is); (case c => k_is); (case k => k_is)
    refine' ST.with_fn (x := "worth_of") (st := ST.s_worth_of) (ps := ["game", "player"]) KX G ST.bi_worth_of ?a ?l ?c ?k (fun F_worth_of => ?_)
    (case a => k_is); (case l => k_is); (case c => k_is); (case k => k_is)
    refine' ST.with_fn (x := "swapped") (st := ST.s_swapped) (ps := ["game"]) KX G ST.bi_swapped ?a ?l ?c ?k (fun F_swapped => ?_)
    (case a => k_is); (case l => k_is); (case c => k_is); (case k => k_is)
    refine' ST.with_fn (x := "turned_round") (st := ST.s_turned_round) (ps := ["pair"]) KX G ST.bi_turned_round ?a ?l ?c ?k (fun F_turned_round => ?_)
    (case a => k_is); (case l => k_is); (case c => k_is); (case k => k_is)
    refine' ST.with_fn (x := "with_shares") (st := ST.s_with_shares) (ps := ["company", "shares"]) KX G ST.bi_with_shares ?a ?l ?c ?k (fun F_with_shares => ?_)
    (case a => k_is); (case l => k_is); (case c => k_is); (case k => k_is)
    refine' ST.with_fn (x := "scaled") (st := ST.s_scaled) (ps := ["game", "times"]) KX G ST.bi_scaled ?a ?l ?c ?k (fun F_scaled => ?_)
    (case a => k_is); (case l => k_is); (case c => k_is); (case k => k_is)
    refine' ST.with_fn (x := "scaled_company") (st := ST.s_scaled_company) (ps := ["company", "times"]) KX G ST.bi_scaled_company ?a ?l ?c ?k (fun F_scaled_company => ?_)
    (case a => k_is); (case l => k_is); (case c => k_is); (case k => k_is)
    refine' ST.with_fn (x := "all_times") (st := ST.s_all_times) (ps := ["numbers", "times"]) KX G ST.bi_all_times ?a ?l ?c ?k (fun F_all_times => ?_)
    (case a => k_is); (case l => k_is); (case c => k_is); (case k => k_is)
    refine' ST.with_fn (x := "with_other_turn") (st := ST.s_with_other_turn) (ps := ["game"]) KX G ST.bi_with_other_turn ?a ?l ?c ?k (fun F_with_other_turn => ?_)
    (case a => k_is); (case l => k_is); (case c => k_is); (case k => k_is)
    refine' ST.with_fn (x := "with_place") (st := ST.s_with_place) (ps := ["game", "number", "place"]) KX G ST.bi_with_place ?a ?l ?c ?k (fun F_with_place => ?_)
    (case a => k_is); (case l => k_is); (case c => k_is); (case k => k_is)
    refine' ST.with_fn (x := "orders_of") (st := ST.s_orders_of) (ps := ["game"]) KX G ST.bi_orders_of ?a ?l ?c ?k (fun F_orders_of => ?_)
    (case a => k_is); (case l => k_is); (case c => k_is); (case k => k_is)
    refine' ST.with_fn (x := "deeds_of") (st := ST.s_deeds_of) (ps := ["company", "player", "money"]) KX G ST.bi_deeds_of ?a ?l ?c ?k (fun F_deeds_of => ?_)
    (case a => k_is); (case l => k_is); (case c => k_is); (case k => k_is)
    refine' ST.with_fn (x := "game_behind") (st := ST.s_game_behind) (ps := ["game", "order"]) KX G ST.bi_game_behind ?a ?l ?c ?k (fun F_game_behind => ?_)
    (case a => k_is); (case l => k_is); (case c => k_is); (case k => k_is)
    refine' ST.with_fn (x := "money_behind") (st := ST.s_money_behind) (ps := ["money", "company", "player", "deed"]) KX G ST.bi_money_behind ?a ?l ?c ?k (fun F_money_behind => ?_)
    (case a => k_is); (case l => k_is); (case c => k_is); (case k => k_is)
    refine' ST.with_fn (x := "company_behind") (st := ST.s_company_behind) (ps := ["company", "player", "deed"]) KX G ST.bi_company_behind ?a ?l ?c ?k (fun F_company_behind => ?_)
    (case a => k_is); (case l => k_is); (case c => k_is); (case k => k_is)
    refine' ST.with_fn (x := "with_more") (st := ST.s_with_more) (ps := ["pair", "player", "more"]) KX G ST.bi_with_more ?a ?l ?c ?k (fun F_with_more => ?_)
    (case a => k_is); (case l => k_is); (case c => k_is); (case k => k_is)
    refine' ST.with_fn (x := "traded") (st := ST.s_traded) (ps := ["company", "player", "bought"]) KX G ST.bi_traded ?a ?l ?c ?k (fun F_traded => ?_)
    (case a => k_is); (case l => k_is); (case c => k_is); (case k => k_is)
    refine' ST.with_fn (x := "moved") (st := ST.s_moved) (ps := ["company", "step"]) KX G ST.bi_moved ?a ?l ?c ?k (fun F_moved => ?_)
    (case a => k_is); (case l => k_is); (case c => k_is); (case k => k_is)
    refine' ST.with_fn (x := "best_line") (st := ST.s_best_line) (ps := ["search", "game"]) KX G ST.bi_best_line ?a ?l ?c ?k (fun F_best_line => ?_)
    (case a => k_is); (case l => k_is); (case c => k_is); (case k => k_is)
    refine' ST.with_fn (x := "duel_line") (st := ST.s_duel_line) (ps := ["search", "game", "player", "row"]) KX G ST.bi_duel_line ?a ?l ?c ?k (fun F_duel_line => ?_)
    (case a => k_is); (case l => k_is); (case c => k_is); (case k => k_is)
    refine' ST.with_fn (x := "game_at_end") (st := ST.s_game_at_end) (ps := ["game", "given"]) KX G ST.bi_game_at_end ?a ?l ?c ?k (fun F_game_at_end => ?_)
    (case a => k_is); (case l => k_is); (case c => k_is); (case k => k_is)
    refine' ST.with_fn (x := "too_many_positions") (st := ST.s_too_many_positions) (ps := ["game"]) KX G ST.bi_too_many_positions ?a ?l ?c ?k (fun F_too_many_positions => ?_)
    (case a => k_is); (case l => k_is); (case c => k_is); (case k => k_is)
    refine' ST.with_fn (x := "reached") (st := ST.s_reached) (ps := ["game", "goal"]) KX G ST.bi_reached ?a ?l ?c ?k (fun F_reached => ?_)
    (case a => k_is); (case l => k_is); (case c => k_is); (case k => k_is)
    refine' ST.with_fn (x := "plays_for_most") (st := ST.s_plays_for_most) (ps := ["player", "goal"]) KX G ST.bi_plays_for_most ?a ?l ?c ?k (fun F_plays_for_most => ?_)
    (case a => k_is); (case l => k_is); (case c => k_is); (case k => k_is)
    refine' ST.with_fn (x := "key_of") (st := ST.s_key_of) (ps := ["game"]) KX G ST.bi_key_of ?a ?l ?c ?k (fun F_key_of => ?_)
    (case a => k_is); (case l => k_is); (case c => k_is); (case k => k_is)
    refine' ST.with_fn (x := "company_fits") (st := ST.s_company_fits) (ps := ["company"]) KX G ST.bi_company_fits ?a ?l ?c ?k (fun F_company_fits => ?_)
    (case a => k_is); (case l => k_is); (case c => k_is); (case k => k_is)
    refine' ST.with_fn (x := "prices_fit") (st := ST.s_prices_fit) (ps := ["prices"]) KX G ST.bi_prices_fit ?a ?l ?c ?k (fun F_prices_fit => ?_)
    (case a => k_is); (case l => k_is); (case c => k_is); (case k => k_is)
    refine' ST.with_fn (x := "players_fit") (st := ST.s_players_fit) (ps := ["game"]) KX G ST.bi_players_fit ?a ?l ?c ?k (fun F_players_fit => ?_)
    (case a => k_is); (case l => k_is); (case c => k_is); (case k => k_is)
    refine' ST.with_fn (x := "money_fits") (st := ST.s_money_fits) (ps := ["game"]) KX G ST.bi_money_fits ?a ?l ?c ?k (fun F_money_fits => ?_)
    (case a => k_is); (case l => k_is); (case c => k_is); (case k => k_is)
    refine' ST.with_fn (x := "search_refusal") (st := ST.s_search_refusal) (ps := ["number_fits", "game"]) KX G ST.bi_search_refusal ?a ?l ?c ?k (fun F_search_refusal => ?_)
    (case a => k_is); (case l => k_is); (case c => k_is); (case k => k_is)
    refine' ST.with_fn (x := "both_worths") (st := ST.s_both_worths) (ps := ["game"]) KX G ST.bi_both_worths ?a ?l ?c ?k (fun F_both_worths => ?_)
    (case a => k_is); (case l => k_is); (case c => k_is); (case k => k_is)
    refine' ST.with_fn (x := "line_told") (st := ST.s_line_told) (ps := ["game", "given"]) KX G ST.bi_line_told ?a ?l ?c ?k (fun F_line_told => ?_)
    (case a => k_is); (case l => k_is); (case c => k_is); (case k => k_is)
    refine' ST.with_fn (x := "add_company") (st := ST.s_add_company) (ps := ["desk", "numbers", "row"]) KX G ST.bi_add_company ?a ?l ?c ?k (fun F_add_company => ?_)
    (case a => k_is); (case l => k_is); (case c => k_is); (case k => k_is)
    refine' ST.with_fn (x := "set_players") (st := ST.s_set_players) (ps := ["desk", "numbers", "row"]) KX G ST.bi_set_players ?a ?l ?c ?k (fun F_set_players => ?_)
    (case a => k_is); (case l => k_is); (case c => k_is); (case k => k_is)
    refine' ST.with_fn (x := "show") (st := ST.s_show) (ps := ["desk", "numbers", "row"]) KX G ST.bi_show ?a ?l ?c ?k (fun F_show => ?_)
    (case a => k_is); (case l => k_is); (case c => k_is); (case k => k_is)
    refine' ST.with_fn (x := "list_orders") (st := ST.s_list_orders) (ps := ["desk", "numbers", "row"]) KX G ST.bi_list_orders ?a ?l ?c ?k (fun F_list_orders => ?_)
    (case a => k_is); (case l => k_is); (case c => k_is); (case k => k_is)
    refine' ST.with_fn (x := "play") (st := ST.s_play) (ps := ["desk", "numbers", "row"]) KX G ST.bi_play ?a ?l ?c ?k (fun F_play => ?_)
    (case a => k_is); (case l => k_is); (case c => k_is); (case k => k_is)
    refine' ST.with_fn (x := "undo") (st := ST.s_undo) (ps := ["desk", "numbers", "row"]) KX G ST.bi_undo ?a ?l ?c ?k (fun F_undo => ?_)
    (case a => k_is); (case l => k_is); (case c => k_is); (case k => k_is)
    refine' ST.with_fn (x := "tell_worths") (st := ST.s_tell_worths) (ps := ["desk", "numbers", "row"]) KX G ST.bi_tell_worths ?a ?l ?c ?k (fun F_tell_worths => ?_)
    (case a => k_is); (case l => k_is); (case c => k_is); (case k => k_is)
    refine' ST.with_fn (x := "tell_value") (st := ST.s_tell_value) (ps := ["desk", "numbers", "row"]) KX G ST.bi_tell_value ?a ?l ?c ?k (fun F_tell_value => ?_)
    (case a => k_is); (case l => k_is); (case c => k_is); (case k => k_is)
    refine' ST.with_fn (x := "tell_best") (st := ST.s_tell_best) (ps := ["desk", "numbers", "row"]) KX G ST.bi_tell_best ?a ?l ?c ?k (fun F_tell_best => ?_)
    (case a => k_is); (case l => k_is); (case c => k_is); (case k => k_is)
    refine' ST.with_fn (x := "tell_values") (st := ST.s_tell_values) (ps := ["desk", "numbers", "row"]) KX G ST.bi_tell_values ?a ?l ?c ?k (fun F_tell_values => ?_)
    (case a => k_is); (case l => k_is); (case c => k_is); (case k => k_is)
    refine' ST.with_fn (x := "tell_line") (st := ST.s_tell_line) (ps := ["desk", "numbers", "row"]) KX G ST.bi_tell_line ?a ?l ?c ?k (fun F_tell_line => ?_)
    (case a => k_is); (case l => k_is); (case c => k_is); (case k => k_is)
    refine' ST.with_fn (x := "tell_duel") (st := ST.s_tell_duel) (ps := ["desk", "numbers", "row"]) KX G ST.bi_tell_duel ?a ?l ?c ?k (fun F_tell_duel => ?_)
    (case a => k_is); (case l => k_is); (case c => k_is); (case k => k_is)
    refine' ST.with_fn (x := "swap_players") (st := ST.s_swap_players) (ps := ["desk", "numbers", "row"]) KX G ST.bi_swap_players ?a ?l ?c ?k (fun F_swap_players => ?_)
    (case a => k_is); (case l => k_is); (case c => k_is); (case k => k_is)
    refine' ST.with_fn (x := "scale_money") (st := ST.s_scale_money) (ps := ["desk", "numbers", "row"]) KX G ST.bi_scale_money ?a ?l ?c ?k (fun F_scale_money => ?_)
    (case a => k_is); (case l => k_is); (case c => k_is); (case k => k_is)
    refine' ST.with_fn (x := "clear_all") (st := ST.s_clear_all) (ps := ["desk", "numbers", "row"]) KX G ST.bi_clear_all ?a ?l ?c ?k (fun F_clear_all => ?_)
    (case a => k_is); (case l => k_is); (case c => k_is); (case k => k_is)
    refine' ST.with_fn (x := "tell_tempo") (st := ST.s_tell_tempo) (ps := ["desk", "numbers", "row"]) KX G ST.bi_tell_tempo ?a ?l ?c ?k (fun F_tell_tempo => ?_)
    (case a => k_is); (case l => k_is); (case c => k_is); (case k => k_is)
    refine' ST.with_fn (x := "set_place") (st := ST.s_set_place) (ps := ["desk", "numbers", "row"]) KX G ST.bi_set_place ?a ?l ?c ?k (fun F_set_place => ?_)
    (case a => k_is); (case l => k_is); (case c => k_is); (case k => k_is)
    obtain ⟨fb, hfb⟩ := b_CD
    refine' ST.with_answers ⟨CC, CG, CS, CD, aGOALS, aPLAYERS, aNUMBERS_OF, aROWS_OF, aDEED_OF, d_add_company, d_set_players, d_show, d_list_orders, d_play, d_undo, d_tell_worths, d_tell_value, d_tell_best, d_tell_values, d_tell_line, d_tell_duel, d_swap_players, d_scale_money, d_clear_all, d_tell_tempo, d_set_place, clCC, clCG, clCS, clCD, (ST.ne_by b_CC hfb), (ST.ne_by b_CG hfb), (ST.ne_by b_CS hfb), n_place, n_pay, n_shares, n_pool, n_prices, n_money, n_turn, n_left, n_companies, n_goal, n_known, n_game, n_past, n_searches, b_len, b_range, b_enumerate, b_max, b_min, b_tuple, b_all, b_zip, i_PASS, i_BUY, i_SELL, i_PAY_OUT, i_KEEP, i_DEEDS, i_MOST_POSITIONS, i_NO_COMPANY, i_WRONG_NUMBER, i_NOT_ALLOWED, i_NO_ROOM, i_NO_TURNS, i_NOTHING_PLAYED, i_TOO_MANY_POSITIONS, i_MOST_COMPANIES, i_MOST_PRICES, i_MOST_SHARES, i_MOST_TURNS, i_MOST_MONEY, i_MOST_TIMES, m_GOALS, t_GOALS, m_PLAYERS, t_PLAYERS, m_NUMBERS_OF, t_NUMBERS_OF, m_ROWS_OF, t_ROWS_OF, m_DEED_OF, t_DEED_OF, m_add_company, m_set_players, m_show, m_list_orders, m_play, m_undo, m_tell_worths, m_tell_value, m_tell_best, m_tell_values, m_tell_line, m_tell_duel, m_swap_players, m_scale_money, m_clear_all, m_tell_tempo, m_set_place, k_Company, F_initCC, k_Game, F_initCG, k_Search, F_initCS, k_Desk, F_initCD, F_value, F_chosen_value, F_best_order, F_begin_with, F_first_game, F_at_place, F_with_company, F_price_of, F_worth_of, F_swapped, F_turned_round, F_with_shares, F_scaled, F_scaled_company, F_all_times, F_with_other_turn, F_with_place, F_orders_of, F_deeds_of, F_game_behind, F_money_behind, F_company_behind, F_with_more, F_traded, F_moved, F_best_line, F_duel_line, F_game_at_end, F_too_many_positions, F_reached, F_plays_for_most, F_key_of, F_company_fits, F_prices_fit, F_players_fit, F_money_fits, F_search_refusal, F_both_worths, F_line_told, F_add_company, F_set_players, F_show, F_list_orders, F_play, F_undo, F_tell_worths, F_tell_value, F_tell_best, F_tell_values, F_tell_line, F_tell_duel, F_swap_players, F_scale_money, F_clear_all, F_tell_tempo, F_set_place⟩ KX G hmg ?a ?l ?c ?k
    (case a => k_is); (case l => k_is); (case c => k_is); (case k => k_is)
  case S =>
    intro K H xs a hO hwi hask hx
    cases hx with
    | cons h1 h2 =>
      cases h2
      cases h1 with
      | lst hs ha =>
        have e := L2.ints_dw a.1 _ ha
        subst e
        have q : ((Codec.inLen 0 30000 a.1 && a.1.all (Codec.inInt (-2147483648) 2147483647)) && true) = true := hwi
        rw [Bool.and_eq_true, Bool.and_eq_true] at q
        exact ⟨_, a.1, rfl, hs, (Codec.inNat_iff.mp q.1.1).2, hask, fun H' p hp => .lst (L2.SqL.of hp) (L2.dw_ints _)⟩
#print axioms PySem.Challenge.cw_shareturns_s01_answers_holds
