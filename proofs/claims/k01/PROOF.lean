import PyProof.Rows.All
import Wide.All
import OpenK.AllK
import Wide.FinOn
import Lean
import PyProof.EqAt
import PyProof.EqKinds
import PyProof.TupleCall
import PySem.Challenge.RW_guesscode_k01_games_and_codes
set_option Elab.async false
set_option linter.all false
set_option maxRecDepth 100000
set_option maxHeartbeats 4000000
namespace L2
open PySem PySem.Spec PyProof.Rows

/-- a key: an int or a str -/
abbrev Key := Sum Int Str
def keyIs : Key → Value → Bool
  | .inl k, v => Value.isInt k v
  | .inr x, v => Value.isStrOf x v
def keyH (w : World) : Key → Int
  | .inl k => hashInt k
  | .inr x => hashStr w x
theorem keyIs_shape : ∀ {k : Key} {v : Value}, keyIs k v = true → (∃ i t, k = Sum.inl i ∧ v = Value.int i t) ∨ (∃ x t, k = Sum.inr x ∧ v = Value.str x t)
  | .inl i, v, h => by
    obtain ⟨t, e⟩ := Value.isInt_shape (k := i) (v := v) h
    exact .inl ⟨i, t, rfl, e⟩
  | .inr x, v, h => by
    obtain ⟨t, e⟩ := Value.isStrOf_shape (x := x) (v := v) h
    exact .inr ⟨x, t, rfl, e⟩
theorem key_ll (a b : Int) : decide ((Sum.inl a : Key) = Sum.inl b) = (a == b) := by
  by_cases e : a = b
  · subst e; simp
  · have h : ¬ (Sum.inl a : Key) = Sum.inl b := fun q => e (Sum.inl.inj q)
    rw [decide_eq_false h]
    exact (beq_eq_false_iff_ne.mpr e).symm
theorem key_rr (a b : Str) : decide ((Sum.inr a : Key) = Sum.inr b) = decide (a = b) := by
  by_cases e : a = b
  · subst e; simp
  · have h : ¬ (Sum.inr a : Key) = Sum.inr b := fun q => e (Sum.inr.inj q)
    rw [decide_eq_false h, decide_eq_false e]
theorem key_lr (a : Int) (b : Str) : decide ((Sum.inl a : Key) = Sum.inr b) = false := decide_eq_false (fun q => nomatch q)
theorem key_rl (a : Str) (b : Int) : decide ((Sum.inr a : Key) = Sum.inl b) = false := decide_eq_false (fun q => nomatch q)

def mixKind (prog : Program) (w : World) : PySem.KeyKind prog w Key where
  is := keyIs
  hash := keyH w
  inj := fun v a b ha hb => by
    rcases keyIs_shape ha with ⟨i, t, rfl, rfl⟩ | ⟨x, t, rfl, rfl⟩
    · rcases keyIs_shape hb with ⟨j, u, rfl, e⟩ | ⟨y, u, rfl, e⟩
      · injection e with e1 _; rw [e1]
      · exact nomatch e
    · rcases keyIs_shape hb with ⟨j, u, rfl, e⟩ | ⟨y, u, rfl, e⟩
      · exact nomatch e
      · injection e with e1 _; rw [e1]
  byValue := fun k v h => by
    rcases keyIs_shape h with ⟨i, t, rfl, rfl⟩ | ⟨x, t, rfl, rfl⟩ <;> rfl
  pyHash := fun hv h => by
    rcases keyIs_shape hv with ⟨i, t, rfl, rfl⟩ | ⟨x, t, rfl, rfl⟩
    · exact wpAny_pyHash_int h
    · exact wpAny_pyHash_str h
  eqBool := fun hu hv h => by
    rcases keyIs_shape hu with ⟨i, t, rfl, rfl⟩ | ⟨x, t, rfl, rfl⟩
    · rcases keyIs_shape hv with ⟨j, u, rfl, rfl⟩ | ⟨y, u, rfl, rfl⟩
      · rw [key_ll] at h; exact wpAny_eqBool_int h
      · rw [key_lr] at h; exact SeqAt.EqAt.int_str i t y u _ _ _ _ h
    · rcases keyIs_shape hv with ⟨j, u, rfl, rfl⟩ | ⟨y, u, rfl, rfl⟩
      · rw [key_rl] at h; exact SeqAt.EqAt.str_int x t j u _ _ _ _ h
      · rw [key_rr] at h; exact wpAny_eqBool_str h
  «strs» := fun k x t v h => by
    rcases keyIs_shape h with ⟨i, u, rfl, e⟩ | ⟨y, u, rfl, e⟩
    · exact nomatch e
    · injection e with e1 _
      subst e1
      cases v <;> rfl

end L2

namespace L2
open PySem PySem.Spec PyProof.Rows

/-- a value, without the heap -/
inductive V where
  | non | bl (b : Bool) | int (i : Int) | str (x : Str) | byt (b : Array UInt8) | flt (b : UInt64) | ref (a : Addr) | ty (n : String)
  deriving DecidableEq

def RelV : V → Value → Prop
  | .non, u => u = Value.none
  | .bl b, u => u = Value.bool b
  | .int i, u => ∃ t, u = Value.int i t
  | .str x, u => ∃ t, u = Value.str x t
  | .byt b, u => ∃ t, u = Value.bytes b t
  | .flt b, u => ∃ t, u = Value.float b t
  | .ref a, u => u = Value.ref a
  | .ty n, u => u = Value.type n

abbrev Vals : List V → List Value → Prop := Paired RelV
theorem Vals.length {xs : List V} {us : List Value} (r : Vals xs us) : xs.length = us.length := Paired.length r
theorem Vals.get : ∀ {xs : List V} {us : List Value} {i : Nat} {x : V}, Vals xs us → xs[i]? = some x → ∃ u, us[i]? = some u ∧ RelV x u
  | _, _, _, _, .nil, e => by simp at e
  | _, _, 0, _, .cons r _, e => by simp at e; subst e; exact ⟨_, rfl, r⟩
  | _, _, i + 1, x, .cons _ t, e => by
    obtain ⟨u, h1, h2⟩ := Vals.get (i := i) (x := x) t (by simpa using e)
    exact ⟨u, by simpa using h1, h2⟩
theorem Vals.set {x : V} {u : Value} (r : RelV x u) : ∀ {xs : List V} {us : List Value} (i : Nat), Vals xs us → Vals (xs.set i x) (us.set i u)
  | _, _, _, .nil => .nil
  | _, _, 0, .cons _ t => .cons r t
  | _, _, i + 1, .cons q t => .cons q (Vals.set r i t)
theorem Vals.append : ∀ {xs ys : List V} {us ws : List Value}, Vals xs us → Vals ys ws → Vals (xs ++ ys) (us ++ ws)
  | _, _, _, _, .nil, s => s
  | _, _, _, _, .cons r t, s => .cons r (Vals.append t s)
theorem Vals.take : ∀ {xs : List V} {us : List Value} (n : Nat), Vals xs us → Vals (xs.take n) (us.take n)
  | _, _, 0, _ => .nil
  | _, _, _ + 1, .nil => .nil
  | _, _, n + 1, .cons r t => .cons r (Vals.take n t)
theorem Vals.drop : ∀ {xs : List V} {us : List Value} (n : Nat), Vals xs us → Vals (xs.drop n) (us.drop n)
  | _, _, 0, r => r
  | _, _, _ + 1, .nil => .nil
  | _, _, n + 1, .cons _ t => Vals.drop n t
def RelO : Option V → Option Value → Prop
  | some v, some u => RelV v u
  | none, none => True
  | _, _ => False
def KV {κ : Type} : List (κ × V) → List (κ × Value) → Prop := Paired fun (p : κ × V) (q : κ × Value) => p.1 = q.1 ∧ RelV p.2 q.2

/-- a key of a dict (00_mix): an int or a text -/
def kV : Key → V
  | .inl i => .int i
  | .inr x => .str x

/-- what stands at a tracked address -/
inductive HO where
  /-- a list -/
  | lst (xs : List V)
  /-- a tuple (never changes) -/
  | tup (xs : List V)
  /-- a dict whose keys are ints and texts; one whose keys are tuples of ints and texts (the empty one is both) -/
  | dK (kvs : List (Key × V)) | dT (kvs : List (List Key × V))
  /-- a set of ints: its members, its size -/
  | set (S : Int → Bool) (n : Nat)
  /-- an instance of the class at C, its dict at dx, its attributes -/
  | ins (C dx : Addr) (fs : List (Str × V))
  /-- the dict of the instance at x -/
  | own (x : Addr)
  /-- the dict of an exception -/
  | xd (fs : List (Str × V))
  /-- a bound method, f of x -/
  | met (f x : Addr)
  /-- a range object lo, lo + 1, .. below hi -/
  | rng (lo hi : Int)
  /-- a thing that is known to the object (the script; a dict while a loop walks it): read, never written while it is so -/
  | frz (o : Obj) (u : HO)
  /-- a code object's table -/
  | tbl (ps : Array Value)
  /-- any other thing, by what is true of its one object (a def of one's own: SetO a S n := HO.ext fun h => ..) -/
  | ext (φ : Heap → Prop)

abbrev Hp := Addr → Option HO
def upd (H : Hp) (a : Addr) (o : HO) : Hp := fun b => if b = a then some o else H b
theorem upd_same {H : Hp} {a : Addr} {o : HO} : upd H a o a = some o := by unfold upd; rw [if_pos rfl]
theorem upd_ne {H : Hp} {a b : Addr} {o : HO} (h : b ≠ a) : upd H a o b = H b := by unfold upd; rw [if_neg h]
theorem ne_of_none {H : Hp} {a b : Addr} {o : HO} (h : H a = some o) (h' : H b = none) : a ≠ b := by
  intro e; subst e; rw [h] at h'; cases h'

section
variable (P : Program) (w : World)
def ObjOk (H : Hp) (h : Heap) (a : Addr) : HO → Prop
  | .lst xs => xs.length ≤ sizeLine ∧ ∃ (its : List Value) (n : Nat), Vals xs its ∧ h.get? a = some { cls := .type "list", data := .seq its.toArray n }
  | .tup xs => xs.length ≤ sizeLine ∧ ∃ its : List Value, Vals xs its ∧ IsTup h a its.toArray ∧ ∃ ob, h.get? a = some ob ∧ ob.dict = none
  | .dK kvs => kvs.length ≤ sizeLine ∧ (a == sysModules) = false ∧ ∃ vs, KV kvs vs ∧ h.DictOf (mixKind P w) a vs
  | .dT kvs => kvs.length ≤ sizeLine ∧ (a == sysModules) = false ∧ ∃ xs : List (List Key × Addr × Value),
      Paired (fun (p : List Key × V) (q : List Key × Addr × Value) => p.1 = q.1 ∧ H q.2.1 = some (.tup (p.1.map kV)) ∧ RelV p.2 q.2.2) kvs xs ∧
      ∃ o es ep, h.get? a = some o ∧ o.ExactDict ∧ o.data = .dict es ep ∧ es.toList = xs.map (entryOfKey (tupleKind (mixKind P w))) ∧ (xs.map (·.1)).Nodup
  | .set S n => h.SetOf (intKind P w) a S n
  | .ins C dx fs => H dx = some (.own a) ∧ fs.length ≤ 1000 ∧ dx ≠ a ∧ h.get? a = some (PySem.W.instObj C dx) ∧
      ∃ mA, h.Ns1 dx mA ∧ (∀ f, RelO (fs.lookup f) (mA f)) ∧ PySem.Within mA (fs.map (·.1))
  | .own _ => ∃ o, h.get? a = some o
  | .xd fs => ∃ mA, h.Ns1 a mA ∧ ∀ f, RelO (fs.lookup f) (mA f)
  | .rng lo hi => ∃ t u v, h.get? a = some { cls := .type "range", data := .fields #[.int lo t, .int hi u, .int 1 v] }
  | .frz o u => h.get? a = some o ∧ ObjOk H h a u
  | .tbl ps => h.get? a = some { cls := .none, data := .fields ps }
  | .met f x => h.get? a = some (PySem.W.methodObj (.ref f) (.ref x))
  | .ext φ => φ h ∧ (∃ o, h.get? a = some o) ∧ ∀ h1 h2 : Heap, φ h1 → (∀ o, h1.get? a = some o → h2.get? a = some o) → φ h2
/-- the abstract heap is held -/
def HOk (H : Hp) (h : Heap) : Prop := ∀ a o, H a = some o → ObjOk P w H h a o
end

section
variable {P : Program} {w : World} {H H' : Hp} {h h' : Heap} {a : Addr} {o : HO}
theorem ObjOk.lt (x : ObjOk P w H h a o) : a < h.objs.size := by
  cases o with
  | lst xs => obtain ⟨_, _, _, _, e⟩ := x; exact Heap.lt_size e
  | tup xs => obtain ⟨_, _, _, p, _⟩ := x; exact p.lt
  | dK kvs => obtain ⟨_, _, _, _, o, _, _, e, _⟩ := x; exact Heap.lt_size e
  | dT kvs => obtain ⟨_, _, _, _, o, _, _, e, _⟩ := x; exact Heap.lt_size e
  | set S n => obtain ⟨o, _, _, _, e, _⟩ := x; exact Heap.lt_size e
  | ins C dx fs => obtain ⟨_, _, _, e, _⟩ := x; exact Heap.lt_size e
  | own y => obtain ⟨_, e⟩ := x; exact Heap.lt_size e
  | xd fs => obtain ⟨_, ⟨_, _, _, e, _⟩, _⟩ := x; exact Heap.lt_size e
  | rng lo hi => obtain ⟨_, _, _, e⟩ := x; exact Heap.lt_size e
  | frz ob u => obtain ⟨e, _⟩ := x; exact Heap.lt_size e
  | tbl ps => exact Heap.lt_size (show h.get? a = some _ from x)
  | met f y => exact Heap.lt_size (show h.get? a = some _ from x)
  | ext φ => obtain ⟨_, ⟨_, e⟩, _⟩ := x; exact Heap.lt_size e
theorem Paired.mapP {α β : Type} {F G : α → β → Prop} : ∀ {l₁ : List α} {l₂ : List β}, Paired F l₁ l₂ → (∀ a b, F a b → G a b) → Paired G l₁ l₂
  | _, _, .nil, _ => .nil
  | _, _, .cons r t, f => .cons (f _ _ r) (Paired.mapP t f)
/-- what an object's description leans on: its own object, its own dict, the tuples -/
theorem ObjOk.stay (x : ObjOk P w H h a o) (k : ∀ b u, (b = a ∨ H b = some (.own a)) → h.get? b = some u → h'.get? b = some u)
    (ho : ∀ b, H b = some (.own a) → H' b = some (.own a)) (ht : ∀ b xs, H b = some (.tup xs) → H' b = some (.tup xs)) : ObjOk P w H' h' a o := by
  induction o with
  | lst xs => obtain ⟨z, its, n, r, e⟩ := x; exact ⟨z, its, n, r, k _ _ (.inl rfl) e⟩
  | tup xs => obtain ⟨z, its, r, ⟨ob, e, c⟩, o2, e2, c2⟩ := x; exact ⟨z, its, r, ⟨ob, k _ _ (.inl rfl) e, c⟩, o2, k _ _ (.inl rfl) e2, c2⟩
  | dK kvs => obtain ⟨z, y, vs, r, ob, es, ep, e, c⟩ := x; exact ⟨z, y, vs, r, ob, es, ep, k _ _ (.inl rfl) e, c⟩
  | dT kvs =>
    obtain ⟨z, y, xs, r, ob, es, ep, e, c⟩ := x
    exact ⟨z, y, xs, Paired.mapP r fun p q z => ⟨z.1, ht _ _ z.2.1, z.2.2⟩, ob, es, ep, k _ _ (.inl rfl) e, c⟩
  | set S n => obtain ⟨ob, es, ep, t, e, c⟩ := x; exact ⟨ob, es, ep, t, k _ _ (.inl rfl) e, c⟩
  | ins C dx fs =>
    obtain ⟨d, z, ne, e, mA, ⟨od, es, ep, e2, c⟩, r⟩ := x
    exact ⟨ho _ d, z, ne, k _ _ (.inl rfl) e, mA, ⟨od, es, ep, k _ _ (.inr d) e2, c⟩, r⟩
  | own y => obtain ⟨ob, e⟩ := x; exact ⟨ob, k _ _ (.inl rfl) e⟩
  | xd fs => obtain ⟨mA, ⟨od, es, ep, e, c⟩, r⟩ := x; exact ⟨mA, ⟨od, es, ep, k _ _ (.inl rfl) e, c⟩, r⟩
  | rng lo hi => obtain ⟨t, u, v, e⟩ := x; exact ⟨t, u, v, k _ _ (.inl rfl) e⟩
  | frz ob u ih => obtain ⟨e, q⟩ := x; exact ⟨k _ _ (.inl rfl) e, ih q⟩
  | tbl ps =>
    have e : h.get? a = some { cls := .none, data := .fields ps } := x
    show h'.get? a = some { cls := .none, data := .fields ps }
    exact k a _ (.inl rfl) e
  | met f y =>
    have e : h.get? a = some (PySem.W.methodObj (.ref f) (.ref y)) := x
    show h'.get? a = some (PySem.W.methodObj (.ref f) (.ref y))
    exact k a _ (.inl rfl) e
  | ext φ => obtain ⟨p, ⟨o, e⟩, st⟩ := x; exact ⟨st _ _ p fun o q => k _ _ (.inl rfl) q, ⟨o, k _ _ (.inl rfl) e⟩, st⟩
theorem HOk.lt (x : HOk P w H h) (e : H a = some o) : a < h.objs.size := (x a o e).lt
theorem HOk.fresh (x : HOk P w H h) (e : h.objs.size ≤ a) : H a = none := by
  cases q : H a with
  | none => rfl
  | some u => exact absurd (Nat.lt_of_lt_of_le (x.lt q) e) (Nat.lt_irrefl _)
/-- every object of the heap is kept -/
theorem HOk.kept (x : HOk P w H h) (k : ∀ b u, h.get? b = some u → h'.get? b = some u) : HOk P w H h' := fun a o e =>
  (x a o e).stay (fun b u _ q => k b u q) (fun _ q => q) fun _ _ q => q
/-- a new object is laid and tracked -/
theorem HOk.laid (x : HOk P w H h) (k : ∀ b u, h.get? b = some u → h'.get? b = some u) (hp : h.objs.size ≤ a) (new : ObjOk P w (upd H a o) h' a o) : HOk P w (upd H a o) h' := fun b u e => by
  have hn := x.fresh hp
  by_cases hb : b = a
  · subst hb; rw [upd_same] at e; cases e; exact new
  · rw [upd_ne hb] at e
    exact (x b u e).stay (fun c v _ q => k c v q) (fun c q => by rw [upd_ne (ne_of_none q hn)]; exact q) fun c xs q => by rw [upd_ne (ne_of_none q hn)]; exact q
end

/-- what may be read as u: it is u, or a known u -/
def Rd (H : Hp) (a : Addr) (u : HO) : Prop := H a = some u ∨ ∃ o, H a = some (.frz o u)
theorem Rd.of {H : Hp} {a : Addr} {u : HO} (h : H a = some u) : Rd H a u := .inl h
theorem Rd.ok {P : Program} {w : World} {H : Hp} {h : Heap} {a : Addr} {u : HO} (r : Rd H a u) (x : HOk P w H h) : ObjOk P w H h a u := by
  rcases r with r | ⟨o, r⟩
  · exact x a u r
  · obtain ⟨_, q⟩ := x a _ r
    exact q
/-- what may be written -/
def Mut : Option HO → Prop
  | some (.lst _) => True
  | some (.dK _) => True
  | some (.dT _) => True
  | some (.set _ _) => True
  | some (.ins _ _ _) => True
  | some (.ext _) => True
  | _ => False
section
variable {P : Program} {w : World} {H : Hp} {h h' : Heap} {x e : Addr} {o' : HO}
/-- the object at e is changed: x itself, or the dict of the instance x -/
theorem HOk.write (ok : HOk P w H h) (mu : Mut (H x)) (he : e = x ∨ H e = some (.own x)) (k : ∀ b u, b ≠ e → h.get? b = some u → h'.get? b = some u) (heo : ∃ u, h'.get? e = some u)
    (new : ObjOk P w (upd H x o') h' x o') : HOk P w (upd H x o') h' := fun b u q => by
  have nown : ∀ c y, H c = some (.own y) → c ≠ x := fun c y r z => by subst z; rw [r] at mu; exact mu
  have ntup : ∀ c xs, H c = some (.tup xs) → c ≠ x := fun c xs r z => by subst z; rw [r] at mu; exact mu
  by_cases hb : b = x
  · subst hb; rw [upd_same] at q; cases q; exact new
  · rw [upd_ne hb] at q
    by_cases hbe : b = e
    · have q' : H b = some (.own x) := by
        rcases he with z | z
        · exact absurd (hbe.trans z) hb
        · rw [hbe]; exact z
      rw [q] at q'; cases q'
      obtain ⟨v, hv⟩ := heo
      exact ⟨v, by rw [hbe]; exact hv⟩
    · refine (ok b u q).stay (fun c v hc r => k c v ?_ r) (fun c r => by rw [upd_ne (nown c b r)]; exact r) fun c xs r => by rw [upd_ne (ntup c xs r)]; exact r
      rcases hc with rfl | hc
      · exact hbe
      · rintro rfl
        rcases he with z | z
        · exact nown c b hc z
        · rw [hc] at z; cases z; exact hb rfl
end

structure Un (fs ex : List Addr) (H H' : Hp) (h h' : Heap) : Prop where
  keep : ∀ b o, h.get? b = some o → H b = none → b ∉ fs → b ∉ ex → h'.get? b = some o
  slot : ∀ b o, h.get? b = some o → H b = none → b ∈ fs → b ∉ ex → ∃ sl, h'.get? b = some { o with slots := sl }
  free : ∀ b o, h.get? b = some o → H b = none → b ∉ ex → H' b = none
  there : ∀ b o, h.get? b = some o → b ∉ ex → ∃ o', h'.get? b = some o'
  tups : ∀ b xs, H b = some (.tup xs) → H' b = some (.tup xs)
  frzs : ∀ b o u, H b = some (.frz o u) → H' b = some (.frz o u)
  tbls : ∀ b ps, H b = some (.tbl ps) → ∃ more, H' b = some (.tbl (ps ++ more))
section
variable {fs fs' ex ex' : List Addr} {H H1 H2 : Hp} {h h1 h2 h' : Heap} {a x e : Addr} {o : HO}
theorem Un.any (u : Un fs ex H H1 h h1) {b : Addr} {ob : Obj} (q : h.get? b = some ob) (n : H b = none) (hx : b ∉ ex) : ∃ sl, h1.get? b = some { ob with slots := sl } := by
  by_cases hb : b ∈ fs
  · exact u.slot b ob q n hb hx
  · exact ⟨ob.slots, u.keep b ob q n hb hx⟩
theorem Un.trans (a : Un fs ex H H1 h h1) (b : Un fs ex H1 H2 h1 h2) : Un fs ex H H2 h h2 where
  keep := fun c ob q n hc hx => b.keep c ob (a.keep c ob q n hc hx) (a.free c ob q n hx) hc hx
  slot := fun c ob q n hc hx => by
    obtain ⟨sl, e1⟩ := a.slot c ob q n hc hx
    obtain ⟨sl', e2⟩ := b.slot c _ e1 (a.free c ob q n hx) hc hx
    exact ⟨sl', e2⟩
  free := fun c ob q n hx => by
    obtain ⟨o', e1⟩ := a.there c ob q hx
    exact b.free c o' e1 (a.free c ob q n hx) hx
  there := fun c ob q hx => by
    obtain ⟨o', e1⟩ := a.there c ob q hx
    exact b.there c o' e1 hx
  tups := fun c xs q => b.tups c xs (a.tups c xs q)
  frzs := fun c ob xs q => b.frzs c ob xs (a.frzs c ob xs q)
  tbls := fun c ps q => by
    obtain ⟨m1, e1⟩ := a.tbls c ps q
    obtain ⟨m2, e2⟩ := b.tbls c _ e1
    exact ⟨m1 ++ m2, by rw [e2, Array.append_assoc]⟩
theorem Un.kept (k : ∀ b u, h.get? b = some u → h'.get? b = some u) : Un fs ex H H h h' :=
  ⟨fun b ob q _ _ _ => k b ob q, fun b ob q _ _ _ => ⟨ob.slots, k b ob q⟩, fun _ _ _ n _ => n, fun b ob q _ => ⟨ob, k b ob q⟩, fun _ _ q => q, fun _ _ _ q => q, fun _ ps q => ⟨#[], by rw [q]; simp⟩⟩
theorem Un.refl : Un fs ex H H h h := Un.kept fun _ _ q => q
theorem Un.laid (k : ∀ b u, h.get? b = some u → h'.get? b = some u) (hp : h.objs.size ≤ a) (hn : H a = none) : Un fs ex H (upd H a o) h h' where
  keep := fun b u q _ _ _ => k b u q
  slot := fun b u q _ _ _ => ⟨u.slots, k b u q⟩
  free := fun b u q n _ => by rw [upd_ne (Nat.ne_of_lt (Nat.lt_of_lt_of_le (Heap.lt_size q) hp))]; exact n
  there := fun b u q _ => ⟨u, k b u q⟩
  tups := fun b xs q => by rw [upd_ne (ne_of_none q hn)]; exact q
  frzs := fun b u xs q => by rw [upd_ne (ne_of_none q hn)]; exact q
  tbls := fun b ps q => ⟨#[], by rw [upd_ne (ne_of_none q hn), q]; simp⟩
theorem Un.write (mu : Mut (H x)) (he : e = x ∨ H e = some (.own x)) (k : ∀ b u, b ≠ e → h.get? b = some u → h'.get? b = some u) (heo : ∃ u, h'.get? e = some u) : Un fs ex H (upd H x o) h h' := by
  have hx : ∀ b, H b = none → b ≠ x := fun b n z => by subst z; rw [n] at mu; exact mu
  have hb : ∀ b, H b = none → b ≠ e := fun b n z => by
    subst z
    rcases he with r | r
    · exact hx b n r
    · rw [n] at r; cases r
  have hm : ∀ b u, H b = some u → ¬ Mut (some u) → b ≠ x := fun b u q nm z => by subst z; rw [q] at mu; exact nm mu
  refine ⟨fun b u q n _ _ => k b u (hb b n) q, fun b u q n _ _ => ⟨u.slots, k b u (hb b n) q⟩, fun b u q n _ => by rw [upd_ne (hx b n)]; exact n, fun b u q _ => ?_,
    fun b xs q => by rw [upd_ne (hm b _ q fun z => z)]; exact q, fun b u xs q => by rw [upd_ne (hm b _ q fun z => z)]; exact q, fun b ps q => ⟨#[], by rw [upd_ne (hm b _ q fun z => z), q]; simp⟩⟩
  by_cases hbe : b = e
  · subst hbe; exact heo
  · exact ⟨u, k b u hbe q⟩
theorem Un.mono (u : Un fs ex H H1 h h1) (hs : ∀ b ∈ fs, b ∈ fs') (hx : ∀ b ∈ ex, b ∈ ex') : Un fs' ex' H H1 h h1 :=
  ⟨fun b ob q n hb he => u.keep b ob q n (fun z => hb (hs b z)) fun z => he (hx b z), fun _ _ q n _ he => u.any q n fun z => he (hx _ z), fun b ob q n he => u.free b ob q n fun z => he (hx b z), fun b ob q he => u.there b ob q fun z => he (hx b z), u.tups, u.frzs, u.tbls⟩
end

def trk (h : Heap) (H : Hp) : List Addr := (List.range h.objs.size).filter fun a => (H a).isSome
def hidT (h : Heap) (H : Hp) : Heap := PySem.W.hideAll h (trk h H)
theorem hidT_size (h : Heap) (H : Hp) : (hidT h H).objs.size = h.objs.size := PySem.W.hideAll_size _ _
theorem hidT_get {h : Heap} {H : Hp} {b : Addr} {o : Obj} (e : h.get? b = some o) (n : H b = none) : (hidT h H).get? b = some o :=
  PySem.W.hideAll_get _ e fun hm => by
    have q : (H b).isSome = true := (List.mem_filter.mp hm).2
    rw [n] at q; simp at q
theorem of_hidT {h : Heap} {H : Hp} {b : Addr} {o : Obj} (e : (hidT h H).get? b = some o) : h.get? b = some o ∧ H b = none := by
  have e' : h.get? b = some o := PySem.W.of_hideAll (trk h H) e
  refine ⟨e', ?_⟩
  cases q : H b with
  | none => rfl
  | some x =>
    have hm : b ∈ trk h H := List.mem_filter.mpr ⟨List.mem_range.mpr (Heap.lt_size e'), by simp [q]⟩
    have z : (hidT h H).get? b = none := PySem.W.hideAll_none (trk h H) hm
    rw [z] at e; cases e

def allNews (g h : Heap) (L : Addr) : List (Addr × Obj) := (List.range h.objs.size).filterMap fun a => if a = L ∨ (g.get? a).isSome = true then none else (h.get? a).map fun o => (a, o)
def rest (g h : Heap) (L d : Addr) : List (Addr × Obj) := (allNews g h L).filter fun p => decide (p.1 ≠ d)
end L2

namespace L2
open PySem PySem.Spec PyProof.Rows

/-- the module's facts, over the base: the heap at the law's entry without what is tracked there -/
structure Mod (K : PySem.W.Frag) (mg : Str → Option Value) (base : Heap) : Prop where
  kin : K.In base
  glob : base.Ns mainGlobals mg
  blt : ∃ mb, base.Ns builtinsNs mb ∧ ∀ x : Str, x ≠ "__name__" → mb x = bootBuiltins x
  nolimit : base.NoLimit

/-- the context: a def's body (or a comprehension's block) running. base: fixed through the whole law; s₀, H₀: the entry; outer: the frames whose slots others may change (a def's callers); stack: all frames that run;
   ex: iterators that were made ahead of the entry and are walked here (a comprehension's); fn: the names whose cells were made at the entry (a def: all; a comprehension's block: its own); calm: not within an except suite; pn: pins that every state bears; xe: what is wanted of an exception that leaves the code -/
structure Cx where
  prog : Program
  w : World
  K : PySem.W.Frag
  mg : Str → Option Value
  base : Heap
  A : Around
  N : List Str
  s₀ : Shared
  H₀ : Hp
  env : Env
  outer : List Env
  stack : List Env
  ex : List Addr
  fn : Str → Bool
  calm : Bool
  pn : List (Addr × Obj)
  xe : Value → Shared → Prop
/-- the callers' frames -/
def frs (l : List Env) : List Addr := l.filterMap (·.frame)
abbrev Cx.fs (X : Cx) : List Addr := frs X.outer

def Vis (sc : Scope) (x : Str) : Prop := sc.names.lookup x = some .local ∨ sc.names.lookup x = some .cell ∨ sc.names.lookup x = some .free
def Loc (sc : Scope) (x : Str) : Prop := sc.names.lookup x = some .local ∨ sc.names.lookup x = some .cell
def Look (env : Env) (h : Heap) (m : Str → Option Value) (x : Str) (u : Value) : Prop :=
  (env.kindOf x = some .local ∧ m x = some u) ∨ ((env.kindOf x = some .cell ∨ env.kindOf x = some .free) ∧ ∃ c, env.cells.lookup x = some c ∧ h.IsCell c (some u))

structure Cx.Ok (X : Cx) : Prop where
  mod : Mod X.K X.mg X.base
  kind : X.env.scope.kind = .function
  glob : X.env.globals = mainGlobals
  blt : X.env.builtins = builtinsNs
  above : X.s₀.heap.objs.size ≤ X.env.locals
  inj : ∀ x y c, X.env.cells.lookup x = some c → X.env.cells.lookup y = some c → x = y
  has : ∀ x, (X.env.kindOf x = some .cell ∨ X.env.kindOf x = some .free) → ∃ c, X.env.cells.lookup x = some c
  cab : ∀ x c, X.fn x = true → X.env.cells.lookup x = some c → X.s₀.heap.objs.size ≤ c
  hd : X.calm = true → X.A.handled = none
  frames : X.A.frames = some X.stack
  stk : X.stack = X.outer ∨ (X.stack = X.env :: X.outer ∧ X.env.frame = some X.env.locals)
  exf : ∀ b ∈ X.ex, b ≠ X.env.locals ∧ ∀ x c, X.env.cells.lookup x = some c → c ≠ b
  bs : ∀ b o, X.base.get? b = some o → X.s₀.heap.get? b = some o ∧ X.H₀ b = none
  bsz : X.base.objs.size ≤ X.s₀.heap.objs.size
  noex : ∀ b o, X.base.get? b = some o → b ∉ X.ex
  exfs : ∀ b ∈ X.ex, b ∉ X.fs
  funs : X.s₀.heap.FunFrames X.base X.outer
  frf : ∀ b ∈ X.fs, X.H₀ b = none

structure Inv (X : Cx) (pins : List (Addr × Obj)) (σ : List (Option V)) (H : Hp) (s : Shared) : Prop where
  ok : X.Ok
  os : s.os = X.s₀.os
  bare : AllBare s.gens
  base : Un X.fs X.ex X.H₀ H X.s₀.heap s.heap
  loc : ∃ m, s.heap.Ns X.env.locals m ∧ ∀ (i : Nat) (x : Str) (v : V), X.N[i]? = some x → σ[i]? = some (some v) → Vis X.env.scope x → ∃ u, RelV v u ∧ Look X.env s.heap m x u
  cell : ∀ x c, X.env.cells.lookup x = some c → ∃ v, s.heap.IsCell c v
  free : H X.env.locals = none
  freeC : ∀ x c, X.env.cells.lookup x = some c → H c = none
  pin : ∀ p ∈ X.pn ++ pins, s.heap.get? p.1 = some p.2 ∧ H p.1 = none ∧ p.1 ≠ X.env.locals ∧ p.1 ∉ X.fs ∧ ∀ v, p.2.data ≠ .cell v
  hok : HOk X.prog X.w H s.heap
  len : σ.length = X.N.length

section
variable {X : Cx} {pins : List (Addr × Obj)} {σ : List (Option V)} {H H' : Hp} {s : Shared} {h' : Heap}

theorem Cx.Ok.nofr (ok : X.Ok) {b : Addr} {o : Obj} (e : X.base.get? b = some o) : b ∉ X.fs := fun hb => by
  have := (ok.funs.mem hb).1
  rw [e] at this; cases this
theorem Inv.bs (I : Inv X pins σ H s) : ∀ b o, X.base.get? b = some o → s.heap.get? b = some o ∧ H b = none := fun b o e =>
  ⟨I.base.keep b o (I.ok.bs b o e).1 (I.ok.bs b o e).2 (I.ok.nofr e) (I.ok.noex b o e), I.base.free b o (I.ok.bs b o e).1 (I.ok.bs b o e).2 (I.ok.noex b o e)⟩
theorem Inv.bk (I : Inv X pins σ H s) : ∀ b o, X.base.get? b = some o → s.heap.get? b = some o := fun b o e => (I.bs b o e).1
theorem Inv.mod (I : Inv X pins σ H s) : Mod X.K X.mg X.base := I.ok.mod
theorem Inv.kIn (I : Inv X pins σ H s) : X.K.In s.heap := I.ok.mod.kin.keeps I.bk
theorem Inv.nolimit (I : Inv X pins σ H s) : s.heap.NoLimit := I.ok.mod.nolimit.keeps I.bk
/-- the frame over the base: for OpenK's rules (K.In X.base is I.mod.kin) -/
theorem Inv.fr (I : Inv X pins σ H s) : ∃ m, Fr X.base X.env.locals s.heap m :=
  let ⟨m, hn, _⟩ := I.loc
  ⟨m, hn, I.bk, Nat.le_trans I.ok.bsz I.ok.above⟩
theorem Inv.lt (I : Inv X pins σ H s) : X.env.locals < s.heap.objs.size := let ⟨_, hn, _⟩ := I.loc; hn.lt
theorem Inv.sz (I : Inv X pins σ H s) : X.s₀.heap.objs.size ≤ s.heap.objs.size := Nat.le_trans I.ok.above (Nat.le_of_lt I.lt)
theorem Inv.nofs (I : Inv X pins σ H s) {a : Addr} (h : s.heap.objs.size ≤ a) : a ∉ X.fs := fun hb => by
  obtain ⟨_, o, ho, _⟩ := I.ok.funs.mem hb
  exact absurd (Nat.lt_of_lt_of_le (Heap.lt_size ho) (Nat.le_trans I.sz h)) (Nat.lt_irrefl _)
theorem Inv.cne (I : Inv X pins σ H s) : ∀ x c, X.env.cells.lookup x = some c → c ≠ X.env.locals := fun x c e z => by
  obtain ⟨v, o, ho, hd⟩ := I.cell x c e
  obtain ⟨m, ⟨o', es, ep, ho', hd', _⟩, _⟩ := I.loc
  rw [z, ho'] at ho; cases ho; rw [hd'] at hd; cases hd
theorem Inv.funs (I : Inv X pins σ H s) : s.heap.FunFrames X.base X.outer := by
  have all : ∀ (l : List Env), (∀ b ∈ frs l, b ∈ X.fs) → X.s₀.heap.FunFrames X.base l → s.heap.FunFrames X.base l := by
    intro l
    induction l with
    | nil => intro _ _; trivial
    | cons env r ih =>
      intro hs hl
      obtain ⟨hk, ⟨L, o, hf, hn, ho, hd⟩, hr⟩ := hl
      have hL : L ∈ X.fs := hs L (by unfold frs; rw [List.filterMap_cons, hf]; exact List.mem_cons_self)
      obtain ⟨sl, e⟩ := I.base.slot L o ho (I.ok.frf L hL) hL fun z => I.ok.exfs L z hL
      exact ⟨hk, ⟨L, _, hf, hn, e, hd⟩, ih (fun b hb => hs b (by unfold frs; rw [List.filterMap_cons, hf]; exact List.mem_cons_of_mem _ hb)) hr⟩
  exact all X.outer (fun _ hb => hb) I.ok.funs

/-- the frames that run, for a call -/
theorem Inv.stack (I : Inv X pins σ H s) : s.heap.FunFrames X.base X.stack := by
  rcases I.ok.stk with e | ⟨e, hf⟩
  · rw [e]; exact I.funs
  · rw [e]
    obtain ⟨m, hn, _⟩ := I.loc
    refine .cons (by rw [I.ok.kind]; decide) hf hn ?_ I.funs
    exact Heap.get?_none_of_le (Nat.le_trans I.ok.bsz I.ok.above)
theorem Inv.stkSub (I : Inv X pins σ H s) : ∀ b ∈ frs X.stack, b ∈ X.env.locals :: X.fs := fun b hb => by
  rcases I.ok.stk with e | ⟨e, hf⟩
  · rw [e] at hb; exact List.mem_cons_of_mem _ hb
  · rw [e] at hb
    unfold frs at hb
    rw [List.filterMap_cons, hf] at hb
    exact hb
theorem Inv.stkFree (I : Inv X pins σ H s) : ∀ b ∈ frs X.stack, H b = none := fun b hb => by
  rcases List.mem_cons.mp (I.stkSub b hb) with e | hb
  · rw [e]; exact I.free
  · obtain ⟨_, o, ho, _⟩ := I.ok.funs.mem hb
    exact I.base.free b o ho (I.ok.frf b hb) fun z => I.ok.exfs b z hb

/-- THE STEP: the untracked objects but the frame and the records at ch are kept (the callers' frames up to slots), the frame's map is kept, the new abstract heap is held -/
theorem Inv.step {g' : Array GenState} {t' : Nat} {d' : Drawn} {ch : List Addr} (I : Inv X pins σ H s)
    (hch : ∀ b ∈ ch, (b ∈ X.ex ∨ X.s₀.heap.objs.size ≤ b) ∧ b ≠ X.env.locals ∧ (∀ x c, X.env.cells.lookup x = some c → c ≠ b) ∧ ∀ p ∈ X.pn ++ pins, p.1 ≠ b)
    (keep : ∀ b o, b ≠ X.env.locals → b ∉ X.fs → b ∉ ch → s.heap.get? b = some o → H b = none → h'.get? b = some o)
    (slot : ∀ b o, b ≠ X.env.locals → b ∈ X.fs → b ∉ ch → s.heap.get? b = some o → H b = none → ∃ sl, h'.get? b = some { o with slots := sl }) (free : ∀ b o, b ∉ ch → s.heap.get? b = some o → H b = none → H' b = none)
    (there : ∀ b o, b ∉ ch → s.heap.get? b = some o → ∃ o', h'.get? b = some o')
    (tups : ∀ b xs, H b = some (.tup xs) → H' b = some (.tup xs)) (frzs : ∀ b o u, H b = some (.frz o u) → H' b = some (.frz o u)) (tbls : ∀ b ps, H b = some (.tbl ps) → ∃ more, H' b = some (.tbl (ps ++ more)))
    (ns : ∀ m, s.heap.Ns X.env.locals m → h'.Ns X.env.locals m) (hok : HOk X.prog X.w H' h') (hg : AllBare g') :
    Inv X pins σ H' { s with heap := h', gens := g', drawn := d', toks := t' } := by
  have neL : ∀ b o, X.s₀.heap.get? b = some o → b ≠ X.env.locals := fun b o e => Nat.ne_of_lt (Nat.lt_of_lt_of_le (Heap.lt_size e) I.ok.above)
  have neC : ∀ b o, X.s₀.heap.get? b = some o → b ∉ X.ex → b ∉ ch := fun b o e hx hb => by
    rcases (hch b hb).1 with z | z
    · exact hx z
    · exact absurd (Nat.lt_of_lt_of_le (Heap.lt_size e) z) (Nat.lt_irrefl _)
  have cellK : ∀ x c, X.env.cells.lookup x = some c → ∀ v, s.heap.IsCell c v → h'.IsCell c v := fun x c e v ⟨o, ho, hd⟩ => by
    have nch : c ∉ ch := fun z => (hch c z).2.2.1 x c e rfl
    by_cases hc : c ∈ X.fs
    · obtain ⟨sl, q⟩ := slot c o (I.cne x c e) hc nch ho (I.freeC x c e)
      exact ⟨_, q, hd⟩
    · exact ⟨o, keep c o (I.cne x c e) hc nch ho (I.freeC x c e), hd⟩
  refine ⟨I.ok, I.os, hg, ⟨fun b o e n hb hx => ?_, fun b o e n hb hx => ?_, fun b o e n hx => ?_, fun b o e hx => ?_, fun b xs e => tups b xs (I.base.tups b xs e), fun b o xs e => frzs b o xs (I.base.frzs b o xs e), fun b ps e => ?_⟩, ?_, fun x c e => ?_, ?_, fun x c e => ?_, fun p hp => ?_, hok, I.len⟩
  · exact keep b o (neL b o e) hb (neC b o e hx) (I.base.keep b o e n hb hx) (I.base.free b o e n hx)
  · obtain ⟨sl, e1⟩ := I.base.slot b o e n hb hx
    obtain ⟨sl', e2⟩ := slot b _ (neL b o e) hb (neC b o e hx) e1 (I.base.free b o e n hx)
    exact ⟨sl', e2⟩
  · obtain ⟨o', e1⟩ := I.base.there b o e hx
    exact free b o' (neC b o e hx) e1 (I.base.free b o e n hx)
  · obtain ⟨o', e1⟩ := I.base.there b o e hx
    exact there b o' (neC b o e hx) e1
  · obtain ⟨m1, e1⟩ := I.base.tbls b ps e
    obtain ⟨m2, e2⟩ := tbls b _ e1
    exact ⟨m1 ++ m2, by rw [e2, Array.append_assoc]⟩
  · obtain ⟨m, hn, hl⟩ := I.loc
    refine ⟨m, ns m hn, fun i x v e1 e2 e3 => ?_⟩
    obtain ⟨u, r, l⟩ := hl i x v e1 e2 e3
    refine ⟨u, r, ?_⟩
    rcases l with l | ⟨k, c, e, z⟩
    · exact .inl l
    · exact .inr ⟨k, c, e, cellK x c e _ z⟩
  · obtain ⟨v, z⟩ := I.cell x c e
    exact ⟨v, cellK x c e v z⟩
  · obtain ⟨m, ⟨o, _, _, ho, _⟩, _⟩ := I.loc
    exact free _ o (fun z => (hch _ z).2.1 rfl) ho I.free
  · obtain ⟨v, o, ho, hd⟩ := I.cell x c e
    exact free c o (fun z => (hch c z).2.2.1 x c e rfl) ho (I.freeC x c e)
  · obtain ⟨e, n, ne, nf, d⟩ := I.pin p hp
    have nch : p.1 ∉ ch := fun z => (hch p.1 z).2.2.2 p hp rfl
    exact ⟨keep p.1 p.2 ne nf nch e n, free p.1 p.2 nch e n, ne, nf, d⟩
/-- .. where the frame's own object is kept too -/
theorem Inv.un {t' : Nat} (I : Inv X pins σ H s) (u : Un X.fs [] H H' s.heap h') (hok : HOk X.prog X.w H' h') : Inv X pins σ H' { s with heap := h', toks := t' } := by
  obtain ⟨m, ⟨o, es, ep, ho, r⟩, _⟩ := id I.loc
  obtain ⟨sl, hL⟩ := u.any ho I.free (by simp)
  exact I.step (g' := s.gens) (d' := s.drawn) (ch := []) (fun _ z => nomatch z) (fun b o _ hb _ e n => u.keep b o e n hb (by simp)) (fun b o _ hb _ e n => u.slot b o e n hb (by simp)) (fun b o _ e n => u.free b o e n (by simp)) (fun b o _ e => u.there b o e (by simp)) u.tups u.frzs u.tbls (fun m' hm => by
    obtain ⟨o', es', ep', ho', r'⟩ := hm
    rw [ho] at ho'; cases ho'
    exact ⟨_, es', ep', hL, r'⟩) hok I.bare
/-- behind a call (or a comprehension's block): the slots of this frame may have changed too, the records at ch may have turned -/
theorem Inv.call {g' : Array GenState} {t' : Nat} {d' : Drawn} {ch : List Addr} (I : Inv X pins σ H s) (u : Un (frs X.stack) ch H H' s.heap h') (hok : HOk X.prog X.w H' h') (hg : AllBare g')
    (hch : ∀ b ∈ ch, (b ∈ X.ex ∨ X.s₀.heap.objs.size ≤ b) ∧ b ≠ X.env.locals ∧ (∀ x c, X.env.cells.lookup x = some c → c ≠ b) ∧ ∀ p ∈ X.pn ++ pins, p.1 ≠ b) :
    Inv X pins σ H' { s with heap := h', gens := g', drawn := d', toks := t' } := by
  obtain ⟨m, ⟨o, es, ep, ho, r⟩, _⟩ := id I.loc
  obtain ⟨sl, hL⟩ := u.any ho I.free fun z => (hch _ z).2.1 rfl
  exact I.step (ch := ch) hch (fun b o hL hb hc e n => u.keep b o e n (fun z => (List.mem_cons.mp (I.stkSub b z)).elim hL hb) hc) (fun b o _ _ hc e n => u.any e n hc) (fun b o hc e n => u.free b o e n hc) (fun b o hc e => u.there b o e hc) u.tups u.frzs u.tbls (fun m' hm => by
    obtain ⟨o', es', ep', ho', r'⟩ := hm
    rw [ho] at ho'; cases ho'
    exact ⟨_, es', ep', hL, r'⟩) hok hg
/-- an untracked record of ours (an iterator) has turned -/
theorem Inv.turned {t' : Nat} {it : Addr} (I : Inv X pins σ H s) (k : ∀ b o, b ≠ it → s.heap.get? b = some o → h'.get? b = some o) (hn : H it = none) (hL : it ≠ X.env.locals)
    (h1 : it ∈ X.ex ∨ X.s₀.heap.objs.size ≤ it) (h2 : ∀ x c, X.env.cells.lookup x = some c → c ≠ it) (h3 : ∀ p ∈ X.pn ++ pins, p.1 ≠ it) : Inv X pins σ H { s with heap := h', toks := t' } := by
  have nit : ∀ b u, H b = some u → b ≠ it := fun b u e z => by rw [z, hn] at e; cases e
  refine I.step (g' := s.gens) (d' := s.drawn) (ch := [it]) (fun b hb => ?_) (fun b o _ _ hc e _ => k b o (fun z => hc (by simp [z])) e) (fun b o _ _ hc e _ => ⟨o.slots, k b o (fun z => hc (by simp [z])) e⟩) (fun _ _ _ _ n => n)
    (fun b o hc e => ⟨o, k b o (fun z => hc (by simp [z])) e⟩) (fun _ _ e => e) (fun _ _ _ e => e) (fun b ps e => ⟨#[], by rw [e]; simp⟩) (fun m hm => ?_) (fun b u e => ?_) I.bare
  · have e : b = it := by simpa using hb
    subst e
    exact ⟨h1, hL, h2, h3⟩
  · obtain ⟨o, es, ep, ho, r⟩ := hm
    exact ⟨o, es, ep, k _ o (Ne.symm hL) ho, r⟩
  · refine (I.hok b u e).stay (fun c v hc q => k c v ?_ q) (fun _ q => q) fun _ _ q => q
    rcases hc with z | z
    · rw [z]; exact nit b u e
    · exact nit c _ z
theorem Inv.tok (I : Inv X pins σ H s) (t : Nat) : Inv X pins σ H { s with toks := t } := I.un (h' := s.heap) (t' := t) Un.refl I.hok
/-- all objects kept -/
theorem Inv.kept {t' : Nat} (I : Inv X pins σ H s) (k : ∀ b u, s.heap.get? b = some u → h'.get? b = some u) : Inv X pins σ H { s with heap := h', toks := t' } := I.un (Un.kept k) (I.hok.kept k)
/-- a new object laid and tracked -/
theorem Inv.laid {a : Addr} {o : HO} {t' : Nat} (I : Inv X pins σ H s) (k : ∀ b u, s.heap.get? b = some u → h'.get? b = some u) (hp : s.heap.objs.size ≤ a) (new : ObjOk X.prog X.w (upd H a o) h' a o) :
    Inv X pins σ (upd H a o) { s with heap := h', toks := t' } := I.un (Un.laid k hp (I.hok.fresh hp)) (I.hok.laid k hp new)
/-- an object written -/
theorem Inv.write {x e : Addr} {o : HO} {t' : Nat} (I : Inv X pins σ H s) (mu : Mut (H x)) (he : e = x ∨ H e = some (.own x)) (k : ∀ b u, b ≠ e → s.heap.get? b = some u → h'.get? b = some u) (heo : ∃ u, h'.get? e = some u)
    (new : ObjOk X.prog X.w (upd H x o) h' x o) : Inv X pins σ (upd H x o) { s with heap := h', toks := t' } := I.un (Un.write mu he k heo) (I.hok.write mu he k heo new)
/-- forgetting slots, pins -/
theorem Inv.weak {σ' : List (Option V)} (I : Inv X pins σ H s) (hl : σ'.length = σ.length) (w : ∀ (i : Nat) v, σ'[i]? = some (some v) → σ[i]? = some (some v)) : Inv X pins σ' H s :=
  ⟨I.ok, I.os, I.bare, I.base, let ⟨m, hn, hl'⟩ := I.loc; ⟨m, hn, fun i x v e1 e2 e3 => hl' i x v e1 (w i v e2) e3⟩, I.cell, I.free, I.freeC, I.pin, I.hok, hl.trans I.len⟩
theorem Inv.pins_of {pins' : List (Addr × Obj)} (I : Inv X pins σ H s) (h : ∀ p ∈ pins', s.heap.get? p.1 = some p.2 ∧ H p.1 = none ∧ p.1 ≠ X.env.locals ∧ p.1 ∉ X.fs ∧ ∀ v, p.2.data ≠ .cell v) : Inv X pins' σ H s :=
  ⟨I.ok, I.os, I.bare, I.base, I.loc, I.cell, I.free, I.freeC, fun p hp => (List.mem_append.mp hp).elim (fun z => I.pin p (List.mem_append_left _ z)) (h p), I.hok, I.len⟩

theorem nodup_ix {N : List Str} (hN : N.Nodup) {i j : Nat} {x : Str} (a : N[i]? = some x) (b : N[j]? = some x) : i = j := by
  obtain ⟨h1, e1⟩ := List.getElem?_eq_some_iff.mp a
  obtain ⟨h2, e2⟩ := List.getElem?_eq_some_iff.mp b
  exact (List.getElem_inj hN).mp (e1.trans e2.symm)

/-- a name is stored; what changed -/
theorem store_ok2 {M : Model} {A : Around} {E : Value → Shared → Prop} {i : Nat} {x : Str} {v : V} {u : Value} {Q : Unit → Shared → Prop} (I : Inv X pins σ H s) (hN : X.N.Nodup) (hi : X.N[i]? = some x) (hx : Loc X.env.scope x) (r : RelV v u)
    (h : ∀ s', Inv X pins (σ.set i (some v)) H s' → (∃ a, Heap.SameBut a s.heap s'.heap ∧ (a = X.env.locals ∨ X.env.cells.lookup x = some a)) → Q () s') (hf : X.fn x = true ∨ X.env.scope.names.lookup x = some .local := by first | exact .inl rfl | exact .inr rfl | assumption) : wpAny M A (storeName X.env x u) Q E s := by
  obtain ⟨m, hn, hl⟩ := id I.loc
  have hcls : (X.env.scope.kind == .class || (X.env.scope.kind == .module && X.env.locals != X.env.globals)) = false := by rw [I.ok.kind]; rfl
  have hiσ : i < σ.length := by rw [I.len]; exact (List.getElem?_eq_some_iff.mp hi).1
  have cne := I.cne
  have tracked : ∀ {a : Addr} {h' : Heap}, (∃ o, s.heap.get? a = some o ∧ H a = none) → Heap.SameBut a s.heap h' → HOk X.prog X.w H h' := fun {a h'} ha hs b ob e => by
    obtain ⟨_, _, hfree⟩ := ha
    refine (I.hok b ob e).stay (fun c w' hc q => (hs.2 c ?_).trans q) (fun _ q => q) fun _ _ q => q
    rintro rfl
    rcases hc with rfl | hc
    · rw [hfree] at e; cases e
    · rw [hfree] at hc; cases hc
  rcases hx with hk | hk
  · refine wpAny_storeName_local hk hn (fun h' hn' hs => ?_) hcls
    obtain ⟨oL, _, _, hoL, _⟩ := id hn
    refine h _ ⟨I.ok, I.os, I.bare, ⟨fun b o e n hb hx => ?_, fun b o e n hb hx => ?_, I.base.free, fun b o e hx => ?_, I.base.tups, I.base.frzs, I.base.tbls⟩, ⟨_, hn', fun j y v' e1 e2 e3 => ?_⟩, fun y c e => ?_, I.free, I.freeC, fun p hp => ?_, tracked ⟨oL, hoL, I.free⟩ hs, by simpa using I.len⟩ ⟨_, hs, .inl rfl⟩
    · exact (hs.2 b (Nat.ne_of_lt (Nat.lt_of_lt_of_le (Heap.lt_size e) I.ok.above))).trans (I.base.keep b o e n hb hx)
    · obtain ⟨sl, e1⟩ := I.base.slot b o e n hb hx
      exact ⟨sl, (hs.2 b (Nat.ne_of_lt (Nat.lt_of_lt_of_le (Heap.lt_size e) I.ok.above))).trans e1⟩
    · obtain ⟨o', e1⟩ := I.base.there b o e hx
      exact ⟨o', (hs.2 b (Nat.ne_of_lt (Nat.lt_of_lt_of_le (Heap.lt_size e) I.ok.above))).trans e1⟩
    · by_cases hj : j = i
      · subst hj
        rw [hi] at e1; cases e1
        rw [List.getElem?_set_self hiσ] at e2
        cases e2
        exact ⟨u, r, .inl ⟨hk, by simp⟩⟩
      · rw [List.getElem?_set_ne (Ne.symm hj)] at e2
        obtain ⟨u', r', q⟩ := hl j y v' e1 e2 e3
        refine ⟨u', r', ?_⟩
        rcases q with ⟨k, e⟩ | ⟨k, c, e, z⟩
        · refine .inl ⟨k, ?_⟩
          have : y ≠ x := fun e => hj (nodup_ix hN e1 (e ▸ hi))
          simp [this, e]
        · exact .inr ⟨k, c, e, z.sameBut hs (cne y c e)⟩
    · obtain ⟨w', z⟩ := I.cell y c e
      exact ⟨w', z.sameBut hs (cne y c e)⟩
    · obtain ⟨e, n, ne, nf, d⟩ := I.pin p hp
      exact ⟨(hs.2 p.1 ne).trans e, n, ne, nf, d⟩
  · have hfn : X.fn x = true := by
      rcases hf with z | z
      · exact z
      · rw [z] at hk; cases hk
    obtain ⟨c, hc⟩ := I.ok.has x (.inl hk)
    obtain ⟨w', z⟩ := I.cell x c hc
    refine wpAny_storeName_cell I.ok.kind hk hc z (fun h' hc' hs => ?_)
    obtain ⟨oc, hoc, hocd⟩ := id z
    refine h { s with heap := h' } ⟨I.ok, I.os, I.bare, ⟨fun b o e n hb hx => ?_, fun b o e n hb hx => ?_, I.base.free, fun b o e hx => ?_, I.base.tups, I.base.frzs, I.base.tbls⟩, ⟨m, hn.sameBut hs (Ne.symm (cne x c hc)), fun j y v' e1 e2 e3 => ?_⟩, fun y c' e => ?_, I.free, I.freeC, fun p hp => ?_, tracked ⟨oc, hoc, I.freeC x c hc⟩ hs, by simpa using I.len⟩ ⟨c, hs, .inr hc⟩
    · exact (hs.2 b (Nat.ne_of_lt (Nat.lt_of_lt_of_le (Heap.lt_size e) (I.ok.cab x c hfn hc)))).trans (I.base.keep b o e n hb hx)
    · obtain ⟨sl, e1⟩ := I.base.slot b o e n hb hx
      exact ⟨sl, (hs.2 b (Nat.ne_of_lt (Nat.lt_of_lt_of_le (Heap.lt_size e) (I.ok.cab x c hfn hc)))).trans e1⟩
    · obtain ⟨o', e1⟩ := I.base.there b o e hx
      exact ⟨o', (hs.2 b (Nat.ne_of_lt (Nat.lt_of_lt_of_le (Heap.lt_size e) (I.ok.cab x c hfn hc)))).trans e1⟩
    · by_cases hj : j = i
      · subst hj
        rw [hi] at e1; cases e1
        rw [List.getElem?_set_self hiσ] at e2
        cases e2
        exact ⟨u, r, .inr ⟨.inl hk, c, hc, hc'⟩⟩
      · rw [List.getElem?_set_ne (Ne.symm hj)] at e2
        obtain ⟨u', r', q⟩ := hl j y v' e1 e2 e3
        refine ⟨u', r', ?_⟩
        rcases q with q | ⟨k, c', e, z'⟩
        · exact .inl q
        · refine .inr ⟨k, c', e, z'.sameBut hs ?_⟩
          rintro rfl
          exact hj (nodup_ix hN e1 (I.ok.inj _ _ _ e hc ▸ hi))
    · by_cases hcc : c' = c
      · subst hcc; exact ⟨_, hc'⟩
      · obtain ⟨w2, z2⟩ := I.cell y c' e
        exact ⟨w2, z2.sameBut hs hcc⟩
    · obtain ⟨e, n, ne, nf, d⟩ := I.pin p hp
      refine ⟨(hs.2 p.1 ?_).trans e, n, ne, nf, d⟩
      intro q
      rw [q, hoc] at e
      have q' : oc = p.2 := Option.some.inj e
      exact d w' (by rw [← q']; exact hocd)
theorem store_ok {M : Model} {A : Around} {E : Value → Shared → Prop} {i : Nat} {x : Str} {v : V} {u : Value} {Q : Unit → Shared → Prop} (I : Inv X pins σ H s) (hN : X.N.Nodup) (hi : X.N[i]? = some x) (hx : Loc X.env.scope x) (r : RelV v u)
    (h : ∀ s', Inv X pins (σ.set i (some v)) H s' → Q () s') (hf : X.fn x = true ∨ X.env.scope.names.lookup x = some .local := by first | exact .inl rfl | exact .inr rfl | assumption) : wpAny M A (storeName X.env x u) Q E s :=
  store_ok2 I hN hi hx r (fun s' I' _ => h s' I') hf
/-- behind a call or a block, the state as it is -/
theorem Inv.call' {s' : Shared} {ch : List Addr} (I : Inv X pins σ H s) (ho : s'.os = s.os) (u : Un (frs X.stack) ch H H' s.heap s'.heap) (hok : HOk X.prog X.w H' s'.heap) (hg : AllBare s'.gens)
    (hch : ∀ b ∈ ch, (b ∈ X.ex ∨ X.s₀.heap.objs.size ≤ b) ∧ b ≠ X.env.locals ∧ (∀ x c, X.env.cells.lookup x = some c → c ≠ b) ∧ ∀ p ∈ X.pn ++ pins, p.1 ≠ b) : Inv X pins σ H' s' := by
  obtain ⟨h', g', d', t', o'⟩ := s'
  have e : o' = s.os := ho
  subst e
  exact I.call (g' := g') (t' := t') (d' := d') u hok hg hch
end

/-- an exception: its class, its own dict's address (where it has one), the abstract heap behind it -/
abbrev XK := Value → Option Addr → Hp → Prop
abbrev St := List (Option V)
abbrev VK := V → Hp → Prop
/-- an expression's reading; a test's; an argument list's -/
abbrev TE := St → Hp → VK → Prop
abbrev TT := St → Hp → (Bool → Hp → Prop) → Prop
abbrev TA := St → Hp → (List V → Hp → Prop) → Prop
/-- what is wanted behind a statement -/
structure Ends where
  nx : St → Hp → Prop
  rt : VK
  bk : St → Hp → Prop := fun _ _ => False
  ct : St → Hp → Prop := fun _ _ => False
abbrev TS := Ends → St → Hp → Prop

def EP (X : Cx) (pins : List (Addr × Obj)) (σ : St) (Q : VK) (u : Value) (s' : Shared) : Prop := ∃ v H', Inv X pins σ H' s' ∧ RelV v u ∧ Q v H'
def TP (X : Cx) (pins : List (Addr × Obj)) (σ : St) (Q : Bool → Hp → Prop) (b : Bool) (s' : Shared) : Prop := ∃ H', Inv X pins σ H' s' ∧ Q b H'
def AP (X : Cx) (pins : List (Addr × Obj)) (σ : St) (Q : List V → Hp → Prop) (us : List Value) (s' : Shared) : Prop := ∃ vs H', Inv X pins σ H' s' ∧ Vals vs us ∧ Q vs H'
def SP (X : Cx) (pins : List (Addr × Obj)) (D : Ends) (f : Flow) (s' : Shared) : Prop :=
  match f with
  | .next => ∃ σ' H', Inv X pins σ' H' s' ∧ D.nx σ' H'
  | .brk => ∃ σ' H', Inv X pins σ' H' s' ∧ D.bk σ' H'
  | .cont => ∃ σ' H', Inv X pins σ' H' s' ∧ D.ct σ' H'
  | .ret u => ∃ v σ' H', Inv X pins σ' H' s' ∧ RelV v u ∧ D.rt v H'

def PE (X : Cx) (e : Expr) (t : TE) : Prop :=
  ∀ (pins : List (Addr × Obj)) (s : Shared) (σ : St) (H : Hp) (Q : VK), Inv X pins σ H s → t σ H Q → wpAny (model X.prog X.w) X.A (eval e X.env) (EP X pins σ Q) X.xe s
def PT (X : Cx) (e : Expr) (t : TT) : Prop :=
  ∀ (pins : List (Addr × Obj)) (s : Shared) (σ : St) (H : Hp) (Q : Bool → Hp → Prop), Inv X pins σ H s → t σ H Q → wpAny (model X.prog X.w) X.A (isTrue e X.env (eval e X.env)) (TP X pins σ Q) X.xe s
/-- a test whatever its 'whole' is (and, or) -/
def PW (X : Cx) (e : Expr) (t : TT) : Prop :=
  ∀ (whole : Sem Value) (pins : List (Addr × Obj)) (s : Shared) (σ : St) (H : Hp) (Q : Bool → Hp → Prop), Inv X pins σ H s → t σ H Q → wpAny (model X.prog X.w) X.A (isTrue e X.env whole) (TP X pins σ Q) X.xe s
theorem PW.pt {X : Cx} {e : Expr} {t : TT} (h : PW X e t) : PT X e t := h _
/-- an argument list (no star), from the left -/
def PA (X : Cx) (es : List Expr) (t : TA) : Prop :=
  ∀ (pos : Pos) (pins : List (Addr × Obj)) (s : Shared) (σ : St) (H : Hp) (Q : List V → Hp → Prop), Inv X pins σ H s → t σ H Q → wpAny (model X.prog X.w) X.A (spliced (backTo pos (starEach es X.env))) (AP X pins σ Q) X.xe s
def PS (X : Cx) (st : Stmt) (t : TS) : Prop :=
  ∀ (pins : List (Addr × Obj)) (s : Shared) (σ : St) (H : Hp) (D : Ends), Inv X pins σ H s → t D σ H → wpAny (model X.prog X.w) X.A (exec st X.env) (SP X pins D) X.xe s
def PSs (X : Cx) (st : List Stmt) (t : TS) : Prop :=
  ∀ (pins : List (Addr × Obj)) (s : Shared) (σ : St) (H : Hp) (D : Ends), Inv X pins σ H s → t D σ H → wpAny (model X.prog X.w) X.A (execs st X.env) (SP X pins D) X.xe s
/-- weaken the end -/
theorem thn {α : Type} {t : Sem α} {Q Q' : α → Shared → Prop} {M : Model} {A : Around} {E : Value → Shared → Prop} {s : Shared} (h : wpAny M A t Q E s) (hQ : ∀ a s, Q a s → Q' a s) : wpAny M A t Q' E s := wpAny_mono h hQ fun _ _ x => x
end L2

namespace L2
open PySem PySem.Spec PyProof.Rows
section
variable {X : Cx}

def tVar (i : Nat) : TE := fun σ H Q => ∃ v, σ[i]? = some (some v) ∧ Q v H
def tC (v : V) : TE := fun _ H Q => Q v H
theorem pe_var {i : Nat} {x : Str} {pos : Pos} (hN : X.N[i]? = some x) (hv : Vis X.env.scope x) (hd : (x == ("__debug__" : Str)) = false := by decide) (hcd : (x == ("__classdict__" : Str)) = false := by decide) : PE X (.Name x pos) (tVar i) := by
  intro pins s σ H Q I h
  obtain ⟨v, e, h⟩ := h
  obtain ⟨m, hn, hl⟩ := I.loc
  obtain ⟨u, r, l⟩ := hl i x v hN e hv
  have fin : EP X pins σ Q u s := ⟨v, H, I, r, h⟩
  rcases l with ⟨hk, hm⟩ | ⟨hk, c, hc, hcell⟩
  · exact wpAny_Name (wpAny_loadName_local I.ok.kind hk hn hm fin) hd
  · rcases hk with hk | hk
    · exact wpAny_Name (wpAny_loadName_cell I.ok.kind hk hc hcell fin) hd
    · exact wpAny_Name (wpAny_loadName_free I.ok.kind hk hc hcell fin hcd) hd
theorem pe_int {i j pos} : PE X (.Constant (.int i) j pos) (tC (.int i)) := fun _ _ _ H _ I h => wpAny_Constant_int ⟨.int i, H, I.tok _, ⟨_, rfl⟩, h⟩
theorem pe_bl {b j pos} : PE X (.Constant (.bool b) j pos) (tC (.bl b)) := fun _ _ _ H _ I h => Constant_bool ⟨.bl b, H, I, rfl, h⟩
theorem pe_non {j pos} : PE X (.Constant .none j pos) (tC .non) := fun _ _ _ H _ I h => Constant_none ⟨.non, H, I, rfl, h⟩
theorem pe_str {x j pos} : PE X (.Constant (.str x) j pos) (tC (.str x)) := fun _ _ _ H _ I h => Calls.Constant_str ⟨.str x, H, I.tok _, ⟨_, rfl⟩, h⟩

/-- a global name of the def -/
def Gl (X : Cx) (x : Str) : Prop := X.env.kindOf x = some .globalImplicit
theorem ld_glob {E : Value → Shared → Prop} {pins : List (Addr × Obj)} {s : Shared} {σ : St} {H : Hp} {x : Str} {u : Value} {pos : Pos} {Q : Value → Shared → Prop} (I : Inv X pins σ H s) (hg : Gl X x) (hm : X.mg x = some u) (h : Q u s)
    (hd : (x == ("__debug__" : Str)) = false := by decide) : wpAny (model X.prog X.w) X.A (eval (.Name x pos) X.env) Q E s :=
  Calls.Name_function_global I.ok.kind hg (Calls.loadGlobal_global (by rw [I.ok.glob]; exact I.mod.glob.keeps I.bk) hm h) hd
theorem ld_blt {E : Value → Shared → Prop} {pins : List (Addr × Obj)} {s : Shared} {σ : St} {H : Hp} {x : Str} {u : Value} {pos : Pos} {Q : Value → Shared → Prop} (I : Inv X pins σ H s) (hg : Gl X x) (hm : X.mg x = none) (hv : bootBuiltins x = some u) (h : Q u s)
    (hn : x ≠ "__name__" := by decide) (hd : (x == ("__debug__" : Str)) = false := by decide) : wpAny (model X.prog X.w) X.A (eval (.Name x pos) X.env) Q E s := by
  obtain ⟨mb, h1, h2⟩ := I.mod.blt
  exact Calls.Name_function_global I.ok.kind hg (Calls.loadGlobal_builtin (by rw [I.ok.glob]; exact I.mod.glob.keeps I.bk) hm (by rw [I.ok.blt]; exact h1.keeps I.bk) ((h2 x hn).trans hv) h) hd
/-- a module's constant, a class, a function, as a value -/
theorem pe_glob {x : Str} {v : V} {u : Value} {pos : Pos} (hg : Gl X x) (hm : X.mg x = some u) (r : RelV v u) (hd : (x == ("__debug__" : Str)) = false := by decide) : PE X (.Name x pos) (tC v) :=
  fun _ _ _ H _ I h => ld_glob I hg hm ⟨v, H, I, r, h⟩ hd
theorem pe_bltn {x : Str} {v : V} {u : Value} {pos : Pos} (hg : Gl X x) (hm : X.mg x = none) (hv : bootBuiltins x = some u) (r : RelV v u) (hn : x ≠ "__name__" := by decide) (hd : (x == ("__debug__" : Str)) = false := by decide) : PE X (.Name x pos) (tC v) :=
  fun _ _ _ H _ I h => ld_blt I hg hm hv ⟨v, H, I, r, h⟩ hn hd

variable {a b : Expr} {ta tb : TE} {pos : Pos}
variable {tA tB' : TT} {rest : List Expr}
def tOr (t u : TT) : TT := fun σ H Q => t σ H fun c H1 => if c = true then Q true H1 else u σ H1 Q
def tNot (t : TT) : TT := fun σ H Q => t σ H fun c H1 => Q (!c) H1
theorem pw_or1 (ha : PT X a tA) : PW X (.BoolOp .Or [a] pos) tA := by
  intro wh pins s σ H Q I h
  refine isTrue_or (thn (ha pins s σ H Q I h) fun c s1 e => ?_)
  cases c with
  | false => exact isTrue_or_nil e
  | true => exact e
theorem pw_or (ha : PT X a tA) (hb : PW X (.BoolOp .Or (b :: rest) pos) tB') : PW X (.BoolOp .Or (a :: b :: rest) pos) (tOr tA tB') := by
  intro wh pins s σ H Q I h
  refine isTrue_or (thn (ha pins s σ H _ I h) fun c s1 ⟨H1, I1, q1⟩ => ?_)
  cases c with
  | true => exact ⟨H1, I1, q1⟩
  | false => exact hb wh pins s1 σ H1 Q I1 q1
theorem pt_not (ha : PT X a tA) : PT X (.UnaryOp .Not a pos) (tNot tA) := by
  intro pins s σ H Q I h
  exact isTrue_not (ha pins s σ H (fun c H1 => Q (!c) H1) I h)
/-- .. as values (bools) -/
def tAndV (ta tb : TE) : TE := fun σ H Q => ta σ H fun x H1 => ∃ c, x = .bl c ∧ if c = true then tb σ H1 Q else Q (.bl false) H1
def tNotV (ta : TE) : TE := fun σ H Q => ta σ H fun x H1 => ∃ c, x = .bl c ∧ Q (.bl (!c)) H1
theorem pe_one {op} {t : TE} (h : PE X a t) : PE X (.BoolOp op [a] pos) t := fun pins s σ H Q I hw => BoolOp_one (h pins s σ H Q I hw)
theorem pe_and (ha : PE X a ta) (hb : PE X (.BoolOp .And (b :: rest) pos) tb) : PE X (.BoolOp .And (a :: b :: rest) pos) (tAndV ta tb) := by
  intro pins s σ H Q I h
  refine BoolOp_and (thn (ha pins s σ H _ I h) fun v s1 ⟨x, H1, I1, r1, q1⟩ => ?_)
  obtain ⟨c, rfl, q1⟩ := q1
  cases r1
  refine wpAny_truthy_bool ?_
  cases c with
  | true => exact hb pins s1 σ H1 Q I1 q1
  | false => exact ⟨.bl false, H1, I1, rfl, q1⟩
theorem pe_not (ha : PE X a ta) : PE X (.UnaryOp .Not a pos) (tNotV ta) := by
  intro pins s σ H Q I h
  refine UnaryOp_ (thn (ha pins s σ H _ I h) fun v s1 ⟨x, H1, I1, r1, q1⟩ => ?_)
  obtain ⟨c, rfl, q1⟩ := q1
  cases r1
  exact not_of (wpAny_truthy_bool ⟨.bl (!c), H1, I1, rfl, q1⟩)
end
end L2

namespace L2
open PySem PySem.Spec PyProof.Rows

def SqL (K : PySem.W.Frag) (H : Hp) (a : Addr) (xs : List V) : Prop :=
  Rd H a (.lst xs) ∨
    ∃ (o : Obj) (its : Array Value) (n : Nat), K.lookup a = some o ∧ o.cls = .type "list" ∧ o.dict = none ∧ o.data = .seq its n ∧ its.size ≤ sizeLine ∧ Vals xs its.toList
def SqT (K : PySem.W.Frag) (H : Hp) (a : Addr) (xs : List V) : Prop :=
  Rd H a (.tup xs) ∨
    ∃ (o : Obj) (its : Array Value) (n : Nat), K.lookup a = some o ∧ o.cls = .type "tuple" ∧ o.data = .seq its n ∧ its.size ≤ sizeLine ∧ Vals xs its.toList
def absV : Value → Option V
  | .none => some .non
  | .bool b => some (.bl b)
  | .int i _ => some (.int i)
  | .str x _ => some (.str x)
  | .bytes b _ => some (.byt b)
  | .float b _ => some (.flt b)
  | .ref a => some (.ref a)
  | .type n => some (.ty n)
  | _ => none
theorem RelV.abs {x : V} {u : Value} (r : RelV x u) : absV u = some x := by
  cases x with
  | non => cases r; rfl
  | bl _ => cases r; rfl
  | int _ => obtain ⟨t, rfl⟩ := r; rfl
  | str _ => obtain ⟨t, rfl⟩ := r; rfl
  | byt _ => obtain ⟨t, rfl⟩ := r; rfl
  | flt _ => obtain ⟨t, rfl⟩ := r; rfl
  | ref _ => cases r; rfl
  | ty _ => cases r; rfl
theorem RelV.inj {x y : V} {u : Value} (r : RelV x u) (q : RelV y u) : x = y := Option.some.inj (r.abs.symm.trans q.abs)
theorem Vals.inj : ∀ {xs ys : List V} {us : List Value}, Vals xs us → Vals ys us → xs = ys
  | _, _, _, .nil, .nil => rfl
  | _, _, _, .cons r t, .cons r' t' => by rw [r.inj r', Vals.inj t t']
section
variable {X : Cx} {pins : List (Addr × Obj)} {σ : St} {H : Hp} {s : Shared} {a : Addr} {xs ys : List V}
theorem SqL.of {K : PySem.W.Frag} (h : H a = some (.lst xs)) : SqL K H a xs := .inl (.inl h)
theorem SqT.of {K : PySem.W.Frag} (h : H a = some (.tup xs)) : SqT K H a xs := .inl (.inl h)
theorem Inv.list (I : Inv X pins σ H s) (h : SqL X.K H a xs) : ∃ its : List Value, Vals xs its ∧ PlainL s.heap a its.toArray ∧ xs.length ≤ sizeLine := by
  rcases h with h | ⟨o, its, n, hk, hc, hd, hs, hz, r⟩
  · obtain ⟨z, its, n, r, e⟩ := h.ok I.hok
    exact ⟨its, r, ⟨_, n, e, rfl, rfl, rfl⟩, z⟩
  · refine ⟨its.toList, r, ⟨o, n, I.kIn a o hk, hc, hd, by simpa using hs⟩, ?_⟩
    have e := r.length
    simp only [Array.length_toList] at e
    omega
theorem Inv.tuple (I : Inv X pins σ H s) (h : SqT X.K H a xs) : ∃ its : List Value, Vals xs its ∧ IsTup s.heap a its.toArray ∧ xs.length ≤ sizeLine := by
  rcases h with h | ⟨o, its, n, hk, hc, hs, hz, r⟩
  · obtain ⟨z, its, r, p, _⟩ := h.ok I.hok
    exact ⟨its, r, p, z⟩
  · refine ⟨its.toList, r, ⟨o, I.kIn a o hk, hc, n, by simpa using hs⟩, ?_⟩
    have e := r.length
    simp only [Array.length_toList] at e
    omega
theorem Inv.list_inj (I : Inv X pins σ H s) (h : SqL X.K H a xs) (h' : SqL X.K H a ys) : xs = ys := by
  obtain ⟨its, r, ⟨o, n, e, _, _, d⟩, _⟩ := I.list h
  obtain ⟨its', r', ⟨o', n', e', _, _, d'⟩, _⟩ := I.list h'
  rw [e] at e'; cases e'
  rw [d] at d'
  injection d' with d1 _
  have : its = its' := by simpa using congrArg Array.toList d1
  subst this
  exact r.inj r'
theorem Inv.tuple_inj (I : Inv X pins σ H s) (h : SqT X.K H a xs) (h' : SqT X.K H a ys) : xs = ys := by
  obtain ⟨its, r, ⟨o, e, _, n, d⟩, _⟩ := I.tuple h
  obtain ⟨its', r', ⟨o', e', _, n', d'⟩, _⟩ := I.tuple h'
  rw [e] at e'; cases e'
  rw [d] at d'
  injection d' with d1 _
  have : its = its' := by simpa using congrArg Array.toList d1
  subst this
  exact r.inj r'
end

abbrev Cx.wish (X : Cx) (E : Value → Shared → Prop) : Cx := { X with xe := E }
/-- no exception leaves -/
abbrev Cx.nox (X : Cx) : Cx := X.wish fun _ _ => False
theorem Cx.Ok.wish {X : Cx} (ok : X.Ok) (E : Value → Shared → Prop) : (X.wish E).Ok :=
  ⟨ok.mod, ok.kind, ok.glob, ok.blt, ok.above, ok.inj, ok.has, ok.cab, ok.hd, ok.frames, ok.stk, ok.exf, ok.bs, ok.bsz, ok.noex, ok.exfs, ok.funs, ok.frf⟩
theorem Cx.Ok.unwish {X : Cx} {E : Value → Shared → Prop} (ok : (X.wish E).Ok) : X.Ok :=
  ⟨ok.mod, ok.kind, ok.glob, ok.blt, ok.above, ok.inj, ok.has, ok.cab, ok.hd, ok.frames, ok.stk, ok.exf, ok.bs, ok.bsz, ok.noex, ok.exfs, ok.funs, ok.frf⟩
section
variable {X : Cx} {pins : List (Addr × Obj)} {σ : St} {H : Hp} {s : Shared} {E : Value → Shared → Prop}
theorem Inv.wish (I : Inv X pins σ H s) (E : Value → Shared → Prop) : Inv (X.wish E) pins σ H s := ⟨I.ok.wish E, I.os, I.bare, I.base, I.loc, I.cell, I.free, I.freeC, I.pin, I.hok, I.len⟩
theorem Inv.unwish (I : Inv (X.wish E) pins σ H s) : Inv X pins σ H s := ⟨I.ok.unwish, I.os, I.bare, I.base, I.loc, I.cell, I.free, I.freeC, I.pin, I.hok, I.len⟩
theorem SP.unwish {D : Ends} {f : Flow} {s' : Shared} (h : SP (X.wish E) pins D f s') : SP X pins D f s' := by
  cases f with
  | next => obtain ⟨σ', H', I, q⟩ := h; exact ⟨σ', H', I.unwish, q⟩
  | brk => obtain ⟨σ', H', I, q⟩ := h; exact ⟨σ', H', I.unwish, q⟩
  | cont => obtain ⟨σ', H', I, q⟩ := h; exact ⟨σ', H', I.unwish, q⟩
  | ret u => obtain ⟨v, σ', H', I, r, q⟩ := h; exact ⟨v, σ', H', I.unwish, r, q⟩
theorem PE.nox {e : Expr} {t : TE} (h : PE X.nox e t) : PE X e t := fun pins s σ H Q I hw =>
  wpAny_mono (h pins s σ H Q (I.wish _) hw) (fun _ _ ⟨v, H', I', r, q⟩ => ⟨v, H', I'.unwish, r, q⟩) fun _ _ z => False.elim z
theorem PT.nox {e : Expr} {t : TT} (h : PT X.nox e t) : PT X e t := fun pins s σ H Q I hw =>
  wpAny_mono (h pins s σ H Q (I.wish _) hw) (fun _ _ ⟨H', I', q⟩ => ⟨H', I'.unwish, q⟩) fun _ _ z => False.elim z
theorem PSs.nox {st : List Stmt} {t : TS} (h : PSs X.nox st t) : PSs X st t := fun pins s σ H D I hw =>
  wpAny_mono (h pins s σ H D (I.wish _) hw) (fun _ _ q => q.unwish) fun _ _ z => False.elim z
end

section
variable {X : Cx} {st : Stmt} {rest : List Stmt} {t u : TS} {e : Expr} {te : TE} {pos : Pos}
def tNext : TS := fun D σ H => D.nx σ H
def tSeq (t u : TS) : TS := fun D σ H => t { D with nx := u D } σ H
theorem pss_nil : PSs X [] tNext := fun _ _ σ H _ I h => wpAny_execs_nil ⟨σ, H, I, h⟩
theorem pss_cons (h1 : PS X st t) (h2 : PSs X rest u) : PSs X (st :: rest) (tSeq t u) := by
  intro pins s σ H D I h
  refine wpAny_execs_cons (thn (h1 pins s σ H { D with nx := u D } I h) fun f s1 q => ?_)
  cases f with
  | next =>
    obtain ⟨σ', H', I', q⟩ := q
    exact h2 pins s1 σ' H' D I' q
  | ret v => exact q
  | brk => exact q
  | cont => exact q
theorem pss_one (h1 : PS X st t) : PSs X [st] t := by
  intro pins s σ H D I h
  refine wpAny_execs_cons (thn (h1 pins s σ H D I h) fun f s1 q => ?_)
  cases f with
  | next => exact wpAny_execs_nil q
  | ret v => exact q
  | brk => exact q
  | cont => exact q
/-- in a def's body nothing is shown -/
theorem Inv.quiet {pins : List (Addr × Obj)} {σ : St} {H : Hp} {s : Shared} (I : Inv X pins σ H s) : interactive X.env = false := by simp [interactive, I.ok.kind]
/-- an expression whose value is dropped -/
def tDrop (te : TE) : TS := fun D σ H => te σ H fun _ H1 => D.nx σ H1
theorem ps_expr (he : PE X e te) (hs : swapsWith e none pos.line X.env = pure false := by rfl) : PS X (.Expr e pos) (tDrop te) := by
  intro pins s σ H D I h
  exact wpAny_Expr_any (thn (he pins s σ H _ I h) fun v s1 ⟨x, H1, I1, r1, q1⟩ => ⟨σ, H1, I1, q1⟩) I.quiet hs
def tRet (te : TE) : TS := fun D σ H => te σ H D.rt
theorem ps_ret (he : PE X e te) : PS X (.Return (some e) pos) (tRet te) := by
  intro pins s σ H D I h
  exact wpAny_Return_some (thn (he pins s σ H _ I h) fun v s1 ⟨x, H1, I1, r1, q1⟩ => ⟨x, σ, H1, I1, r1, q1⟩)
def tIfS (c : TT) (t u : TS) : TS := fun D σ H => c σ H fun b H1 => if b = true then t D σ H1 else u D σ H1
theorem ps_if {c : Expr} {a b : List Stmt} {tc : TT} (hc : PT X c tc) (ha : PSs X a t) (hb : PSs X b u) : PS X (.If c a b pos) (tIfS tc t u) := by
  intro pins s σ H D I h
  refine wpAny_If (thn (hc pins s σ H _ I h) fun d s1 ⟨H1, I1, q1⟩ => ?_)
  cases d with
  | true => exact ha pins s1 σ H1 D I1 q1
  | false => exact hb pins s1 σ H1 D I1 q1
/-- code that the proof never comes to -/
def tNever : TS := fun _ _ _ => False
theorem ps_never : PS X st tNever := fun _ _ _ _ _ _ h => h.elim
end

abbrev TG := V → St → Hp → (St → Hp → Prop) → Prop
abbrev TGs := List V → St → Hp → (St → Hp → Prop) → Prop
def PG (X : Cx) (target : Expr) (t : TG) : Prop :=
  ∀ (pins : List (Addr × Obj)) (s : Shared) (σ : St) (H : Hp) (v : V) (u : Value) (Q : St → Hp → Prop), Inv X pins σ H s → RelV v u → t v σ H Q →
    wpAny (model X.prog X.w) X.A (assign target X.env u) (fun _ s' => ∃ σ' H', Inv X pins σ' H' s' ∧ Q σ' H') X.xe s
/-- several targets, one after another -/
def PGs (X : Cx) (ts : List Expr) (t : TGs) : Prop :=
  ∀ (pins : List (Addr × Obj)) (s : Shared) (σ : St) (H : Hp) (vs : List V) (us : List Value) (Q : St → Hp → Prop), Inv X pins σ H s → Vals vs us → t vs σ H Q →
    wpAny (model X.prog X.w) X.A (assignInOrder ((assignEach ts X.env).map (·.2)) us) (fun _ s' => ∃ σ' H', Inv X pins σ' H' s' ∧ Q σ' H') X.xe s
/-- a op= b, by values -/
abbrev TIp := V → V → Hp → VK → Prop
def PIp (X : Cx) (op : Operator) (t : TIp) : Prop :=
  ∀ (pins : List (Addr × Obj)) (s : Shared) (σ : St) (H : Hp) (x y : V) (v u : Value) (Q : VK), Inv X pins σ H s → RelV x v → RelV y u → t x y H Q →
    wpAny (model X.prog X.w) X.A (inplaceOp op v u) (EP X pins σ Q) X.xe s
section
variable {X : Cx} {pos : Pos}
def gName (i : Nat) : TG := fun v σ H Q => Q (σ.set i (some v)) H
theorem pg_name {i : Nat} {x : Str} (hN : X.N.Nodup) (hi : X.N[i]? = some x) (hx : Loc X.env.scope x) (hf : X.fn x = true ∨ X.env.scope.names.lookup x = some .local := by first | exact .inl rfl | exact .inr rfl | assumption) : PG X (.Name x pos) (gName i) := by
  intro pins s σ H v u Q I r h
  exact wpAny_assign_Name (store_ok I hN hi hx r (fun s' I' => ⟨_, H, I', h⟩) hf)
def gNil : TGs := fun vs σ H Q => vs = [] ∧ Q σ H
def gCons (t : TG) (u : TGs) : TGs := fun vs σ H Q => ∃ v r, vs = v :: r ∧ t v σ H fun σ' H' => u r σ' H' Q
theorem pgs_nil : PGs X [] gNil := by
  intro pins s σ H vs us Q I r h
  obtain ⟨e, h⟩ := h
  subst e
  cases r
  exact assignInOrder_nil ⟨σ, H, I, h⟩
theorem pgs_cons {e : Expr} {es : List Expr} {t : TG} {u : TGs} (h1 : PG X e t) (h2 : PGs X es u)
    (hs : (assignEach (e :: es) X.env).map (·.2) = assign e X.env :: (assignEach es X.env).map (·.2) := by rfl) : PGs X (e :: es) (gCons t u) := by
  intro pins s σ H vs us Q I r h
  obtain ⟨v, vr, e1, h⟩ := h
  subst e1
  cases r with
  | cons r rr =>
    rw [hs]
    refine assignInOrder_cons (thn (h1 pins s σ H _ _ _ I r h) fun _ s1 ⟨σ1, H1, I1, q1⟩ => ?_)
    exact h2 pins s1 σ1 H1 _ _ Q I1 rr q1
/-- (a, b, ..) = a tuple of that length -/
def gTup (K : PySem.W.Frag) (n : Nat) (t : TGs) : TG := fun v σ H Q => ∃ a xs, v = .ref a ∧ SqT K H a xs ∧ xs.length = n ∧ t xs σ H Q
theorem pg_tup {es : List Expr} {k : Nat} {t : TGs} {n : Nat} (hc : X.calm = true) (h : PGs X es t)
    (hn : (assignEach es X.env).length = n := by rfl) (hst : (assignEach es X.env).findIdx? (·.1) = none := by rfl) : PG X (.Tuple es k pos) (gTup X.K n t) := by
  intro pins s σ H v u Q I r hw
  obtain ⟨a, xs, e1, hq, hl, hw⟩ := hw
  subst e1
  cases r
  obtain ⟨its, rv, ht, hz⟩ := I.tuple hq
  refine assign_Tuple_tuple (I.ok.hd hc) ht (by simp [hn, ← hl, rv.length]) hst fun h' hx => ?_
  have I1 : Inv X pins σ H { s with heap := h' } := I.kept (t' := s.toks) fun b o e => hx b o (Nat.ne_of_lt (Heap.lt_size e)) e
  exact h pins _ σ H xs _ Q I1 (by simpa using rv) hw
/-- target = value -/
def tAsg (te : TE) (g : TG) : TS := fun D σ H => te σ H fun x H1 => g x σ H1 D.nx
/-- name = value -/
theorem ps_set {i : Nat} {x : Str} {e : Expr} {te : TE} {pos' : Pos} (hN : X.N.Nodup) (hi : X.N[i]? = some x) (hx : Loc X.env.scope x) (he : PE X e te) (hs : swapsWith e (some (.Name x pos')) pos.line X.env = pure false := by rfl) (hf : X.fn x = true ∨ X.env.scope.names.lookup x = some .local := by first | exact .inl rfl | exact .inr rfl | assumption) :
    PS X (.Assign [.Name x pos'] e pos) (tAsg te (gName i)) := by
  intro pins s σ H D I h
  refine wpAny_Assign_Name (thn (he pins s σ H _ I h) fun v s1 ⟨y, H1, I1, r1, q1⟩ => ?_) hs
  exact store_ok I1 hN hi hx r1 (fun s2 I2 => ⟨_, H1, I2, q1⟩) hf
/-- name op= e -/
def tAug (i : Nat) (te : TE) (ti : TIp) : TS := fun D σ H => ∃ x, σ[i]? = some (some x) ∧ te σ H fun y H1 => ti x y H1 fun z H2 => D.nx (σ.set i (some z)) H2
theorem ps_aug {i : Nat} {x : Str} {e : Expr} {te : TE} {op : Operator} {ti : TIp} {pos' : Pos} (hN : X.N.Nodup) (hi : X.N[i]? = some x) (hx : Loc X.env.scope x) (he : PE X e te) (ho : PIp X op ti) (hf : X.fn x = true ∨ X.env.scope.names.lookup x = some .local := by first | exact .inl rfl | exact .inr rfl | assumption) :
    PS X (.AugAssign (.Name x pos') op e pos) (tAug i te ti) := by
  intro pins s σ H D I h
  obtain ⟨v, e1, h⟩ := h
  obtain ⟨m, hn, hl⟩ := I.loc
  have vis : Vis X.env.scope x := by rcases hx with k | k; exact .inl k; exact .inr (.inl k)
  obtain ⟨u, r, l⟩ := hl i x v hi e1 vis
  refine wpAny_AugAssign_Name ?_
  have go : wpAny (model X.prog X.w) X.A (eval e X.env) (fun w s₂ => wpAny (model X.prog X.w) X.A (inplaceOp op u w) (fun r s₃ => wpAny (model X.prog X.w) X.A (storeName X.env x r) (fun _ => SP X pins D .next) X.xe s₃) X.xe s₂) X.xe s := by
    refine thn (he pins s σ H _ I h) fun w s1 ⟨y, H1, I1, r1, q1⟩ => ?_
    refine thn (ho pins s1 σ H1 v y u w _ I1 r r1 q1) fun z s2 ⟨zv, H2, I2, r2, q2⟩ => ?_
    exact store_ok I2 hN hi hx r2 (fun s3 I3 => ⟨_, H2, I3, q2⟩) hf
  rcases l with ⟨hk, hm⟩ | ⟨hk, c, hc, hcell⟩
  · exact wpAny_loadName_local I.ok.kind hk hn hm go
  · rcases hk with hk | hk
    · exact wpAny_loadName_cell I.ok.kind hk hc hcell go
    · rcases hx with k | k
      · have : X.env.scope.names.lookup x = some .free := hk
        rw [k] at this; cases this
      · have : X.env.scope.names.lookup x = some .free := hk
        rw [k] at this; cases this
end

section
variable {X : Cx} {pos : Pos}
end

/-- at turn i: it yields x (the heap may grow), or it stops -/
structure It where
  go : Nat → Hp → Prop
  yld : Nat → Hp → V → Hp → Prop
  stop : Nat → Hp → Prop
/-- the iterator's own objects may turn: they are not the frame's, not pinned, younger than the entry (or a comprehension's own) -/
def FpOk (X : Cx) (pins : List (Addr × Obj)) (H : Hp) (b : Addr) : Prop :=
  H b = none ∧ b ≠ X.env.locals ∧ b ∉ X.fs ∧ (b ∈ X.ex ∨ X.s₀.heap.objs.size ≤ b) ∧ (∀ x c, X.env.cells.lookup x = some c → c ≠ b) ∧ ∀ p ∈ X.pn ++ pins, p.1 ≠ b
theorem Inv.fpOk {X : Cx} {pins : List (Addr × Obj)} {σ : St} {H H' : Hp} {s : Shared} {b : Addr} (I : Inv X pins σ H s) (hb : s.heap.objs.size ≤ b) (hn : H' b = none) : FpOk X pins H' b := by
  refine ⟨hn, Nat.ne_of_gt (Nat.lt_of_lt_of_le I.lt hb), I.nofs hb, .inr (Nat.le_trans I.sz hb), fun x c e z => ?_, fun p hp z => ?_⟩
  · obtain ⟨v, q⟩ := I.cell x c e
    exact absurd (Nat.lt_of_lt_of_le q.lt (by rw [z]; exact hb)) (Nat.lt_irrefl _)
  · exact absurd (Nat.lt_of_lt_of_le (Heap.lt_size (I.pin p hp).1) (by rw [z]; exact hb)) (Nat.lt_irrefl _)
structure Turn (P : Program) (w : World) (K : PySem.W.Frag) (tg : Expr) (J : It) (fp : List Addr) (it : Addr) (tn : Nat → Heap → Prop) : Prop where
  mem : it ∈ fp
  obj : ∀ i h, tn i h → ∀ b ∈ fp, ∃ o, h.get? b = some o ∧ ∀ v, o.data ≠ .cell v
  keep : ∀ i h h', tn i h → (∀ b ∈ fp, ∀ o, h.get? b = some o → h'.get? b = some o) → tn i h'
  item : ∀ (X : Cx), X.prog = P → X.w = w → X.K = K → X.calm = true → ∀ (i : Nat) (pins : List (Addr × Obj)) (s : Shared) (σ : St) (H : Hp) (E : Value → Shared → Prop), Inv X pins σ H s → (∀ b ∈ fp, FpOk X pins H b) → tn i s.heap → J.go i H →
    wpAny (model P w) X.A (pyNext (.ref it)) (fun r s1 => ∃ u, r = some u ∧
      wpAny (model P w) X.A (letOwnedTupleGo tg (.ref it) u) (fun _ s2 => ∃ x H', Inv X pins σ H' s2 ∧ RelV x u ∧ J.yld i H x H' ∧ tn (i + 1) s2.heap ∧ ∀ b ∈ fp, H' b = none) E s1) E s
  done : ∀ (X : Cx), X.prog = P → X.w = w → X.K = K → X.calm = true → ∀ (i : Nat) (pins : List (Addr × Obj)) (s : Shared) (σ : St) (H : Hp) (E : Value → Shared → Prop), Inv X pins σ H s → (∀ b ∈ fp, FpOk X pins H b) → tn i s.heap → J.stop i H →
    wpAny (model P w) X.A (pyNext (.ref it)) (fun r s1 => r = none ∧ Inv X pins σ H s1) E s
  self : ∀ (A : Around) (i : Nat) (s : Shared) (Q : Value → Shared → Prop) (E : Value → Shared → Prop), tn i s.heap → Q (.ref it) s → wpAny (model P w) A (pyIter (.ref it)) Q E s
abbrev TI := St → Hp → (It → Hp → Prop) → Prop
/-- an iterator has come -/
def PIE (X : Cx) (pins : List (Addr × Obj)) (σ : St) (tg : Expr) (R : It → Hp → Prop) (itv : Value) (s2 : Shared) : Prop :=
  ∃ (it : Addr) (fp : List Addr) (tn : Nat → Heap → Prop) (J : It) (H' : Hp), itv = .ref it ∧ Inv X pins σ H' s2 ∧ Turn X.prog X.w X.K tg J fp it tn ∧ tn 0 s2.heap ∧ (∀ b ∈ fp, FpOk X pins H' b) ∧ R J H'
def PI (X : Cx) (tg iter : Expr) (wi : TI) : Prop :=
  ∀ (pins : List (Addr × Obj)) (s : Shared) (σ : St) (H : Hp) (R : It → Hp → Prop), Inv X pins σ H s → wi σ H R →
    wpAny (model X.prog X.w) X.A (eval iter X.env) (fun v s1 => wpAny (model X.prog X.w) X.A (pyIter v) (PIE X pins σ tg R) X.xe s1) X.xe s

/-- the step ahead of the store is nothing for an iterator that keeps no tuple -/
theorem go_of {M : Model} {A : Around} {E : Value → Shared → Prop} {s : Shared} {tg : Expr} {it : Addr} {u : Value} {o : Obj} {n : String} {vs : Array Value} {Q : Unit → Shared → Prop} (ho : s.heap.get? it = some o) (hc : o.cls = .type n) (hd : o.data = .fields vs)
    (hn : ["enumerate", "zip", "dict_itemiterator", "dict_reverseitemiterator", "odict_iterator", "itertools.zip_longest", "itertools.pairwise"].contains n = false) (hQ : Q () s) : wpAny M A (letOwnedTupleGo tg (.ref it) u) Q E s := by
  unfold letOwnedTupleGo
  cases tg <;> first
    | exact wpAny_pure hQ
    | (cases u <;> first
        | exact wpAny_pure hQ
        | (refine wpAny_bind (wpAny_load ho ?_)
           rw [hc, hd]
           show wpAny M A (if (["enumerate", "zip", "dict_itemiterator", "dict_reverseitemiterator", "odict_iterator", "itertools.zip_longest", "itertools.pairwise"].contains n && vs[0]? == some (rawInt _)) = true then _ else _) Q E s
           rw [if_neg (by intro h; rw [hn, Bool.false_and] at h; cases h)]
           exact wpAny_pure hQ))

/-- the list at a, as it stands at each turn (a loop may append to it) -/
def Itl (K : PySem.W.Frag) (a : Addr) : It :=
  ⟨fun i H => ∃ xs x, SqL K H a xs ∧ xs[i]? = some x, fun i H x H' => H' = H ∧ ∀ xs, SqL K H a xs → xs[i]? = some x, fun i H => ∃ xs, SqL K H a xs ∧ xs.length ≤ i⟩
def Itt (K : PySem.W.Frag) (a : Addr) : It :=
  ⟨fun i H => ∃ xs x, SqT K H a xs ∧ xs[i]? = some x, fun i H x H' => H' = H ∧ ∀ xs, SqT K H a xs → xs[i]? = some x, fun i H => ∃ xs, SqT K H a xs ∧ xs.length ≤ i⟩
/-- lo, lo + 1, .. (n of them) -/
def Itr (lo : Int) (n : Nat) : It := ⟨fun i _ => i < n, fun i H x H' => H' = H ∧ x = .int (lo + i), fun i _ => n ≤ i⟩
theorem turn_list {P : Program} {w : World} {K : PySem.W.Frag} {tg : Expr} (a it : Addr) : Turn P w K tg (Itl K a) [it] it (fun i h => h.IsListIter it a i) where
  mem := by simp
  obj := fun i h st b hb => by
    have e : b = it := by simpa using hb
    subst e
    obtain ⟨o, e, c, d⟩ := st
    exact ⟨o, e, fun v z => by rw [d] at z; cases z⟩
  keep := fun i h h' st k => st.at fun o e => k it (by simp) o e
  item := by
    intro X hP hw hK hc i pins s σ H E I hf st hg
    subst hP hw hK
    obtain ⟨xs, x, hq, hx⟩ := hg
    obtain ⟨its, rv, p, hz⟩ := I.list hq
    obtain ⟨u, hu, ru⟩ := rv.get hx
    obtain ⟨f0, f1, f2, f3, f4, f5⟩ := hf it (by simp)
    refine wpAny_pyNext_list_item st p.isList (x := u) (by simpa using hu) fun h' st' sb => ?_
    have I1 : Inv X pins σ H { s with heap := h' } := I.turned (t' := s.toks) (fun b o hb e => (sb.2 b hb).trans e) f0 f1 f3 f4 f5
    obtain ⟨o, e, c, d⟩ := id st'
    exact ⟨u, rfl, go_of (s := { s with heap := h' }) e c d (by decide) ⟨x, H, I1, ru, ⟨rfl, fun ys hy => by rw [I.list_inj hy hq]; exact hx⟩, st', fun b hb => (hf b hb).1⟩⟩
  done := by
    intro X hP hw hK hc i pins s σ H E I hf st hg
    subst hP hw hK
    obtain ⟨xs, hq, hx⟩ := hg
    obtain ⟨its, rv, p, hz⟩ := I.list hq
    obtain ⟨f0, f1, f2, f3, f4, f5⟩ := hf it (by simp)
    have hl := rv.length
    exact wpAny_pyNext_list_end (I.ok.hd hc) st p.isList (by simp; omega) fun h' eb => ⟨rfl, I.turned (t' := s.toks) (fun b o hb e => eb b o hb e) f0 f1 f3 f4 f5⟩
  self := fun _ _ _ _ _ st h => wpAny_pyIter_listiter st h
theorem turn_tuple {P : Program} {w : World} {K : PySem.W.Frag} {tg : Expr} (a it : Addr) : Turn P w K tg (Itt K a) [it] it (fun i h => h.IsTupleIter it a i) where
  mem := by simp
  obj := fun i h st b hb => by
    have e : b = it := by simpa using hb
    subst e
    obtain ⟨o, e, c, d⟩ := st
    exact ⟨o, e, fun v z => by rw [d] at z; cases z⟩
  keep := fun i h h' st k => st.at fun o e => k it (by simp) o e
  item := by
    intro X hP hw hK hc i pins s σ H E I hf st hg
    subst hP hw hK
    obtain ⟨xs, x, hq, hx⟩ := hg
    obtain ⟨its, rv, p, hz⟩ := I.tuple hq
    obtain ⟨u, hu, ru⟩ := rv.get hx
    obtain ⟨f0, f1, f2, f3, f4, f5⟩ := hf it (by simp)
    refine wpAny_pyNext_tuple_item st (show s.heap.IsTuple a its.toArray from p) (x := u) (by simpa using hu) fun h' st' sb => ?_
    have I1 : Inv X pins σ H { s with heap := h' } := I.turned (t' := s.toks) (fun b o hb e => (sb.2 b hb).trans e) f0 f1 f3 f4 f5
    obtain ⟨o, e, c, d⟩ := id st'
    exact ⟨u, rfl, go_of (s := { s with heap := h' }) e c d (by decide) ⟨x, H, I1, ru, ⟨rfl, fun ys hy => by rw [I.tuple_inj hy hq]; exact hx⟩, st', fun b hb => (hf b hb).1⟩⟩
  done := by
    intro X hP hw hK hc i pins s σ H E I hf st hg
    subst hP hw hK
    obtain ⟨xs, hq, hx⟩ := hg
    obtain ⟨its, rv, p, hz⟩ := I.tuple hq
    obtain ⟨f0, f1, f2, f3, f4, f5⟩ := hf it (by simp)
    have hl := rv.length
    exact wpAny_pyNext_tuple_end (I.ok.hd hc) st (show s.heap.IsTuple a its.toArray from p) (by simp; omega) fun h' eb => ⟨rfl, I.turned (t' := s.toks) (fun b o hb e => eb b o hb e) f0 f1 f3 f4 f5⟩
  self := fun _ _ _ _ _ st h => wpAny_pyIter_tupleiter st h
theorem turn_range {P : Program} {w : World} {K : PySem.W.Frag} {tg : Expr} (it : Addr) (lo : Int) (n : Nat) : Turn P w K tg (Itr lo n) [it] it (fun i h => IsRangeIter h it (lo + (i : Nat) * 1) ((n : Int) - (i : Nat)) 1) where
  mem := by simp
  obj := fun i h st b hb => by
    have e : b = it := by simpa using hb
    subst e
    exact ⟨_, st, fun v z => by
      have z' : Data.fields _ = Data.cell v := z
      cases z'⟩
  keep := fun i h h' st k => k it (by simp) _ st
  item := by
    intro X hP hw hK hc i pins s σ H E I hf st hg
    subst hP hw hK
    obtain ⟨f0, f1, f2, f3, f4, f5⟩ := hf it (by simp)
    have W := Walks.range (prog := X.prog) (w := X.w) (I.ok.hd hc) it lo 1 n
    refine W.item i s _ _ hg st fun v h' tk hv st' kk => ?_
    obtain ⟨t, rfl⟩ := hv
    have I1 : Inv X pins σ H { s with heap := h', toks := tk } := I.turned (fun b o hb e => kk b o (by simpa using hb) e) f0 f1 f3 f4 f5
    refine ⟨_, rfl, go_of (s := { s with heap := h', toks := tk }) (n := "range_iterator") st' rfl rfl (by decide) ⟨.int (lo + i), H, I1, ⟨t, ?_⟩, ⟨rfl, rfl⟩, st', fun b hb => (hf b hb).1⟩⟩
    rw [Int.mul_one]
  done := by
    intro X hP hw hK hc i pins s σ H E I hf st hg
    subst hP hw hK
    obtain ⟨f0, f1, f2, f3, f4, f5⟩ := hf it (by simp)
    exact wpAny_pyNext_range_end (I.ok.hd hc) st (by have : n ≤ i := hg; omega) fun h' eb => ⟨rfl, I.turned (t' := s.toks) (fun b o hb e => eb b o hb e) f0 f1 f3 f4 f5⟩
  self := fun _ _ _ _ _ st h => wpAny_pyIter_rangeiter st h
end L2

namespace L2
open PySem PySem.Spec PyProof.Rows
section
variable {X : Cx} {tg : Expr}
/-- a range object just made, walked -/
theorem range_it {pins : List (Addr × Obj)} {σ : St} {H : Hp} {s : Shared} {R : It → Hp → Prop} {E : Value → Shared → Prop} {lo hi : Int} {t u v : Tok} {tk : Nat} (I : Inv X pins σ H s) (h1 : -(2 ^ 62) ≤ lo) (h2 : lo < 2 ^ 62) (h3 : -(2 ^ 62) ≤ hi) (h4 : hi < 2 ^ 62)
    (q : R (Itr lo (hi - lo).toNat) H) : wpAny (model X.prog X.w) X.A (pyIter (.ref s.heap.objs.size)) (PIE X pins σ tg R) E { s with heap := s.heap.push { cls := .type "range", data := .fields #[.int lo t, .int hi u, .int 1 v] }, toks := tk } := by
  refine wpAny_pyIter_range (IsRange.new ..) (small_one h1 h2 h3 h4) ?_
  have I1 : Inv X pins σ H { s with heap := s.heap.push { cls := .type "range", data := .fields #[.int lo t, .int hi u, .int 1 v] }, toks := tk } := I.kept fun b o e => Heap.get?_push_of_some _ e
  refine ⟨(s.heap.push { cls := .type "range", data := .fields #[.int lo t, .int hi u, .int 1 v] }).objs.size, [(s.heap.push { cls := .type "range", data := .fields #[.int lo t, .int hi u, .int 1 v] }).objs.size], _, _, H, rfl,
    I1.kept (t' := tk) fun b o e => Heap.get?_push_of_some _ e, turn_range _ lo (hi - lo).toNat, ?_, fun b hb => ?_, q⟩
  · have e1 : lo + ((0 : Nat) : Int) * 1 = lo := by simp
    have e2 : (((hi - lo).toNat : Nat) : Int) - ((0 : Nat) : Int) = Builtin.Range.rangeSize lo hi 1 := by rw [rangeSize_one]; split <;> omega
    show IsRangeIter _ _ (lo + ((0 : Nat) : Int) * 1) ((((hi - lo).toNat : Nat) : Int) - ((0 : Nat) : Int)) 1
    rw [e1, e2]
    exact Heap.get?_push_size _ rfl
  · have e : b = (s.heap.push { cls := .type "range", data := .fields #[.int lo t, .int hi u, .int 1 v] }).objs.size := by simpa using hb
    subst e
    exact I1.fpOk (Nat.le_refl _) (I1.hok.fresh (Nat.le_refl _))
def iRng1 (ta : TA) : TI := fun σ H R => ta σ H fun vs H1 => ∃ j : Int, vs = [.int j] ∧ -(2 ^ 62) ≤ j ∧ j < 2 ^ 62 ∧ R (Itr 0 j.toNat) H1
theorem pi_range1 {a : Expr} {ta : TA} {p pos : Pos} (hg : Gl X "range") (hm : X.mg "range" = none) (ha : PA X [a] ta) (hs : starEach [a] X.env = [(false, eval a X.env)] := by rfl) : PI X tg (.Call (.Name "range" p) [a] [] pos) (iRng1 ta) := by
  intro pins s σ H R I h
  refine Call_ (ld_blt I hg hm boot_range (PyProof.Rows.callWith_type1 (thn (ha pos pins s σ H _ I h) fun us s1 ⟨vs, H1, I1, r1, q1⟩ => ?_) hs rfl))
  obtain ⟨j, e, q1, q2, q⟩ := q1
  subst e
  cases r1 with
  | cons r rr =>
    cases rr
    obtain ⟨t, rfl⟩ := r
    exact call_range_1 (range_it I1 (by omega) (by omega) q1 q2 (by simpa using q))
/-- W: the invariant by the turn and a measure; N: what the body is to reach -/
def tFor (wi : TI) (g : TG) (tb : TS) : TS := fun D σ H => wi σ H fun J H1 => ∃ W : Nat → Nat → St → Hp → Prop, (∃ m, W 0 m σ H1) ∧ ∀ i m σ H, W i m σ H →
  (J.stop i H ∧ D.nx σ H) ∨ (J.go i H ∧ ∃ N : St → Hp → Prop, (∀ σ' H', N σ' H' → ∃ m', m' < m ∧ W (i + 1) m' σ' H') ∧ ∀ x H', J.yld i H x H' → g x σ H' fun σ2 H2 => tb { D with nx := N, ct := N, bk := D.nx } σ2 H2)
/-- the records at fp as they stand -/
def pinsAt (fp : List Addr) (h : Heap) : List (Addr × Obj) := fp.filterMap fun b => (h.get? b).map fun o => (b, o)
theorem mem_pinsAt {fp : List Addr} {h : Heap} {b : Addr} {o : Obj} (hb : b ∈ fp) (e : h.get? b = some o) : (b, o) ∈ pinsAt fp h := List.mem_filterMap.mpr ⟨b, hb, by rw [e]; rfl⟩
theorem of_pinsAt {fp : List Addr} {h : Heap} {p : Addr × Obj} (hp : p ∈ pinsAt fp h) : p.1 ∈ fp ∧ h.get? p.1 = some p.2 := by
  obtain ⟨b, hb, e⟩ := List.mem_filterMap.mp hp
  cases q : h.get? b with
  | none => rw [q] at e; cases e
  | some o =>
    rw [q] at e
    have e' : (b, o) = p := Option.some.inj e
    subst e'
    exact ⟨hb, q⟩
theorem Inv.pinned {pins : List (Addr × Obj)} {σ : St} {H : Hp} {s : Shared} {fp : List Addr} (I : Inv X pins σ H s) (hf : ∀ b ∈ fp, FpOk X pins H b) (ho : ∀ b ∈ fp, ∃ o, s.heap.get? b = some o ∧ ∀ v, o.data ≠ .cell v) : Inv X (pins ++ pinsAt fp s.heap) σ H s :=
  I.pins_of fun p hp => (List.mem_append.mp hp).elim (fun z => I.pin p (List.mem_append_right _ z)) fun z => by
    obtain ⟨hb, e⟩ := of_pinsAt z
    obtain ⟨f0, f1, f2, _⟩ := hf p.1 hb
    obtain ⟨o, e', d⟩ := ho p.1 hb
    rw [e] at e'; cases e'
    exact ⟨e, f0, f1, f2, d⟩
theorem Inv.unpinned {pins pl : List (Addr × Obj)} {σ : St} {H : Hp} {s : Shared} (I : Inv X (pins ++ pl) σ H s) : Inv X pins σ H s := I.pins_of fun p hp => I.pin p (List.mem_append_right _ (List.mem_append_left _ hp))
theorem ps_for {iter : Expr} {body : List Stmt} {wi : TI} {g : TG} {tb : TS} {pos : Pos} (hp : PassesOwn (model X.prog X.w) X.A X.env X.xe) (hc : X.calm = true) (hi : PI X tg iter wi) (hg : PG X tg g) (hb : PSs X body tb)
    (hs : ∀ x, foldedSetIterable iter X.env x = pure x := by intro _; rfl) : PS X (.For tg iter body [] pos) (tFor wi g tb) := by
  intro pins s σ H D I h
  refine wpAny_For (thn (hi pins s σ H _ I h) fun v s1 h1 => thn h1 fun itv s2 h2 => ?_) hs
  obtain ⟨it, fp, tn, J, H2, e, I2, T, st2, f2, W, ⟨m0, w0⟩, turn⟩ := h2
  subst e
  -- what stays true of the iterator's objects through the loop
  have stat : ∀ {H' : Hp}, (∀ b ∈ fp, H' b = none) → ∀ b ∈ fp, FpOk X pins H' b := fun hn b hb => ⟨hn b hb, (f2 b hb).2⟩
  refine codeAny_forLoop_any (fun n s' => ∃ i σ' H', Inv X pins σ' H' s' ∧ tn i s'.heap ∧ (∀ b ∈ fp, H' b = none) ∧ W i n σ' H') ?_ m0 ⟨0, σ, H2, I2, st2, fun b hb => (f2 b hb).1, w0⟩
  rintro n s3 ⟨i, σ3, H3, I3, st3, fr3, w3⟩
  rcases turn i n σ3 H3 w3 with ⟨stop, qn⟩ | ⟨go, N, hN, step⟩
  · refine wpAny_passesOwn hp (thn (T.done X rfl rfl rfl hc i pins s3 σ3 H3 X.xe I3 (stat fr3) st3 stop) fun r s4 ⟨hr, I4⟩ => ?_)
    subst hr
    exact wpAny_execs_nil ⟨σ3, H3, I4, qn⟩
  · refine wpAny_passesOwn hp (thn (T.item X rfl rfl rfl hc i pins s3 σ3 H3 X.xe I3 (stat fr3) st3 go) fun r s4 ⟨u, hr, h4⟩ => ?_)
    subst hr
    refine wpAny_passesOwn hp (thn h4 fun _ s5 ⟨x, H5, I5, r5, y5, st5, fr5⟩ => ?_)
    have I5' := I5.pinned (stat fr5) (T.obj _ _ st5)
    refine wpAny_passesOwn hp (thn (hg _ s5 σ3 H5 x u _ I5' r5 (step x H5 y5)) fun _ s6 ⟨σ6, H6, I6, q6⟩ => ?_)
    refine wpAny_passesOwn hp (thn (hb _ s6 σ6 H6 _ I6 q6) fun f s7 q7 => ?_)
    have again : ∀ {σ7 : St} {H7 : Hp}, Inv X (pins ++ pinsAt fp s5.heap) σ7 H7 s7 → N σ7 H7 → ∃ m, m < n ∧ ∃ i σ' H', Inv X pins σ' H' s7 ∧ tn i s7.heap ∧ (∀ b ∈ fp, H' b = none) ∧ W i m σ' H' := fun {σ7 H7} I7 n7 => by
      obtain ⟨m', hm, w7⟩ := hN σ7 H7 n7
      refine ⟨m', hm, i + 1, σ7, H7, I7.unpinned, T.keep _ _ _ st5 fun b hb o e => (I7.pin (b, o) (List.mem_append_right _ (List.mem_append_right _ (mem_pinsAt hb e)))).1, fun b hb => ?_, w7⟩
      obtain ⟨o, e, d⟩ := T.obj _ _ st5 b hb
      exact (I7.pin (b, o) (List.mem_append_right _ (List.mem_append_right _ (mem_pinsAt hb e)))).2.1
    cases f with
    | next => obtain ⟨σ7, H7, I7, n7⟩ := q7; exact again I7 n7
    | cont => obtain ⟨σ7, H7, I7, n7⟩ := q7; exact again I7 n7
    | brk => obtain ⟨σ7, H7, I7, q7⟩ := q7; exact ⟨σ7, H7, I7.unpinned, q7⟩
    | ret v => obtain ⟨x7, σ7, H7, I7, r7, q7⟩ := q7; exact ⟨x7, σ7, H7, I7.unpinned, r7, q7⟩
end

end L2

namespace L2
open PySem PySem.Spec PyProof.Rows

abbrev R2 := V → V → Hp → VK → Prop
/-- a two-place operation on values: f is binaryOp op, inplaceOp op or compareOp op -/
def OpR (X : Cx) (f : Value → Value → Sem Value) (r : R2) : Prop :=
  ∀ (pins : List (Addr × Obj)) (s : Shared) (σ : St) (H : Hp) (x y : V) (v u : Value) (Q : VK), Inv X pins σ H s → RelV x v → RelV y u → r x y H Q →
    wpAny (model X.prog X.w) X.A (f v u) (EP X pins σ Q) X.xe s
/-- a one-place operation -/
def UnR (X : Cx) (f : Value → Sem Value) (r : V → Hp → VK → Prop) : Prop :=
  ∀ (pins : List (Addr × Obj)) (s : Shared) (σ : St) (H : Hp) (x : V) (v : Value) (Q : VK), Inv X pins σ H s → RelV x v → r x H Q →
    wpAny (model X.prog X.w) X.A (f v) (EP X pins σ Q) X.xe s
/-- a call of a value that is known (a builtin, a type) with values -/
def CallR (X : Cx) (f : Value) (r : List V → Hp → VK → Prop) : Prop :=
  ∀ (pins : List (Addr × Obj)) (s : Shared) (σ : St) (H : Hp) (xs : List V) (us : List Value) (Q : VK), Inv X pins σ H s → Vals xs us → r xs H Q →
    wpAny (model X.prog X.w) X.A (call f us) (EP X pins σ Q) X.xe s
/-- a value's truth -/
def TruR (X : Cx) (r : V → Hp → (Bool → Hp → Prop) → Prop) : Prop :=
  ∀ (pins : List (Addr × Obj)) (s : Shared) (σ : St) (H : Hp) (x : V) (v : Value) (Q : Bool → Hp → Prop), Inv X pins σ H s → RelV x v → r x H Q →
    wpAny (model X.prog X.w) X.A (truthy v) (TP X pins σ Q) X.xe s

def tOp (r : R2) (ta tb : TE) : TE := fun σ H Q => ta σ H fun x H1 => tb σ H1 fun y H2 => r x y H2 Q
def tUn (r : V → Hp → VK → Prop) (ta : TE) : TE := fun σ H Q => ta σ H fun x H1 => r x H1 Q
/-- ints in, under C, and a value out -/
def rI (C : Int → Int → Prop) (g : Int → Int → V) : R2 := fun x y H Q => ∃ i j, x = .int i ∧ y = .int j ∧ C i j ∧ Q (g i j) H
def rI0 (g : Int → Int → V) : R2 := fun x y H Q => ∃ i j, x = .int i ∧ y = .int j ∧ Q (g i j) H
def rU (g : Int → V) : V → Hp → VK → Prop := fun x H Q => ∃ i, x = .int i ∧ Q (g i) H

section
variable {X : Cx} {a b c : Expr} {ta tb tc : TE} {pos : Pos}

theorem binT (ha : PE X a ta) (hb : PE X b tb) {pins : List (Addr × Obj)} {s : Shared} {σ : St} {H : Hp} {R : V → V → Hp → Prop} (I : Inv X pins σ H s)
    (h : ta σ H fun x H1 => tb σ H1 fun y H2 => R x y H2) {Q : Value → Shared → Prop} {f : Value → Value → Sem Value}
    (hf : ∀ v u s2 x y H2, Inv X pins σ H2 s2 → RelV x v → RelV y u → R x y H2 → wpAny (model X.prog X.w) X.A (f v u) Q X.xe s2) :
    wpAny (model X.prog X.w) X.A (eval a X.env) (fun v s₁ => wpAny (model X.prog X.w) X.A (eval b X.env) (fun u s₂ => wpAny (model X.prog X.w) X.A (f v u) Q X.xe s₂) X.xe s₁) X.xe s := by
  refine thn (ha pins s σ H _ I h) fun v s1 ⟨x, H1, I1, r1, q1⟩ => ?_
  refine thn (hb pins s1 σ H1 _ I1 q1) fun u s2 ⟨y, H2, I2, r2, q2⟩ => ?_
  exact hf v u s2 x y H2 I2 r1 r2 q2

theorem pe_op {op : Operator} {r : R2} (ho : OpR X (binaryOp op) r) (ha : PE X a ta) (hb : PE X b tb) : PE X (.BinOp a op b pos) (tOp r ta tb) := by
  intro pins s σ H Q I h
  exact wpAny_BinOp (binT ha hb I h fun v u s2 x y H2 I2 rx ry q => ho pins s2 σ H2 x y v u Q I2 rx ry q)
theorem pe_un {op : UnaryOp} {r : V → Hp → VK → Prop} (ho : UnR X (unaryOp op) r) (ha : PE X a ta) : PE X (.UnaryOp op a pos) (tUn r ta) := by
  intro pins s σ H Q I h
  exact UnaryOp_ (thn (ha pins s σ H _ I h) fun v s1 ⟨x, H1, I1, r1, q1⟩ => ho pins s1 σ H1 x v Q I1 r1 q1)
theorem opI {f : Value → Value → Sem Value} {C : Int → Int → Prop} {g : Int → Int → Int}
    (rule : ∀ (i j : Int) (t u : Tok) (s : Shared) (Q : Value → Shared → Prop) (E : Value → Shared → Prop), C i j → Q (.int (g i j) s.toks) { s with toks := s.toks + 1 } → wpAny (model X.prog X.w) X.A (f (.int i t) (.int j u)) Q E s) :
    OpR X f (rI C fun i j => .int (g i j)) := by
  intro pins s σ H x y v u Q I rx ry h
  obtain ⟨i, j, rfl, rfl, hc, q⟩ := h
  obtain ⟨t, rfl⟩ := rx
  obtain ⟨t', rfl⟩ := ry
  exact rule i j t t' s _ _ hc ⟨.int (g i j), H, I.tok _, ⟨_, rfl⟩, q⟩
theorem opI0 {f : Value → Value → Sem Value} {g : Int → Int → Int}
    (rule : ∀ (i j : Int) (t u : Tok) (s : Shared) (Q : Value → Shared → Prop) (E : Value → Shared → Prop), Q (.int (g i j) s.toks) { s with toks := s.toks + 1 } → wpAny (model X.prog X.w) X.A (f (.int i t) (.int j u)) Q E s) :
    OpR X f (rI0 fun i j => .int (g i j)) := by
  intro pins s σ H x y v u Q I rx ry h
  obtain ⟨i, j, rfl, rfl, q⟩ := h
  obtain ⟨t, rfl⟩ := rx
  obtain ⟨t', rfl⟩ := ry
  exact rule i j t t' s _ _ ⟨.int (g i j), H, I.tok _, ⟨_, rfl⟩, q⟩
theorem opB0 {f : Value → Value → Sem Value} {g : Int → Int → Bool}
    (rule : ∀ (i j : Int) (t u : Tok) (s : Shared) (Q : Value → Shared → Prop) (E : Value → Shared → Prop), Q (.bool (g i j)) s → wpAny (model X.prog X.w) X.A (f (.int i t) (.int j u)) Q E s) :
    OpR X f (rI0 fun i j => .bl (g i j)) := by
  intro pins s σ H x y v u Q I rx ry h
  obtain ⟨i, j, rfl, rfl, q⟩ := h
  obtain ⟨t, rfl⟩ := rx
  obtain ⟨t', rfl⟩ := ry
  exact rule i j t t' s _ _ ⟨.bl (g i j), H, I, rfl, q⟩

def CMul (i j : Int) : Prop := (-(2 ^ 64) < i ∧ i < 2 ^ 64) ∨ (-(2 ^ 64) < j ∧ j < 2 ^ 64)
theorem CMul.ok {i j : Int} (h : CMul i j) : IntMulOk i j := by
  rcases h with ⟨h1, h2⟩ | ⟨h1, h2⟩
  · exact .of_left (intBits_le_64 h1 h2)
  · exact .of_right (intBits_le_64 h1 h2)
theorem op_add : OpR X (binaryOp .Add) (rI0 fun i j => .int (i + j)) := opI0 fun _ _ _ _ _ _ _ q => add_int q
theorem op_sub : OpR X (binaryOp .Sub) (rI0 fun i j => .int (i - j)) := opI0 fun _ _ _ _ _ _ _ q => sub_int q
theorem op_mul : OpR X (binaryOp .Mult) (rI CMul fun i j => .int (i * j)) := opI fun _ _ _ _ _ _ _ hc q => mul_int q hc.ok
/-- % by a positive divisor of any size -/
theorem op_mod : OpR X (binaryOp .Mod) (rI (fun _ j => 0 < j) fun i j => .int (i % j)) := opI fun i j _ _ _ _ _ hc q => by
  have h1 : (0 : Int) < j := hc
  exact mod_int' (by omega) (by rw [Int.fmod_eq_emod_of_nonneg i (by omega)]; exact q)
theorem iop_add : OpR X (inplaceOp .Add) (rI0 fun i j => .int (i + j)) := opI0 fun _ _ _ _ _ _ _ q => iadd_int q
theorem iop_mul : OpR X (inplaceOp .Mult) (rI CMul fun i j => .int (i * j)) := opI fun _ _ _ _ _ _ _ hc q => imul_int q hc.ok
theorem unI {f : Value → Sem Value} {g : Int → Int}
    (rule : ∀ (i : Int) (t : Tok) (s : Shared) (Q : Value → Shared → Prop) (E : Value → Shared → Prop), Q (.int (g i) s.toks) { s with toks := s.toks + 1 } → wpAny (model X.prog X.w) X.A (f (.int i t)) Q E s) :
    UnR X f (rU fun i => .int (g i)) := by
  intro pins s σ H x v Q I rx h
  obtain ⟨i, rfl, q⟩ := h
  obtain ⟨t, rfl⟩ := rx
  exact rule i t s _ _ ⟨.int (g i), H, I.tok _, ⟨_, rfl⟩, q⟩
theorem un_neg : UnR X (unaryOp .USub) (rU fun i => .int (-i)) := unI fun _ _ _ _ _ q => neg_int q
end

section
variable {X : Cx} {a b c : Expr} {ta tb tc : TE} {pos : Pos}
theorem fin_bl {pins : List (Addr × Obj)} {σ : St} {H : Hp} {s : Shared} {Q : VK} {k k' : Bool} (I : Inv X pins σ H s) (q : Q (.bl k) H) (e : k = k') : EP X pins σ Q (.bool k') s := by
  subst e
  exact ⟨.bl k, H, I, rfl, q⟩
theorem op_lt : OpR X (compareOp .Lt) (rI0 fun i j => .bl (decide (i < j))) := opB0 fun _ _ _ _ _ _ _ q => lt_int q
theorem op_le : OpR X (compareOp .LtE) (rI0 fun i j => .bl (decide (i ≤ j))) := opB0 fun _ _ _ _ _ _ _ q => le_int q
theorem op_gt : OpR X (compareOp .Gt) (rI0 fun i j => .bl (decide (j < i))) := opB0 fun _ _ _ _ _ _ _ q => gt_int q
/-- is None, is not None: the right side a value none -/
theorem op_isN : OpR X (compareOp .Is) (fun x y H Q => y = .non ∧ Q (.bl (decide (x = .non))) H) := by
  intro pins s σ H x y v u Q I rx ry h
  obtain ⟨rfl, q⟩ := h
  cases ry
  refine is_none_gen (fin_bl I q ?_)
  cases x <;> first
    | (cases rx; rfl)
    | (obtain ⟨t, rfl⟩ := rx; rfl)
/-- two rules for one operation: by cases -/
theorem OpR.or {f : Value → Value → Sem Value} {r r' : R2} (h : OpR X f r) (h' : OpR X f r') : OpR X f (fun x y H Q => r x y H Q ∨ r' x y H Q) := by
  intro pins s σ H x y v u Q I rx ry q
  rcases q with q | q
  · exact h pins s σ H x y v u Q I rx ry q
  · exact h' pins s σ H x y v u Q I rx ry q

theorem nomark (b : Expr) {op : CmpOp} (h : op ≠ .In := by decide) (h2 : op ≠ .NotIn := by decide) : behindInMarks op b = false := by
  have e1 : (op == CmpOp.In) = false := by cases op <;> first | rfl | exact absurd rfl h
  have e2 : (op == CmpOp.NotIn) = false := by cases op <;> first | rfl | exact absurd rfl h2
  cases b <;> simp [behindInMarks, e1, e2]
/-- a comparison as a value; hm: nomark b, or (for in, not in) by with_unfolding_all rfl -/
theorem pe_cmpR {op : CmpOp} {r : R2} (ho : OpR X (compareOp op) r) (ha : PE X a ta) (hb : PE X b tb) (hm : behindInMarks op b = false) : PE X (.Compare a [op] [b] pos) (tOp r ta tb) := by
  intro pins s σ H Q I h
  exact wpAny_Compare1 (binT ha hb I h fun v u s2 x y H2 I2 rx ry q => ho pins s2 σ H2 x y v u Q I2 rx ry q) hm
/-- a reading of a value as a test -/
def tTest (t : TE) : TT := fun σ H Q => t σ H fun x H' => ∃ k, x = .bl k ∧ Q k H'
theorem pt_cmpR {op : CmpOp} {r : R2} (ho : OpR X (compareOp op) r) (ha : PE X a ta) (hb : PE X b tb) (hm : behindInMarks op b = false) : PT X (.Compare a [op] [b] pos) (tTest (tOp r ta tb)) := by
  intro pins s σ H Q I h
  refine wpAny_isTrue_Compare1 (thn (ha pins s σ H _ I h) fun v s1 ⟨x, H1, I1, r1, q1⟩ => thn (hb pins s1 σ H1 _ I1 q1) fun u s2 ⟨y, H2, I2, r2, q2⟩ =>
    thn (ho pins s2 σ H2 x y v u _ I2 r1 r2 q2) fun c s3 ⟨z, H3, I3, r3, k, e, q3⟩ => ?_) hm
  subst e
  cases r3
  exact wpAny_truthy_bool ⟨H3, I3, q3⟩
/-- a op1 b op2 c -/
def tChain (r r' : R2) (ta tb tc : TE) : TE := fun σ H Q => ta σ H fun x H1 => tb σ H1 fun y H2 => r x y H2 fun z H3 => ∃ k, z = .bl k ∧
  (if k = true then tc σ H3 fun w' H4 => r' y w' H4 Q else Q (.bl false) H3)
theorem pe_chain {op op' : CmpOp} {r r' : R2} (ho : OpR X (compareOp op) r) (ho' : OpR X (compareOp op') r') (ha : PE X a ta) (hb : PE X b tb) (hc : PE X c tc)
    (hm : lastMarks [op, op'] [b, c] = false := by with_unfolding_all rfl) : PE X (.Compare a [op, op'] [b, c] pos) (tChain r r' ta tb tc) := by
  intro pins s σ H Q I h
  refine Compare_chain (thn (ha pins s σ H _ I h) fun v s1 ⟨x, H1, I1, r1, q1⟩ => chain_link (thn (hb pins s1 σ H1 _ I1 q1) fun u s2 ⟨y, H2, I2, r2, q2⟩ =>
    thn (ho pins s2 σ H2 x y v u _ I2 r1 r2 q2) fun d s3 ⟨z, H3, I3, r3, k, e, q3⟩ => ?_)) hm
  subst e
  cases r3
  refine wpAny_truthy_bool ?_
  cases k with
  | false => exact ite_ff ⟨.bl false, H3, I3, rfl, q3⟩
  | true => exact ite_tt (chain_last (thn (hc pins s3 σ H3 _ I3 q3) fun w' s4 ⟨z', H4, I4, r4, q4⟩ => ho' pins s4 σ H4 y z' u w' Q I4 r2 r4 q4))
/-- a value's truth by the abstract heap -/
def TruV (K : PySem.W.Frag) (x : V) (H : Hp) (k : Bool) : Prop :=
  match x with
  | .non => k = false
  | .bl b => k = b
  | .int i => k = (i != 0)
  | .str y => y.length ≤ sizeLine ∧ k = ((y.length : Int) != 0)
  | .byt y => y.size ≤ sizeLine ∧ k = ((y.size : Int) != 0)
  | .ref p => (∃ xs, SqL K H p xs ∧ k = !xs.isEmpty) ∨ (∃ xs, SqT K H p xs ∧ k = !xs.isEmpty) ∨ ∃ kvs, H p = some (.dK kvs) ∧ k = !kvs.isEmpty
  | _ => False
theorem isEmpty_kv {κ : Type} {kvs : List (κ × V)} {vs : List (κ × Value)} (r : KV kvs vs) : (!vs.isEmpty) = !kvs.isEmpty := by
  cases r <;> rfl
theorem isEmpty_of {xs : List V} {its : List Value} (r : Vals xs its) : (!its.toArray.isEmpty) = !xs.isEmpty := by
  cases r <;> simp
theorem line63 : (sizeLine : Nat) < 2 ^ 63 := by rw [sizeLine_eq]; decide
theorem tru_ok : TruR X (fun x H Q => ∃ k, TruV X.K x H k ∧ Q k H) := by
  intro pins s σ H x v Q I rx h
  obtain ⟨k, e, q⟩ := h
  have hl := line63
  have hs : sizeLine = 16777216 := sizeLine_eq
  cases x with
  | non =>
    cases rx
    have e' : k = false := e
    subst e'
    exact truthy_none ⟨H, I, q⟩
  | bl b =>
    cases rx
    have e' : k = b := e
    subst e'
    exact wpAny_truthy_bool ⟨H, I, q⟩
  | int i =>
    obtain ⟨t, rfl⟩ := rx
    have e' : k = (i != 0) := e
    subst e'
    exact PySem.P.truthy_int ⟨H, I, q⟩
  | str y =>
    obtain ⟨t, rfl⟩ := rx
    obtain ⟨hy, e'⟩ : y.length ≤ sizeLine ∧ k = ((y.length : Int) != 0) := e
    subst e'
    exact PySem.P.truthy_str (by omega) ⟨H, I.tok _, q⟩
  | byt y =>
    obtain ⟨t, rfl⟩ := rx
    obtain ⟨hy, e'⟩ : y.size ≤ sizeLine ∧ k = ((y.size : Int) != 0) := e
    subst e'
    exact PySem.W.truthy_bytes (by omega) ⟨H, I.tok _, q⟩
  | ref p =>
    cases rx
    have e' : (∃ xs, SqL X.K H p xs ∧ k = !xs.isEmpty) ∨ (∃ xs, SqT X.K H p xs ∧ k = !xs.isEmpty) ∨ ∃ kvs, H p = some (.dK kvs) ∧ k = !kvs.isEmpty := e
    rcases e' with ⟨xs, hx, e'⟩ | ⟨xs, hx, e'⟩ | ⟨kvs, hx, e'⟩
    · subst e'
      obtain ⟨its, r, pl, hz⟩ := I.list hx
      have hlen := r.length
      exact wpAny_truthy_list pl.isList (by simp only [List.size_toArray]; omega) ⟨H, I.tok _, by rw [isEmpty_of r]; exact q⟩
    · subst e'
      obtain ⟨its, r, pl, hz⟩ := I.tuple hx
      have hlen := r.length
      exact truthy_tuple pl (by simp only [List.size_toArray]; omega) ⟨H, I.tok _, by rw [isEmpty_of r]; exact q⟩
    · subst e'
      obtain ⟨hz, hS, vs, r, m⟩ : kvs.length ≤ sizeLine ∧ (p == sysModules) = false ∧ ∃ vs, KV kvs vs ∧ s.heap.DictOf (mixKind X.prog X.w) p vs := I.hok p _ hx
      have hlen : kvs.length = vs.length := Paired.length r
      exact wpAny_truthy_dict hS m (by omega) ⟨H, I.tok _, by rw [isEmpty_kv r]; exact q⟩
  | _ => exact (show False from e).elim
/-- any expression whose test is its value's truth (a name, a call, a subscript, a field ..: he by fun _ => rfl) -/
theorem pt_truth (ha : PE X a ta) (he : ∀ whole, isTrue a X.env whole = (do let v ← whole; standAt a.pos; holding [v] (truthy v))) :
    PT X a (fun σ H Q => ta σ H fun x H' => ∃ k, TruV X.K x H' k ∧ Q k H') := by
  intro pins s σ H Q I h
  exact isTrue_plain (thn (ha pins s σ H _ I h) fun v s1 ⟨x, H1, I1, r1, q1⟩ => tru_ok pins s1 σ H1 x v Q I1 r1 q1) (he _)

theorem op_add_str : OpR X (binaryOp .Add) (fun x y H Q => ∃ i j, x = .str i ∧ y = .str j ∧ i.length + j.length ≤ sizeLine ∧ Q (.str (i ++ j)) H) := by
  intro pins s σ H x y v u Q I rx ry h
  obtain ⟨i, j, rfl, rfl, hz, q⟩ := h
  obtain ⟨t, rfl⟩ := rx
  obtain ⟨t', rfl⟩ := ry
  exact add_str (fun t' tk => ⟨.str (i ++ j), H, I.tok _, ⟨_, rfl⟩, q⟩) hz
theorem vals1 {x : V} {us : List Value} (r : Vals [x] us) : ∃ u, us = [u] ∧ RelV x u := by
  cases r with
  | cons r1 r2 => cases r2; exact ⟨_, rfl, r1⟩
/-- len of a str, a bytes, a list, a tuple -/
def LenV (K : PySem.W.Frag) (x : V) (H : Hp) (n : Nat) : Prop :=
  match x with
  | .str y => y.length ≤ sizeLine ∧ n = y.length
  | .byt y => y.size ≤ sizeLine ∧ n = y.size
  | .ref p => (∃ xs, SqL K H p xs ∧ n = xs.length) ∨ ∃ xs, SqT K H p xs ∧ n = xs.length
  | _ => False
theorem call_len : CallR X (.builtin "len") (fun xs H Q => ∃ x n, xs = [x] ∧ LenV X.K x H n ∧ Q (.int n) H) := by
  intro pins s σ H xs us Q I r h
  obtain ⟨x, n, rfl, e, q⟩ := h
  obtain ⟨u, rfl, rx⟩ := vals1 r
  have hl := line63
  have hs : sizeLine = 16777216 := sizeLine_eq
  cases x with
  | str y =>
    obtain ⟨t, rfl⟩ := rx
    obtain ⟨hy, e'⟩ : y.length ≤ sizeLine ∧ n = y.length := e
    subst e'
    exact len_str (by omega) ⟨.int _, H, I.tok _, ⟨_, rfl⟩, q⟩
  | byt y =>
    obtain ⟨t, rfl⟩ := rx
    obtain ⟨hy, e'⟩ : y.size ≤ sizeLine ∧ n = y.size := e
    subst e'
    exact PySem.W.len_bytes (by omega) ⟨.int _, H, I.tok _, ⟨_, rfl⟩, q⟩
  | ref p =>
    cases rx
    have e' : (∃ xs, SqL X.K H p xs ∧ n = xs.length) ∨ ∃ xs, SqT X.K H p xs ∧ n = xs.length := e
    rcases e' with ⟨xs, hx, e'⟩ | ⟨xs, hx, e'⟩
    · subst e'
      obtain ⟨its, r', pl, hz⟩ := I.list hx
      have hlen := r'.length
      exact Calls.call_len_list pl.isList (by simp only [List.size_toArray]; omega) ⟨.int xs.length, H, I.tok _, ⟨_, by simp only [List.size_toArray]; rw [hlen]⟩, q⟩
    · subst e'
      obtain ⟨its, r', pl, hz⟩ := I.tuple hx
      have hlen := r'.length
      exact len_tuple pl (by simp only [List.size_toArray]; omega) ⟨.int xs.length, H, I.tok _, ⟨_, by simp only [List.size_toArray]; rw [hlen]⟩, q⟩
  | _ => exact (show False from e).elim
end
end L2

namespace L2
open PySem PySem.Spec PyProof.Rows

structure ObjM (h : Heap) (x dx C : Addr) (mA : Str → Option Value) : Prop where
  obj : h.get? x = some (PySem.W.instObj C dx)
  ns : h.Ns1 dx mA
  ne : dx ≠ x

theorem lookIn_ns {h : Heap} {dx : Addr} {mA : Str → Option Value} (n : h.Ns1 dx mA) : ∃ od, h.get? dx = some od ∧ ∀ name, PySem.W.lookIn name od = some (mA name) := by
  obtain ⟨o, es, ep, ho, hd, hk, _, hm⟩ := n
  refine ⟨o, ho, fun name => ?_⟩
  have e := hm name
  unfold nsFind findBy at e
  rw [← Array.find?_toList] at e
  unfold PySem.W.lookIn
  rw [hd]
  dsimp only
  split
  · rename_i y q
    rw [q] at e
    exact congrArg some e
  · rename_i q
    rw [q] at e
    have a : es.toList.any (·.refKey) = false := by
      rw [List.any_eq_false]
      intro y hy
      obtain ⟨z, t, hkey⟩ := hk y (Array.mem_toList_iff.mp hy)
      simp [DictEntry.refKey, hkey]
    have a' : ¬ es.toList.any (·.refKey) = true := by rw [a]; exact Bool.false_ne_true
    rw [if_neg a']
    exact congrArg some e

theorem ObjM.look {h : Heap} {x dx C : Addr} {mA : Str → Option Value} (I : ObjM h x dx C mA) : ∃ od, PySem.W.InstAt h x (PySem.W.instObj C dx) C (some od) ∧ ∀ name, PySem.W.lookIn name od = some (mA name) :=
  let ⟨od, ho, hl⟩ := lookIn_ns I.ns
  ⟨od, ⟨I.obj, rfl, rfl, ho⟩, hl⟩

section
variable {prog : Program} {w : World} {A : Around} {E : Value → Shared → Prop} {s : Shared} {K : PySem.W.Frag} {x dx C f : Addr} {mA : Str → Option Value} {name : Str} {v : Value}

end

section
variable {P : Program} {w : World} {H H' : Hp} {h h' : Heap} {a C dx : Addr} {fs fs' : List (Str × V)}
theorem ins_get (hok : HOk P w H h) (e : H a = some (.ins C dx fs)) : ∃ mA, ObjM h a dx C mA ∧ (∀ f, RelO (fs.lookup f) (mA f)) ∧ PySem.Within mA (fs.map (·.1)) ∧ fs.length ≤ 1000 ∧ H dx = some (.own a) := by
  obtain ⟨d, z, ne, ob, mA, n, r, q⟩ := (show ObjOk P w H h a (.ins C dx fs) from hok a _ e)
  exact ⟨mA, ⟨ob, n, ne⟩, r, q, z, d⟩
end

structure Cls (K : PySem.W.Frag) (C : Addr) : Prop where
  pg : PySem.W.plainGet K C Str.empty = true
  hd : PySem.W.hasDictIn K C = true
  po : PySem.W.plainOver K C = true
  sa : PySem.W.findIn K (.ref C) "__setattr__" = some (some (.builtin "object.__setattr__"))
theorem Cls.get {K : PySem.W.Frag} {C : Addr} (c : Cls K C) (f : Str) : PySem.W.plainGet K C f = true := c.pg
section
variable {X : Cx} {pins : List (Addr × Obj)} {σ : St} {H : Hp} {s : Shared} {a C dx : Addr} {fs : List (Str × V)} {f : Str} {v : V} {A : Around} {E : Value → Shared → Prop}

/-- a new instance, tracked, without attributes -/
theorem Inv.made (I : Inv X pins σ H s) : Inv X pins σ (upd (upd H s.heap.objs.size (.own (s.heap.objs.size + 1))) (s.heap.objs.size + 1) (.ins C s.heap.objs.size []))
    { s with heap := (s.heap.push PySem.W.emptyDict).push (PySem.W.instObj C s.heap.objs.size) } := by
  have e1 : (s.heap.push PySem.W.emptyDict).get? s.heap.objs.size = some PySem.W.emptyDict := Heap.get?_push_size s.heap rfl
  have e2 : ((s.heap.push PySem.W.emptyDict).push (PySem.W.instObj C s.heap.objs.size)).get? (s.heap.objs.size + 1) = some (PySem.W.instObj C s.heap.objs.size) := by
    have := Heap.get?_push_size (s.heap.push PySem.W.emptyDict) (o := PySem.W.instObj C s.heap.objs.size) rfl
    rwa [Heap.size_push] at this
  have e3 : (s.heap.push PySem.W.emptyDict).Ns s.heap.objs.size (fun _ => none) := ⟨PySem.W.emptyDict, #[], _, e1, rfl, (fun e he => absurd he (by simp)), fun _ => rfl⟩
  have I1 := I.laid (a := s.heap.objs.size) (o := .own (s.heap.objs.size + 1)) (h' := s.heap.push PySem.W.emptyDict) (t' := s.toks) (fun b u q => Heap.get?_push_of_some _ q) (Nat.le_refl _) ⟨_, e1⟩
  refine I1.laid (a := s.heap.objs.size + 1) (o := .ins C s.heap.objs.size []) (t' := s.toks) (fun b u q => Heap.get?_push_of_some _ q) (Nat.le_of_eq (Heap.size_push _ _)) ?_
  have ne : s.heap.objs.size ≠ s.heap.objs.size + 1 := Nat.ne_of_lt (Nat.lt_succ_self _)
  refine ⟨by rw [upd_ne ne, upd_same], Nat.zero_le _, ne, e2, fun _ => none, (Heap.Ns1.of_empty e3).at fun o q => Heap.get?_push_of_some _ q, fun _ => True.intro, fun y hy => absurd rfl hy⟩

end

section
variable {X : Cx} {o e value : Expr} {f : Str} {pos pos' tpos : Pos} {ta tv : TE}
end

section
variable {X : Cx} {pins : List (Addr × Obj)} {σ : St} {H : Hp} {s : Shared} {A : Around} {E : Value → Shared → Prop} {Q : Value → Shared → Prop} {c : Value} {b : Bool}
/-- the type of a value, as the fragment's deciders take it; for an instance its class -/
inductive TyOf (K : PySem.W.Frag) (H : Hp) : V → Value → Prop where
  | non : TyOf K H .non (.type "NoneType")
  | bl (x : Bool) : TyOf K H (.bl x) (.type "bool")
  | int (i : Int) : TyOf K H (.int i) (.type "int")
  | str (x : Str) : TyOf K H (.str x) (.type "str")
  | flt (x : UInt64) : TyOf K H (.flt x) (.type "float")
  | lst {a : Addr} {xs : List V} (e : H a = some (.lst xs)) : TyOf K H (.ref a) (.type "list")
  | frz {a : Addr} {o : Obj} {xs : List V} (e : H a = some (.frz o (.lst xs))) : TyOf K H (.ref a) (.type "list")
  | tup {a : Addr} {xs : List V} (e : H a = some (.tup xs)) : TyOf K H (.ref a) (.type "tuple")
  | dK {a : Addr} {kvs : List (Key × V)} (e : H a = some (.dK kvs)) : TyOf K H (.ref a) (.type "dict")
  | dT {a : Addr} {kvs : List (List Key × V)} (e : H a = some (.dT kvs)) : TyOf K H (.ref a) (.type "dict")
  | ins {a C dx : Addr} {fs : List (Str × V)} (e : H a = some (.ins C dx fs)) (cl : Cls K C) (ha : PySem.W.findIn K (.ref C) "__class__" = some (some (.builtin "object.__class__")))
      (hn : PySem.W.specialIn K (.builtin "object.__class__") "__get__" = some (some (.builtin "getset_descriptor.__get__"))) (htk : PySem.W.takesIn K (.builtin "object.__class__") = some true)
      (hm : PySem.W.mroIn K C (.type "object") = some true) : TyOf K H (.ref a) (.ref C)
/-- isinstance(x, c) for one class c, a built-in or an own one: kitOne's answer -/
theorem isinst_ok {x : V} {u t : Value} (I : Inv X pins σ H s) (rx : RelV x u) (ty : TyOf X.K H x t) (e : PySem.W.kitOne X.K t c = some b) (h : ∀ tk, Q (.bool b) { s with toks := tk }) :
    wpAny (model X.prog X.w) A (call (.builtin "isinstance") [u, c]) Q E s := by
  cases ty with
  | non => cases (show u = Value.none from rx); exact PySem.W.kia_one PySem.W.kitx_none I.kIn True.intro e (fun z => nomatch z) h
  | bl y => cases (show u = Value.bool y from rx); exact PySem.W.kia_one PySem.W.kitx_bool I.kIn True.intro e (fun z => nomatch z) h
  | int i => obtain ⟨t, q⟩ := (show ∃ t, u = Value.int i t from rx); cases q; exact PySem.W.kia_one PySem.W.kitx_int I.kIn True.intro e (fun z => nomatch z) h
  | str y => obtain ⟨t, q⟩ := (show ∃ t, u = Value.str y t from rx); cases q; exact PySem.W.kia_one PySem.W.kitx_str I.kIn True.intro e (fun z => nomatch z) h
  | flt y => obtain ⟨t, q⟩ := (show ∃ t, u = Value.float y t from rx); cases q; exact PySem.W.kia_one PySem.W.kitx_float I.kIn True.intro e (fun z => nomatch z) h
  | @lst a xs ea =>
    cases (show u = Value.ref a from rx)
    obtain ⟨_, _, n, _, h1⟩ := (show ObjOk X.prog X.w H s.heap a (.lst xs) from I.hok a _ ea)
    exact PySem.W.kia_one PySem.W.kitx_list I.kIn ⟨_, h1, rfl⟩ e (fun z => nomatch z) h
  | @frz a ob xs ea =>
    cases (show u = Value.ref a from rx)
    obtain ⟨_, _, _, n, _, h1⟩ := (show ObjOk X.prog X.w H s.heap a (.frz ob (.lst xs)) from I.hok a _ ea)
    exact PySem.W.kia_one PySem.W.kitx_list I.kIn ⟨_, h1, rfl⟩ e (fun z => nomatch z) h
  | @tup a xs ea =>
    cases (show u = Value.ref a from rx)
    obtain ⟨_, _, _, p, _⟩ := (show ObjOk X.prog X.w H s.heap a (.tup xs) from I.hok a _ ea)
    obtain ⟨o, h1, h2, _⟩ := p
    exact PySem.W.kia_one PySem.W.kitx_tuple I.kIn ⟨o, h1, h2⟩ e (fun z => nomatch z) h
  | @dK a kvs ea =>
    cases (show u = Value.ref a from rx)
    obtain ⟨_, _, vs, _, p⟩ := (show ObjOk X.prog X.w H s.heap a (.dK kvs) from I.hok a _ ea)
    obtain ⟨o, es, ep, h1, h2, _⟩ := p
    exact PySem.W.kia_one PySem.W.kitx_dict I.kIn ⟨o, h1, h2.1⟩ e (fun z => nomatch z) h
  | @dT a kvs ea =>
    cases (show u = Value.ref a from rx)
    obtain ⟨_, _, xs, _, o, es, ep, h1, h2, _⟩ := (show ObjOk X.prog X.w H s.heap a (.dT kvs) from I.hok a _ ea)
    exact PySem.W.kia_one PySem.W.kitx_dict I.kIn ⟨o, h1, h2.1⟩ e (fun z => nomatch z) h
  | @ins a C dx fs ea cl ha hn htk hm =>
    cases (show u = Value.ref a from rx)
    obtain ⟨mA, O, _⟩ := ins_get I.hok ea
    obtain ⟨od, J, _⟩ := O.look
    exact PySem.W.kia_one (PySem.W.kitx_own (cl.get _) cl.hd ha hn htk hm) I.kIn J e (fun z => nomatch z) h
end
end L2

namespace L2
open PySem PySem.Spec PyProof.Rows

structure Room (k : Nat) (A : Around) : Prop where
  hd : A.handled = none
  dp : A.depth + 3 * k + 5 < recursionLimit
  un : A.units + 16 * k + 200 < cLine
theorem Room.mono {j k : Nat} {A : Around} (r : Room k A) (h : j ≤ k) : Room j A := ⟨r.hd, by have := r.dp; omega, by have := r.un; omega⟩
theorem Room.deeper {k : Nat} {A : Around} (r : Room (k + 1) A) (env : Env) : Room k (A.deeper env) :=
  ⟨r.hd, by have := r.dp; show A.depth + 1 + 3 * k + 5 < _; omega, by have := r.un; show A.units + 3 + 16 * k + 200 < _; omega⟩
theorem Room.in1 {k : Nat} {A : Around} (r : Room (k + 1) A) : Room k A.in1 :=
  ⟨r.hd, by have := r.dp; show A.depth + 3 * k + 5 < _; omega, by have := r.un; show A.units + 1 + 16 * k + 200 < _; omega⟩
theorem Room.depth {k : Nat} {A : Around} (r : Room k A) : A.depth < recursionLimit := by have := r.dp; omega
theorem Room.units {k : Nat} {A : Around} (r : Room k A) : A.units + 64 < cLine := by have := r.un; omega
def tNil : TA := fun _ H Q => Q [] H
def tCons (ta : TE) (tr : TA) : TA := fun σ H Q => ta σ H fun x H1 => tr σ H1 fun xs H2 => Q (x :: xs) H2
section
variable {X : Cx} {e : Expr} {es : List Expr} {te : TE} {t : TA} {pos : Pos}
theorem pa_nil : PA X [] tNil := fun _ _ _ _ H Q I h => Calls.spliced_nil ⟨[], H, I, .nil, h⟩
theorem pa_cons (ha : PE X e te) (hr : PA X es t) (hs : starEach (e :: es) X.env = (false, eval e X.env) :: starEach es X.env := by rfl) : PA X (e :: es) (tCons te t) := by
  intro pos pins s σ H Q I h
  rw [hs]
  show wpAny _ _ (spliced ((false, eval e X.env) :: backTo pos (starEach es X.env))) _ _ s
  refine Calls.spliced_cons (thn (ha pins s σ H _ I h) fun u s1 ⟨x, H1, I1, r1, q1⟩ => ?_)
  exact thn (hr pos pins s1 σ H1 _ I1 q1) fun us s2 ⟨xs, H2, I2, r2, q2⟩ => ⟨x :: xs, H2, I2, .cons r1 r2, q2⟩

/-- a tuple, a list of written items -/
def tTup (t : TA) : TE := fun σ H Q => t σ H fun xs H1 => xs.length ≤ sizeLine ∧ ∀ p, H1 p = none → Q (.ref p) (upd H1 p (.tup xs))
def tLst (t : TA) : TE := fun σ H Q => t σ H fun xs H1 => xs.length ≤ sizeLine ∧ ∀ p, H1 p = none → Q (.ref p) (upd H1 p (.lst xs))
theorem pe_tup {x1} (h : PA X es t) : PE X (.Tuple es x1 pos) (tTup t) := by
  intro pins s σ H Q I hq
  refine wpAny_Tuple_spliced (thn (h pos pins s σ H _ I hq) fun us s1 ⟨xs, H1, I1, r, z, q⟩ => ⟨by rw [← r.length]; exact z, ?_⟩)
  have hf : H1 s1.heap.objs.size = none := I1.hok.fresh (Nat.le_refl _)
  refine ⟨.ref s1.heap.objs.size, upd H1 s1.heap.objs.size (.tup xs), I1.laid (t' := s1.toks) (fun b u e => Heap.get?_push_of_some _ e) (Nat.le_refl _) ?_, rfl, q _ hf⟩
  exact ⟨z, us, r, ⟨_, Heap.get?_push_size _ rfl, rfl, _, rfl⟩, _, Heap.get?_push_size _ rfl, rfl⟩
theorem pe_lst (h : PA X es t) : PE X (.List es pos) (tLst t) := by
  intro pins s σ H Q I hq
  refine wpAny_List_spliced (thn (h pos pins s σ H _ I hq) fun us s1 ⟨xs, H1, I1, r, z, q⟩ => ⟨by rw [← r.length]; exact z, ?_⟩)
  have hf : H1 s1.heap.objs.size = none := I1.hok.fresh (Nat.le_refl _)
  refine ⟨.ref s1.heap.objs.size, upd H1 s1.heap.objs.size (.lst xs), I1.laid (t' := s1.toks) (fun b u e => Heap.get?_push_of_some _ e) (Nat.le_refl _) ?_, rfl, q _ hf⟩
  exact ⟨z, us, 0, r, Heap.get?_push_size _ rfl⟩
end

/-- a def's promise: the bound arguments in the parameters' order, the heap, the wanted end, the wanted exception -/
abbrev Sp := List V → Hp → VK → XK → Prop
/-- how an exception lies behind a call (file 08 gives it): the callers' frames, abstract heap and state ahead of the call, the wish, the exception, the state -/
abbrev CXT := List Env → Hp → Shared → XK → Value → Shared → Prop

/-- the state at a call -/
structure Env0 (P : Program) (w : World) (K : PySem.W.Frag) (mg : Str → Option Value) (base : Heap) (A : Around) (outer : List Env) (s : Shared) (H : Hp) : Prop where
  frames : A.frames = some outer
  mod : Mod K mg base
  bs : ∀ b o, base.get? b = some o → s.heap.get? b = some o ∧ H b = none
  bsz : base.objs.size ≤ s.heap.objs.size
  funs : s.heap.FunFrames base outer
  frf : ∀ b ∈ frs outer, H b = none
  hok : HOk P w H s.heap
  bare : AllBare s.gens
/-- a call's end -/
def CE (outer : List Env) (P : Program) (w : World) (H : Hp) (s : Shared) (Q : VK) (u : Value) (s' : Shared) : Prop :=
  ∃ v H', s'.os = s.os ∧ AllBare s'.gens ∧ Un (frs outer) [] H H' s.heap s'.heap ∧ HOk P w H' s'.heap ∧ RelV v u ∧ Q v H'
def CR (CX : CXT) (outer : List Env) (P : Program) (w : World) (H : Hp) (s : Shared) (Q : VK) (E : XK) (r : Result) (s' : Shared) : Prop :=
  match r with
  | .ok (.ret u) => CE outer P w H s Q u s'
  | .ok _ => False
  | .error e => CX outer H s E e s'
structure FnOk (P : Program) (w : World) (K : PySem.W.Frag) (mg : Str → Option Value) (base : Heap) (CX : CXT) (k : Nat) (f : Addr) (fd : FuncData) (ps : List Str) (sp : Sp) : Prop where
  len : ∀ vs H Q E, sp vs H Q E → vs.length = ps.length
  run : ∀ (A : Around) (outer : List Env) (s : Shared) (H : Hp) (args : Args) (us : List Value) (vs : List V) (Q : VK) (E : XK), Room k A → Env0 P w K mg base A outer s H → BindsTo s fd args (ps.zip us) → Vals vs us → sp vs H Q E →
    codeAny (model P w) A (.call (.ref f) args) (CR CX outer P w H s Q E) s
theorem FnOk.mono {P : Program} {w : World} {K : PySem.W.Frag} {mg : Str → Option Value} {base : Heap} {CX : CXT} {j k : Nat} {f : Addr} {fd : FuncData} {ps : List Str} {sp : Sp} (F : FnOk P w K mg base CX j f fd ps sp) (h : j ≤ k) :
    FnOk P w K mg base CX k f fd ps sp := ⟨F.len, fun A outer s H args us vs Q E hr => F.run A outer s H args us vs Q E (hr.mono h)⟩
/-- a weaker promise -/
theorem FnOk.imp {P : Program} {w : World} {K : PySem.W.Frag} {mg : Str → Option Value} {base : Heap} {CX : CXT} {k : Nat} {f : Addr} {fd : FuncData} {ps : List Str} {sp sp' : Sp} (F : FnOk P w K mg base CX k f fd ps sp)
    (h : ∀ vs H Q E, sp' vs H Q E → sp vs H Q E) : FnOk P w K mg base CX k f fd ps sp' :=
  ⟨fun vs H Q E q => F.len vs H Q E (h _ _ _ _ q), fun A outer s H args us vs Q E hr he hb hv hs => F.run A outer s H args us vs Q E hr he hb hv (h _ _ _ _ hs)⟩

theorem Env0.in1 {P : Program} {w : World} {K : PySem.W.Frag} {mg : Str → Option Value} {base : Heap} {A : Around} {outer : List Env} {s : Shared} {H : Hp} (e : Env0 P w K mg base A outer s H) :
    Env0 P w K mg base A.in1 outer s H := ⟨e.frames, e.mod, e.bs, e.bsz, e.funs, e.frf, e.hok, e.bare⟩

section
variable {X : Cx} {pins : List (Addr × Obj)} {σ : St} {H : Hp} {s s' : Shared}
/-- from a body: what a callee wants -/
theorem Inv.env0 (I : Inv X pins σ H s) : Env0 X.prog X.w X.K X.mg X.base X.A X.stack s H :=
  ⟨I.ok.frames, I.ok.mod, I.bs, Nat.le_trans I.ok.bsz I.sz, I.stack, I.stkFree, I.hok, I.bare⟩
/-- behind a call -/
theorem Inv.after {Q : VK} {u : Value} (I : Inv X pins σ H s) (h : CE X.stack X.prog X.w H s Q u s') : EP X pins σ Q u s' := by
  obtain ⟨v, H', os, bare, un, hok, r, q⟩ := h
  obtain ⟨hh, g, d, t, os'⟩ := s'
  obtain rfl : os' = s.os := os
  exact ⟨v, H', I.call (h' := hh) (g' := g) (d' := d) (t' := t) (ch := []) un hok bare (fun b z => absurd z (by simp)), r, q⟩
end

/-- f(..): the written arguments, then the defaults dvs; E: what is wanted of an exception -/
def tCall (sp : Sp) (dvs : List V) (E : XK) (t : TA) : TE := fun σ H Q => t σ H fun vs H1 => sp (vs ++ dvs) H1 Q E
/-- how the parameters are bound: us the positional arguments, kw the keywords' values by name, ds the defaults that fill up -/
def Binds (K : PySem.W.Frag) (fd : FuncData) (ps : List Str) (ds : List Value) : Prop :=
  ∀ (s : Shared) (us : List Value), K.In s.heap → (us ++ ds).length = ps.length → BindsTo s fd ⟨us, []⟩ (ps.zip (us ++ ds))
/-- every parameter is given -/
theorem Binds.all {K : PySem.W.Frag} {fd : FuncData} {ps : List Str} (h : ∀ us : List Value, us.length = ps.length → bindArgs fd ⟨us, []⟩ = pure (ps.zip us)) : Binds K fd ps [] := fun s us _ hl => by
  rw [List.append_nil] at hl ⊢
  exact .of_eq (h us hl)

/-- an exception of a callee reaches what this body wants of exceptions -/
def Passes (CX : CXT) (X : Cx) (E : XK) : Prop := ∀ (pins : List (Addr × Obj)) (σ : St) (H : Hp) (s : Shared) (e : Value) (s' : Shared), Inv X pins σ H s → CX X.stack H s E e s' → X.xe e s'

section
variable {X : Cx} {CX : CXT} {k : Nat} {f C : Addr} {fd : FuncData} {ps : List Str} {sp : Sp} {dvs : List V} {ds : List Value} {E : XK} {x m : Str} {p pos apos : Pos} {e o : Expr} {es : List Expr} {ta : TE} {t : TA}

/-- the callee runs -/
theorem run_fn {pins : List (Addr × Obj)} {σ : St} {H : Hp} {s : Shared} {Q : VK} {us : List Value} {vs : List V} (F : FnOk X.prog X.w X.K X.mg X.base CX k f fd ps sp) (hr : Room k X.A) (hb : Binds X.K fd ps ds) (hd : Vals dvs ds) (hx : Passes CX X E)
    (I : Inv X pins σ H s) (r : Vals vs us) (h : sp (vs ++ dvs) H Q E) : wpAny (model X.prog X.w) X.A (call (.ref f) us) (EP X pins σ Q) X.xe s := by
  have r2 : Vals (vs ++ dvs) (us ++ ds) := r.append hd
  have hl : (us ++ ds).length = ps.length := by rw [← r2.length]; exact F.len _ _ _ _ h
  refine wpAny_call (codeAny_mono (F.run X.A X.stack s H ⟨us, []⟩ (us ++ ds) (vs ++ dvs) Q E hr I.env0 (hb s us I.kIn hl) r2 h) fun r s' hq => ?_)
  cases r with
  | error e => exact hx pins σ H s e s' I hq
  | ok fl =>
    cases fl with
    | ret u => exact I.after hq
    | next => exact False.elim hq
    | brk => exact False.elim hq
    | cont => exact False.elim hq

theorem pe_call (F : FnOk X.prog X.w X.K X.mg X.base CX k f fd ps sp) (hr : Room k X.A) (hg : Gl X x) (hm : X.mg x = some (.ref f)) (hk : PySem.W.keepIn X.K (.ref f) = true) (hb : Binds X.K fd ps ds) (hd : Vals dvs ds) (hx : Passes CX X E)
    (ha : PA X (e :: es) t) (hdb : (x == ("__debug__" : Str)) = false := by decide) (he : starEach (e :: es) X.env = (false, eval e X.env) :: starEach es X.env := by rfl) (hpl : (backTo pos (starEach es X.env)).any (·.1) = false := by rfl) :
    PE X (.Call (.Name x p) (e :: es) [] pos) (tCall sp dvs E t) := by
  intro pins s σ H Q I h
  refine wpAny_Call_Name_kw (ld_glob I hg hm ?_ hdb)
  refine PySem.W.callWith_K (h₀ := X.base) I.ok.mod.kin hk (thn (ha pos pins s σ H _ I h) fun us s1 ⟨vs, H1, I1, r, q⟩ => ⟨I1.kIn, ?_⟩) he hpl
  exact run_fn F hr hb hd hx I1 r q
end

section
variable {X : Cx} {CX : CXT} {k : Nat} {f C : Addr} {fd : FuncData} {ps ks : List Str} {sp : Sp} {E : XK} {x m : Str} {p pos apos kpos : Pos} {e o : Expr} {es : List Expr} {kws : List Keyword} {te ta : TE} {t tk : TA} {nm : Option Str}
variable {g : List Value → List Value → List Value} {gV : List V → List V → List V}
end

/-- names: the parameters first -/
structure FnScope (N P : List Str) (sc : Scope) : Prop where
  kind : sc.kind = .function
  co : sc.isCoroutine = false
  gen : sc.isGenerator = false
  nd : N.Nodup
  pre : N.take P.length = P
  par : ∀ x ∈ P, sc.names.lookup x = some .local ∨ sc.names.lookup x = some .cell
  nofree : ∀ y ∈ sc.names, y.2 ≠ .free

theorem bindL_out {kindOf : Str → Option NameKind} {x : Str} : ∀ {binds : List (Str × Value)} {m : Str → Option Value}, (∀ v, (x, v) ∉ binds) → bindL kindOf binds m x = m x
  | [], _, _ => rfl
  | (n, v) :: r, m, h => by
    unfold bindL
    rw [bindL_out fun w hw => h w (List.mem_cons_of_mem _ hw)]
    split
    · have : x ≠ n := by rintro rfl; exact h v List.mem_cons_self
      simp [this]
    · rfl
theorem bindC_out {kindOf : Str → Option NameKind} {x : Str} : ∀ {binds : List (Str × Value)} {m : Str → Option Value}, (∀ v, (x, v) ∉ binds) → bindC kindOf binds m x = m x
  | [], _, _ => rfl
  | (n, v) :: r, m, h => by
    unfold bindC
    rw [bindC_out fun w hw => h w (List.mem_cons_of_mem _ hw)]
    split
    · rfl
    · have : x ≠ n := by rintro rfl; exact h v List.mem_cons_self
      simp [this]
theorem bindL_get {kindOf : Str → Option NameKind} {x : Str} {v : Value} : ∀ {P : List Str} {vs : List Value} {i : Nat} {m : Str → Option Value}, P.Nodup → P[i]? = some x → vs[i]? = some v → kindOf x = some .local →
    bindL kindOf (P.zip vs) m x = some v
  | [], _, _, _, _, h, _, _ => by simp at h
  | _ :: _, [], _, _, _, _, h, _ => by simp at h
  | p :: P, w :: vs, 0, m, nd, h1, h2, hk => by
    simp at h1 h2; subst h1; subst h2
    show bindL kindOf ((p, w) :: P.zip vs) m p = _
    unfold bindL
    rw [bindL_out fun v hv => (List.nodup_cons.mp nd).1 (List.of_mem_zip hv).1, if_pos hk]
    simp
  | p :: P, w :: vs, i + 1, m, nd, h1, h2, hk => by
    show bindL kindOf ((p, w) :: P.zip vs) m x = _
    unfold bindL
    exact bindL_get (i := i) (List.nodup_cons.mp nd).2 (by simpa using h1) (by simpa using h2) hk
theorem bindC_get {kindOf : Str → Option NameKind} {x : Str} {v : Value} : ∀ {P : List Str} {vs : List Value} {i : Nat} {m : Str → Option Value}, P.Nodup → P[i]? = some x → vs[i]? = some v → kindOf x ≠ some .local →
    bindC kindOf (P.zip vs) m x = some v
  | [], _, _, _, _, h, _, _ => by simp at h
  | _ :: _, [], _, _, _, _, h, _ => by simp at h
  | p :: P, w :: vs, 0, m, nd, h1, h2, hk => by
    simp at h1 h2; subst h1; subst h2
    show bindC kindOf ((p, w) :: P.zip vs) m p = _
    unfold bindC
    rw [bindC_out fun v hv => (List.nodup_cons.mp nd).1 (List.of_mem_zip hv).1, if_neg hk]
    simp
  | p :: P, w :: vs, i + 1, m, nd, h1, h2, hk => by
    show bindC kindOf ((p, w) :: P.zip vs) m x = _
    unfold bindC
    exact bindC_get (i := i) (List.nodup_cons.mp nd).2 (by simpa using h1) (by simpa using h2) hk

/-- the names' values at the entry -/
def start (N : List Str) (vs : List V) : St := vs.map some ++ List.replicate (N.length - vs.length) none

/-- the context of a def's body, at its entry; an exception leaves the frame, then lies as CX says -/
def cxOf (CX : CXT) (P : Program) (w : World) (K : PySem.W.Frag) (mg : Str → Option Value) (base : Heap) (N : List Str) (qual : Str) (scope : Scope) (f : Addr) (cd : Value) (A : Around) (outer : List Env) (s : Shared) (H : Hp) (E : XK) : Cx where
  prog := P
  w := w
  K := K
  mg := mg
  base := base
  A := A.deeper (envOfC qual scope s.heap.objs.size f cd)
  N := N
  s₀ := s
  H₀ := H
  env := envOfC qual scope s.heap.objs.size f cd
  outer := outer
  stack := envOfC qual scope s.heap.objs.size f cd :: outer
  ex := []
  calm := true
  fn := fun _ => true
  pn := []
  xe := fun e s' => wpAny (model P w) (A.deeper (envOfC qual scope s.heap.objs.size f cd)) (leaving (envOfC qual scope s.heap.objs.size f cd) e) (fun _ s'' => CX outer H s E e s'') (fun e' s'' => CX outer H s E e' s'') s'

theorem cell_has {sc : Scope} {n : Nat} {x : Str} (h : sc.names.lookup x = some .cell) : ∃ c, (cellsFrom n sc.names []).lookup x = some c := by
  have q := PySem.W.cellsFrom_some sc.names n [] (.inl h)
  exact Option.isSome_iff_exists.mp q

theorem inv_start {CX : CXT} {P : Program} {w : World} {K : PySem.W.Frag} {mg : Str → Option Value} {base : Heap} {N ps : List Str} {qual : Str} {scope : Scope} {f : Addr} {cd : Value} {A : Around} {outer : List Env} {s s1 : Shared} {H : Hp} {E : XK} {us : List Value} {vs : List V}
    (S : FnScope N ps scope) (hd : A.handled = none) (e0 : Env0 P w K mg base A outer s H) (hl : vs.length = ps.length) (r : Vals vs us)
    (x : InCallC s s.heap.objs.size (bindL (envOfC qual scope s.heap.objs.size f cd).kindOf (ps.zip us) fun _ => none) (cellsFrom (s.heap.objs.size + 1) scope.names []) (bindC (envOfC qual scope s.heap.objs.size f cd).kindOf (ps.zip us) fun _ => none) s1) :
    Inv (cxOf CX P w K mg base N qual scope f cd A outer s H E) [] (start N vs) H s1 := by
  have hpl : ps.length ≤ N.length := by have := congrArg List.length S.pre; rw [List.length_take] at this; omega
  obtain ⟨h1, tk, rfl, hk⟩ := x.done
  have noA : ∀ b : Addr, b ∉ (cxOf CX P w K mg base N qual scope f cd A outer s H E).ex := fun b z => absurd (show b ∈ ([] : List Addr) from z) (by simp)
  refine ⟨⟨e0.mod, S.kind, rfl, rfl, Nat.le_refl _, fun y z c h1 h2 => ?_, fun y hy => ?_, fun y c _ h => ?_, fun _ => hd, Around.frames_deeper e0.frames, .inr ⟨rfl, rfl⟩, fun b z => absurd z (noA b), e0.bs, e0.bsz, fun b _ _ => noA b, fun b z => absurd z (noA b), e0.funs, e0.frf⟩,
    rfl, e0.bare, Un.kept hk, ⟨_, x.toInCall.ns, fun i y v h1 h2 h3 => ?_⟩, fun y c h => ⟨_, x.cell y c h⟩, e0.hok.fresh (Nat.le_refl _), fun y c h => ?_, fun p hp => absurd (show p ∈ ([] : List (Addr × Obj)) from hp) (by simp), e0.hok.kept hk, ?_⟩
  · exact name_of_addr x.apart (PySem.mem_of_lookup h1) (PySem.mem_of_lookup h2)
  · have hy : scope.names.lookup y = some .cell ∨ scope.names.lookup y = some .free := hy
    rcases hy with hy | hy
    · exact cell_has hy
    · exact absurd rfl (S.nofree _ (PySem.mem_of_lookup hy))
  · exact Nat.le_of_lt (x.above y c (PySem.mem_of_lookup h))
  · have hi : i < vs.length := by
      unfold start at h2
      by_cases hi : i < vs.length
      · exact hi
      · rw [List.getElem?_append_right (by simpa using hi)] at h2
        rw [List.getElem?_replicate] at h2
        split at h2 <;> cases h2
    have ha : vs[i]? = some v := by
      unfold start at h2
      rw [List.getElem?_append_left (by simpa using hi), List.getElem?_map] at h2
      cases e : vs[i]? with
      | none => rw [e] at h2; cases h2
      | some a => rw [e] at h2; cases h2; rfl
    obtain ⟨u, hu, rv⟩ := r.get ha
    have hp : ps[i]? = some y := by
      rw [← S.pre, List.getElem?_take_of_lt (by omega)]; exact h1
    have ndP : ps.Nodup := by rw [← S.pre]; exact S.nd.sublist (List.take_sublist _ _)
    refine ⟨u, rv, ?_⟩
    rcases S.par y (List.mem_of_getElem? hp) with k | k
    · exact .inl ⟨k, bindL_get ndP hp hu k⟩
    · obtain ⟨c, e⟩ := cell_has (n := s.heap.objs.size + 1) k
      refine .inr ⟨.inl k, c, e, ?_⟩
      have q := x.cell y c e
      rw [bindC_get ndP hp hu (by show scope.names.lookup y ≠ _; rw [k]; decide)] at q
      exact q
  · exact e0.hok.fresh (Nat.le_of_lt (x.above y c (PySem.mem_of_lookup h)))
  · unfold start
    show _ = N.length
    rw [List.length_append, List.length_map, List.length_replicate]
    omega

/-- THE RULE: a def (or a method) of the text, by its body. The body's reading t is chosen for each entry; it is run at the parameters' values -/
theorem fn_of {CX : CXT} {P : Program} {w : World} {K : PySem.W.Frag} {mg : Str → Option Value} {base : Heap} {k : Nat} {f : Addr} {name qual : Str} {params : Arguments} {body : List Stmt} {scope : Scope} {dV kV doc pm cdv ct oc : Value} {an od : Option Addr}
    {osl : Array (Option Value)} {N ps : List Str} {sp : Sp} (lk : K.lookup f = some ⟨oc, od, .func (PySem.W.fnOf name qual params body scope dV kV doc pm an cdv ct), osl⟩) (hcd : PySem.W.codeIn K cdv qual = true) (S : FnScope N ps scope)
    (len : ∀ vs H Q E, sp vs H Q E → vs.length = ps.length)
    (hbody : ∀ (A : Around) (outer : List Env) (s : Shared) (H : Hp) (vs : List V) (Q : VK) (E : XK), Room k (A.deeper (envOfC qual scope s.heap.objs.size f cdv)) → sp vs H Q E →
      ∃ t, PSs (cxOf CX P w K mg base N qual scope f cdv A outer s H E) body t ∧ t { nx := fun _ H' => Q .non H', rt := Q } (start N vs) H) :
    FnOk P w K mg base CX (k + 1) f (PySem.W.fnOf name qual params body scope dV kV doc pm an cdv ct) ps sp := by
  refine ⟨len, fun A outer s H args us vs Q E hr e0 hb r hsp => ?_⟩
  have hl := len _ _ _ _ hsp
  have KX : K.In s.heap := e0.mod.kin.keeps fun b o e => (e0.bs b o e).1
  have lim : s.heap.NoLimit := e0.mod.nolimit.keeps fun b o e => (e0.bs b o e).1
  have hkind : ∀ y ∈ ps.zip us, scope.names.lookup y.1 = some .local ∨ (scope.names.lookup y.1 = some .cell ∧ ((cellsFrom (s.heap.objs.size + 1) scope.names []).lookup y.1).isSome = true) := fun ⟨n, v⟩ hy => by
    rcases S.par n (List.of_mem_zip hy).1 with q | q
    · exact .inl q
    · exact .inr ⟨q, PySem.W.cellsFrom_some _ _ _ (.inl q)⟩
  refine codeAny_call_function hr.depth (KX _ _ lk) rfl S.co S.gen rfl (PySem.W.codeRec_of KX hcd) (hb _ _ _ _ ?_)
  refine wpAny_newFunctionEnv_cells S.kind hkind fun env he s1 x => ?_
  subst he
  refine ⟨lim.keeps x.toInCall.keep, codeAny_func ?_⟩
  obtain ⟨t, ht, hq⟩ := hbody A outer s H vs Q E (hr.deeper _) hsp
  have I : Inv (cxOf CX P w K mg base N qual scope f cdv A outer s H E) [] (start N vs) H s1 := inv_start S hr.hd e0 hl r x
  refine wpAny_mono (ht [] s1 (start N vs) H _ I hq) (fun fl s' hs => ?_) fun e s' hs => hs
  have fin : ∀ {σ' : St} {H' : Hp} {v : V} {u : Value}, Inv (cxOf CX P w K mg base N qual scope f cdv A outer s H E) [] σ' H' s' → RelV v u → Q v H' → CE outer P w H s Q u s' :=
    fun {σ' H' v u} J rv q => ⟨v, H', J.os, J.bare, J.base, J.hok, rv, q⟩
  cases fl with
  | ret u =>
    obtain ⟨v, σ', H', J, rv, q⟩ := hs
    exact fin J rv q
  | next =>
    obtain ⟨σ', H', J, q⟩ := hs
    exact fin (v := V.non) (u := Value.none) J rfl q
  | brk =>
    obtain ⟨_, _, _, q⟩ := hs
    exact False.elim q
  | cont =>
    obtain ⟨_, _, _, q⟩ := hs
    exact False.elim q
end L2

namespace L2
open PySem PySem.Spec PyProof.Rows
section
variable {X : Cx} {x : Str} {p pos : Pos} {e : Expr} {es : List Expr} {t : TA} {id T : String} {r : List V → Hp → VK → Prop}

def tCB (r : List V → Hp → VK → Prop) (t : TA) : TE := fun σ H Q => t σ H fun vs H1 => r vs H1 Q
/-- f(e, ..), f a built-in function -/
theorem pe_callB (hc : CallR X (.builtin id) r) (hg : Gl X x) (hm : X.mg x = none) (hv : bootBuiltins x = some (.builtin id)) (ha : PA X (e :: es) t) (hn : x ≠ "__name__" := by decide) (hdb : (x == ("__debug__" : Str)) = false := by decide)
    (he : starEach (e :: es) X.env = (false, eval e X.env) :: starEach es X.env := by rfl) (hpl : (backTo pos (starEach es X.env)).any (·.1) = false := by rfl) : PE X (.Call (.Name x p) (e :: es) [] pos) (tCB r t) := by
  intro pins s σ H Q I h
  refine wpAny_Call_Name_kw (ld_blt I hg hm hv ?_ hn hdb)
  exact PyProof.Rows.callWith_builtin1 (thn (ha pos pins s σ H _ I h) fun us s1 ⟨vs, H1, I1, r1, q1⟩ => hc pins s1 σ H1 vs us Q I1 r1 q1) he hpl
/-- T(e, ..), T a built-in type -/
theorem pe_callTy (hc : CallR X (.type T) r) (hg : Gl X x) (hm : X.mg x = none) (hv : bootBuiltins x = some (.type T)) (ha : PA X (e :: es) t) (hn : x ≠ "__name__" := by decide) (hdb : (x == ("__debug__" : Str)) = false := by decide)
    (he : starEach (e :: es) X.env = (false, eval e X.env) :: starEach es X.env := by rfl) (hpl : (backTo pos (starEach es X.env)).any (·.1) = false := by rfl) : PE X (.Call (.Name x p) (e :: es) [] pos) (tCB r t) := by
  intro pins s σ H Q I h
  refine wpAny_Call_Name_kw (ld_blt I hg hm hv ?_ hn hdb)
  exact PyProof.Rows.callWith_type1 (thn (ha pos pins s σ H _ I h) fun us s1 ⟨vs, H1, I1, r1, q1⟩ => hc pins s1 σ H1 vs us Q I1 r1 q1) he hpl
end
end L2

namespace HT
open PySem PyProof.Rows

section
open PySem.SeqAt
open PySem.AutoSeq1 (wpAny_loadPart')
open PySem.MeetsSeq PySem.MeetsSeq2 PySem.MeetsSeq3

end

section
variable {prog : Program} {w : World} {A : Around} {E : Value → Shared → Prop} {s : Shared}

/-- t + u, t not empty -/
theorem cat_tup {t b : Addr} {vs ws : List Value} {Q : Value → Shared → Prop} (ht : IsTup s.heap t vs.toArray) (hb : IsTup s.heap b ws.toArray) (hv : vs ≠ [])
    (h1 : ws = [] → Q (.ref t) s) (h2 : ws ≠ [] → Q (.ref s.heap.objs.size) { s with heap := s.heap.push { cls := .type "tuple", data := .seq (vs ++ ws).toArray } })
    (hsz : vs.length + ws.length ≤ sizeLine) : wpAny (model prog w) A (binaryOp .Add (.ref t) (.ref b)) Q E s := by
  obtain ⟨⟨cls, dd, data, sl⟩, ho, hc, n, hd⟩ := id ht
  obtain ⟨⟨cls2, dd2, data2, sl2⟩, ho2, hc2, n2, hd2⟩ := id hb
  simp only at hc hd hc2 hd2
  subst hc hd hc2 hd2
  have e : vs.toArray ++ ws.toArray = (vs ++ ws).toArray := by simp
  by_cases hw : ws = []
  · exact concat_meets ⟨_, ho, rfl⟩ ⟨_, ho2, rfl⟩ noFill_tuple_add seq_tuple_add PySem.F.slot_tuple_add PySem.F.entry_tuple_add (PySem.F.args_tuple_add_2 _ _)
      (tuple_addW1 t b vs.toArray ws.toArray n n2 dd dd2 sl sl2 (by simpa using hv) (by simp [hw])) ⟨ho, ho2, h1 hw⟩
  · refine concat_meets ⟨_, ho, rfl⟩ ⟨_, ho2, rfl⟩ noFill_tuple_add seq_tuple_add PySem.F.slot_tuple_add PySem.F.entry_tuple_add (PySem.F.args_tuple_add_2 _ _)
      (tuple_addW2 t b vs.toArray ws.toArray n n2 dd dd2 sl sl2 (by simpa using hv) (by simpa using hw) (by rw [List.size_toArray, List.size_toArray]; exact hsz)) ⟨ho, ho2, ?_⟩
    rw [e]
    exact h2 hw

/-- a slice's bound as a place among n (d where it is left out) -/
def sIx (n d : Nat) : Option Int → Nat
  | none => d
  | some v => if v < 0 then (v + (n : Int)).toNat else min v.toNat n
theorem sIx_none (n d : Nat) : sIx n d none = d := rfl
theorem sIx_le (n d : Nat) (hd : d ≤ n) (o : Option Int) : sIx n d o ≤ n := by
  cases o with
  | none => exact hd
  | some v =>
    show (if v < 0 then (v + (n : Int)).toNat else min v.toNat n) ≤ n
    by_cases hv : v < 0
    · rw [if_pos hv]; omega
    · rw [if_neg hv]; exact Nat.min_le_right _ _
theorem clip_eq (v : Int) (n d : Nat) : (if v < 0 then max (v + (n : Int)) 0 else min v (n : Int)) = ((sIx n d (some v) : Nat) : Int) := by
  show (if v < 0 then max (v + (n : Int)) 0 else min v (n : Int)) = (((if v < 0 then (v + (n : Int)).toNat else min v.toNat n) : Nat) : Int)
  by_cases hv : v < 0
  · simp only [if_pos hv]; omega
  · simp only [if_neg hv]; omega
theorem adjust_gen (lo hi : Option Int) (n : Nat) : Builtin.Slice.sliceAdjust lo hi 1 (n : Int) = (((sIx n 0 lo : Nat) : Int), ((sIx n n hi : Nat) : Int)) := by
  have h1 : ¬ ((1 : Int) < 0) := by omega
  unfold Builtin.Slice.sliceAdjust
  simp only [h1, if_false]
  refine Prod.ext ?_ ?_
  · cases lo with
    | none => rfl
    | some v => exact clip_eq v n 0
  · cases hi with
    | none => rfl
    | some v => exact clip_eq v n n
theorem places_gen (i j : Nat) : Builtin.Slice.slicePlaces (i : Int) (j : Int) 1 = j - i := by
  unfold Builtin.Slice.slicePlaces
  have h1 : (1 : Int) > 0 := by omega
  simp only [h1, if_true, Int.ediv_one]
  split <;> omega
theorem slicePart_ {v : Value} {o : Option Int} {Q : Option Int → Shared → Prop} (p : IsPart v o) (h : Q o s) : wpAny (model prog w) A (Builtin.Slice.slicePartIndex v) Q E s := by
  cases p with
  | none => exact slicePart_none h
  | int i t => exact slicePart_int h
theorem sliceApplied_gen {sl : Addr} {vl vu : Value} {lo hi : Option Int} {n : Nat} {Q : Int × Int × Nat → Shared → Prop} (hs : s.heap.IsSliceOf sl vl vu .none) (pl : IsPart vl lo) (pu : IsPart vu hi)
    (h : Q (((sIx n 0 lo : Nat) : Int), 1, sIx n n hi - sIx n 0 lo) s) : wpAny (model prog w) A (Builtin.Slice.sliceApplied (.ref sl) (pure (n : Int))) Q E s := by
  obtain ⟨os, hos, hcs, hds⟩ := id hs
  unfold Builtin.Slice.sliceApplied Builtin.Slice.sliceFields
  refine wpAny_bind (wpAny_bind (wpAny_field hos hds (x := vl) rfl (wpAny_bind (wpAny_field hos hds (x := vu) rfl (wpAny_bind (wpAny_field hos hds (x := .none) rfl (wpAny_pure ?_)))))))
  refine wpAny_bind (slicePart_none ?_)
  show wpAny _ _ (if ((1 : Int) == 0) = true then _ else _) _ _ s
  rw [if_neg (by decide)]
  refine wpAny_bind (slicePart_ pl (wpAny_bind (slicePart_ pu (wpAny_bind (wpAny_pure ?_)))))
  show wpAny _ _ (match Builtin.Slice.sliceAdjust lo hi 1 (n : Int) with | (lo, hi) => pure (lo, (1 : Int), Builtin.Slice.slicePlaces lo hi 1)) _ _ s
  rw [adjust_gen lo hi n]
  show wpAny _ _ (pure (((sIx n 0 lo : Nat) : Int), (1 : Int), Builtin.Slice.slicePlaces ((sIx n 0 lo : Nat) : Int) ((sIx n n hi : Nat) : Int) 1)) _ _ s
  rw [places_gen]
  exact wpAny_pure h
theorem pick_gen (xs : Array Value) (i k : Nat) : ((List.range k).filterMap fun (m : Nat) => xs[((i : Int) + (m : Int) * 1).toNat]?).toArray = ((xs.toList.drop i).take k).toArray := by
  have e : (fun (m : Nat) => xs[((i : Int) + (m : Int) * 1).toNat]?) = fun m => xs[i + m]? := by
    funext m
    have : ((i : Int) + (m : Int) * 1).toNat = i + m := by omega
    rw [this]
  rw [e]
  have := pick_run xs i k
  rw [List.filterMap_map] at this
  have e2 : ((fun x => xs[x]?) ∘ fun x => i + x) = fun m => xs[i + m]? := rfl
  rw [e2] at this
  rw [this]

theorem getItem_tuple_cut {t sl : Addr} {items : Array Value} {vl vu : Value} {lo hi : Option Int} {Q : Value → Shared → Prop} (ht : IsTup s.heap t items) (hs : s.heap.IsSliceOf sl vl vu .none) (pl : IsPart vl lo) (pu : IsPart vu hi)
    (hw : ¬ (sIx items.size 0 lo = 0 ∧ sIx items.size items.size hi = items.size))
    (h : Q (.ref s.heap.objs.size) { s with heap := s.heap.push { cls := .type "tuple", data := .seq ((items.toList.drop (sIx items.size 0 lo)).take (sIx items.size items.size hi - sIx items.size 0 lo)).toArray } })
    (hsz : items.size ≤ sizeLine) : wpAny (model prog w) A (getItem (.ref t) (.ref sl)) Q E s := by
  have htake : sizeOk (.seq ((items.toList.drop (sIx items.size 0 lo)).take (sIx items.size items.size hi - sIx items.size 0 lo)).toArray) := by
    show ((items.toList.drop (sIx items.size 0 lo)).take (sIx items.size items.size hi - sIx items.size 0 lo)).toArray.size ≤ sizeLine
    rw [List.size_toArray, List.length_take, List.length_drop, Array.length_toList]
    omega
  have hj : sIx items.size items.size hi ≤ items.size := sIx_le _ _ (Nat.le_refl _) hi
  obtain ⟨os, hos, hcs, hds⟩ := id hs
  have hTs : s.TypeIs (.ref sl) "slice" := ⟨os, hos, hcs⟩
  unfold getItem
  try with_reducible refine wpAny_holding ?_
  first | refine wpAny_bind (wpAny_pure ?_) | skip
  refine wpAny_bind (wpAny_sequenceKey ht.typeIs (by decide) ?_)
  refine wpAny_bind (wpAny_callSpecial?_slot (name := Str.ofString "__getitem__") ht.typeIs PyProof.Rows.slot_tuple_getitem
    (wpAny_call_entry PyProof.Rows.slot_tuple_getitem ht.typeIs entry_tuple_getitem ?_ (args_tuple_getitem _ _)))
  show wpAny _ _ (Builtin.Tuple.tupleItemsOf (.ref t) >>= _) _ _ s
  refine wpAny_bind (tupleItemsOf_ ht ?_)
  refine wpAny_bind (wpAny_typeOf hTs ?_)
  rw [if_pos (by decide)]
  refine wpAny_bind (sliceApplied_gen hs pl pu ?_)
  have hno : ¬ ((((sIx items.size 0 lo : Nat) : Int) == 0 && (1 : Int) == 1 && (sIx items.size items.size hi - sIx items.size 0 lo) == items.size) = true) := by
    intro q
    rw [Bool.and_eq_true, Bool.and_eq_true] at q
    have q1 : ((sIx items.size 0 lo : Nat) : Int) = 0 := eq_of_beq q.1.1
    have q2 : sIx items.size items.size hi - sIx items.size 0 lo = items.size := eq_of_beq q.2
    exact hw ⟨by omega, by omega⟩
  show wpAny _ _ (if (((sIx items.size 0 lo : Nat) : Int) == 0 && (1 : Int) == 1 && (sIx items.size items.size hi - sIx items.size 0 lo) == items.size) = true then _ else _) _ _ s
  rw [if_neg hno, pick_gen]
  first
    | exact wpAny_bind (m := Builtin.Tuple.tupleExact _) (wpAny_newObj_type (wpAny_pure ⟨_, rfl, wpAny_pure h⟩) htake)
    | exact wpAny_bind (m := Builtin.Tuple.tupleExact _) (wpAny_newObj_type (wpAny_bind (wpAny_pure (wpAny_pure ⟨_, rfl, wpAny_pure h⟩))) htake)
    | exact wpAny_bind (wpAny_bind (m := Builtin.Tuple.tupleExact _) (wpAny_newObj_type (wpAny_pure (wpAny_pure ⟨_, rfl, wpAny_pure h⟩)) htake))
    | exact wpAny_bind (wpAny_bind (m := Builtin.Tuple.tupleExact _) (wpAny_newObj_type (wpAny_pure ⟨_, rfl, wpAny_pure h⟩) htake))
end
end HT

namespace L2
open PySem PySem.Spec PyProof.Rows

abbrev TO := St → Hp → (Option Int → Hp → Prop) → Prop
/-- a slice's part (left out, or an int) -/
def PO (X : Cx) (e : Option Expr) (t : TO) : Prop :=
  ∀ (pins : List (Addr × Obj)) (s : Shared) (σ : St) (H : Hp) (Q : Option Int → Hp → Prop), Inv X pins σ H s → t σ H Q →
    wpAny (model X.prog X.w) X.A (evalPart e X.env) (fun u s' => ∃ o H', Inv X pins σ H' s' ∧ IsPart u o ∧ Q o H') X.xe s
def tNoPart : TO := fun _ H Q => Q none H
def tPart (t : TE) : TO := fun σ H Q => t σ H fun x H1 => ∃ i, x = .int i ∧ Q (some i) H1

section
variable {X : Cx} {e : Expr} {te : TE} {lo hi : Option Expr} {tl th : TO} {pos p2 : Pos}

theorem po_none : PO X none tNoPart := by
  intro pins s σ H Q I h
  rw [evalPart_none]
  exact wpAny_pure ⟨none, H, I, .none, h⟩
theorem po_some (h : PE X e te) : PO X (some e) (tPart te) := by
  intro pins s σ H Q I hw
  rw [evalPart_some]
  refine thn (h pins s σ H _ I hw) fun u s1 ⟨x, H1, I1, r1, q1⟩ => ?_
  obtain ⟨i, rfl, q⟩ := q1
  obtain ⟨t, rfl⟩ := r1
  exact ⟨some i, H1, I1, .int i t, q⟩

/-- what a slice of a value is, by values: the slice object stands at sl -/
def SlR (X : Cx) (r : V → Option Int → Option Int → Hp → VK → Prop) : Prop :=
  ∀ (pins : List (Addr × Obj)) (s : Shared) (σ : St) (H : Hp) (x : V) (v vl vu : Value) (lo hi : Option Int) (sl : Addr) (Q : VK), Inv X pins σ H s → RelV x v → s.heap.IsSliceOf sl vl vu .none → IsPart vl lo → IsPart vu hi → r x lo hi H Q →
    ∃ T id, typeLookup (.type T) "__getitem__" = pure (some (.builtin id)) ∧ s.TypeIs v T ∧ wpAny (model X.prog X.w) X.A (getItem v (.ref sl)) (EP X pins σ Q) X.xe s
theorem SlR.or {r r' : V → Option Int → Option Int → Hp → VK → Prop} (h : SlR X r) (h' : SlR X r') : SlR X (fun x lo hi H Q => r x lo hi H Q ∨ r' x lo hi H Q) := by
  intro pins s σ H x v vl vu lo hi sl Q I rx hs pl pu q
  rcases q with q | q
  · exact h pins s σ H x v vl vu lo hi sl Q I rx hs pl pu q
  · exact h' pins s σ H x v vl vu lo hi sl Q I rx hs pl pu q
def tSl (r : V → Option Int → Option Int → Hp → VK → Prop) (te : TE) (tl th : TO) : TE := fun σ H Q => te σ H fun x H1 => tl σ H1 fun l H2 => th σ H2 fun u H3 => r x l u H3 Q
/-- a[lo:hi], any a -/
theorem pe_slice {r : V → Option Int → Option Int → Hp → VK → Prop} (hr : SlR X r) (he : PE X e te) (hl : PO X lo tl) (hu : PO X hi th) : PE X (.Subscript e (.Slice lo hi none p2) pos) (tSl r te tl th) := by
  intro pins s σ H Q I h
  refine Subscript_ (thn (he pins s σ H _ I h) fun v s1 ⟨x, H1, I1, r1, q1⟩ => ?_)
  refine wpAny_Slice (thn (hl pins s1 σ H1 _ I1 q1) fun vl s2 ⟨l, H2, I2, pl, q2⟩ => thn (hu pins s2 σ H2 _ I2 q2) fun vu s3 ⟨u, H3, I3, pu, q3⟩ => ?_)
  rw [evalPart_none]
  refine wpAny_pure ?_
  have I4 : Inv X pins σ H3 { s3 with heap := s3.heap.push { cls := .type "slice", data := .fields #[vl, vu, .none] } } := I3.kept (t' := s3.toks) fun b ob q => Heap.get?_push_of_some _ q
  obtain ⟨T, id, hT, ht, hg⟩ := hr pins { s3 with heap := s3.heap.push { cls := .type "slice", data := .fields #[vl, vu, .none] } } σ H3 x v vl vu l u s3.heap.objs.size Q I4 r1 (Heap.IsSliceOf.new ..) pl pu q3
  show wpAny (model X.prog X.w) X.A (subscriptTail e (.Slice lo hi none p2) v (.ref s3.heap.objs.size)) (EP X pins σ Q) X.xe { s3 with heap := s3.heap.push { cls := .type "slice", data := .fields #[vl, vu, .none] } }
  exact tail_any (ops := [.ref s3.heap.objs.size, v]) ht hT hg (by with_unfolding_all rfl)

/-- the items of xs[lo:hi] -/
def cutV (xs : List V) (lo hi : Option Int) : List V := (xs.drop (HT.sIx xs.length 0 lo)).take (HT.sIx xs.length xs.length hi - HT.sIx xs.length 0 lo)
theorem cutV_length (xs : List V) (lo hi : Option Int) : (cutV xs lo hi).length ≤ xs.length := by
  unfold cutV
  rw [List.length_take, List.length_drop]
  omega
/-- t[lo:hi], not the whole of it (the whole would be t itself) -/
def rSlT (K : PySem.W.Frag) : V → Option Int → Option Int → Hp → VK → Prop := fun x lo hi H Q => ∃ a xs, x = .ref a ∧ SqT K H a xs ∧
  ¬ (HT.sIx xs.length 0 lo = 0 ∧ HT.sIx xs.length xs.length hi = xs.length) ∧ ∀ p, H p = none → Q (.ref p) (upd H p (.tup (cutV xs lo hi)))
theorem sl_tup : SlR X (rSlT X.K) := by
  intro pins s σ H x v vl vu lo hi sl Q I rx hs pl pu h
  obtain ⟨a, xs, rfl, hx, hw, q⟩ := h
  cases rx
  obtain ⟨its, r, ht, hz⟩ := I.tuple hx
  have hlen : its.toArray.size = xs.length := by rw [List.size_toArray]; exact r.length.symm
  refine ⟨"tuple", _, PyProof.Rows.slot_tuple_getitem.lookup, ht.typeIs, ?_⟩
  refine HT.getItem_tuple_cut ht hs pl pu (by rw [hlen]; exact hw) ?_ (by rw [hlen]; exact hz)
  rw [hlen]
  refine ⟨.ref s.heap.objs.size, _, I.laid (t' := s.toks) (o := .tup (cutV xs lo hi)) (fun b ob q => Heap.get?_push_of_some _ q) (Nat.le_refl _) ?_, rfl, q _ (I.hok.fresh (Nat.le_refl _))⟩
  exact ⟨Nat.le_trans (cutV_length xs lo hi) hz, _, (r.drop (HT.sIx xs.length 0 lo)).take (HT.sIx xs.length xs.length hi - HT.sIx xs.length 0 lo), IsTup.new _ _, _, Heap.get?_push_size _ rfl, rfl⟩

/-- t + u, t not empty: u empty gives t itself -/
def rCatT (K : PySem.W.Frag) : R2 := fun x y H Q => ∃ a b xs ys, x = .ref a ∧ y = .ref b ∧ SqT K H a xs ∧ SqT K H b ys ∧ xs ≠ [] ∧ xs.length + ys.length ≤ sizeLine ∧
  (ys = [] → Q (.ref a) H) ∧ (ys ≠ [] → ∀ p, H p = none → Q (.ref p) (upd H p (.tup (xs ++ ys))))
theorem Vals.nil_iff {xs : List V} {us : List Value} (r : Vals xs us) : us = [] ↔ xs = [] := by
  cases r with
  | nil => simp
  | cons _ _ => simp
theorem op_catT : OpR X (binaryOp .Add) (rCatT X.K) := by
  intro pins s σ H x y v u Q I rx ry h
  obtain ⟨a, b, xs, ys, rfl, rfl, ha, hb, hx, hz, q1, q2⟩ := h
  cases rx
  cases ry
  obtain ⟨its, r1, p1, _⟩ := I.tuple ha
  obtain ⟨its2, r2, p2, _⟩ := I.tuple hb
  refine HT.cat_tup p1 p2 (fun z => hx (r1.nil_iff.mp z)) (fun z => ⟨.ref a, H, I, rfl, q1 (r2.nil_iff.mp z)⟩) (fun z => ?_) (by rw [← r1.length, ← r2.length]; exact hz)
  refine ⟨.ref s.heap.objs.size, _, I.laid (t' := s.toks) (o := .tup (xs ++ ys)) (fun b ob q => Heap.get?_push_of_some _ q) (Nat.le_refl _) ?_, rfl, q2 (fun w => z (r2.nil_iff.mpr w)) _ (I.hok.fresh (Nat.le_refl _))⟩
  exact ⟨by rw [List.length_append]; exact hz, _, r1.append r2, IsTup.new _ _, _, Heap.get?_push_size _ rfl, rfl⟩
end
end L2

namespace L2
open PySem PySem.Spec PyProof.Rows

/-- the place that an index of any sign means -/
def ixN (n : Nat) (i : Int) : Option Nat := if 0 ≤ i then (if i < n then some i.toNat else none) else if -(n : Int) ≤ i then some (i + n).toNat else none
def atI {α : Type} (xs : List α) (i : Int) : Option α := (ixN xs.length i).bind fun j => xs[j]?
theorem ixN_seq {n : Nat} {i : Int} {j : Nat} (h : ixN n i = some j) : seqIndex? i n = some j ∧ j < n ∧ -(n : Int) ≤ i ∧ i < n := by
  unfold ixN at h
  by_cases h0 : 0 ≤ i
  · rw [if_pos h0] at h
    by_cases h1 : i < n
    · rw [if_pos h1] at h
      have e : i.toNat = j := Option.some.inj h
      exact ⟨by rw [seqIndex_of h0 h1, e], by omega, by omega, h1⟩
    · rw [if_neg h1] at h; cases h
  · rw [if_neg h0] at h
    by_cases h1 : -(n : Int) ≤ i
    · rw [if_pos h1] at h
      have e : (i + n).toNat = j := Option.some.inj h
      exact ⟨by rw [seqIndex_neg (by omega) h1, e], by omega, h1, by omega⟩
    · rw [if_neg h1] at h; cases h
theorem atI_get {α : Type} {xs : List α} {i : Int} {v : α} (h : atI xs i = some v) : ∃ j, seqIndex? i xs.length = some j ∧ xs[j]? = some v ∧ j < xs.length ∧ -(xs.length : Int) ≤ i ∧ i < xs.length := by
  unfold atI at h
  cases e : ixN xs.length i with
  | none => rw [e] at h; cases h
  | some j =>
    rw [e] at h
    obtain ⟨h1, h2, h3, h4⟩ := ixN_seq e
    exact ⟨j, h1, h, h2, h3, h4⟩
theorem atI_nat {α : Type} {xs : List α} {j : Nat} {v : α} (h : xs[j]? = some v) : atI xs (j : Int) = some v := by
  have hj : j < xs.length := (List.getElem?_eq_some_iff.mp h).1
  have e : ixN xs.length (j : Int) = some j := by
    unfold ixN
    rw [if_pos (by omega), if_pos (by omega)]; simp
  unfold atI; rw [e]; exact h
/-- what stands as an index of a plain subscript -/
def PlainIx (b : Expr) : Prop := ∀ o i, subscripted b false o i = operate [o, i] (getItem o i)
/-- a subscript by values -/
def IxR (X : Cx) (r : R2) : Prop :=
  ∀ (value slice : Expr) (pins : List (Addr × Obj)) (s : Shared) (σ : St) (H : Hp) (x y : V) (v u : Value) (Q : VK), Inv X pins σ H s → RelV x v → RelV y u → r x y H Q →
    subscripted slice false v u = operate [v, u] (getItem v u) → wpAny (model X.prog X.w) X.A (subscriptTail value slice v u) (EP X pins σ Q) X.xe s
/-- a call of a builtin's method by values: the receiver, the arguments -/
def MtR (X : Cx) (id : String) (r : V → List V → Hp → VK → Prop) : Prop :=
  ∀ (pins : List (Addr × Obj)) (s : Shared) (σ : St) (H : Hp) (x : V) (xs : List V) (v : Value) (us : List Value) (Q : VK), Inv X pins σ H s → RelV x v → Vals xs us → r x xs H Q →
    wpAny (model X.prog X.w) X.A (call (.builtin id) (v :: us)) (EP X pins σ Q) X.xe s
section
variable {X : Cx} {a b : Expr} {ta tb : TE} {pos : Pos}
theorem IxR.or {r r' : R2} (h : IxR X r) (h' : IxR X r') : IxR X (fun x y H Q => r x y H Q ∨ r' x y H Q) := by
  intro value slice pins s σ H x y v u Q I rx ry q hs
  rcases q with q | q
  · exact h value slice pins s σ H x y v u Q I rx ry q hs
  · exact h' value slice pins s σ H x y v u Q I rx ry q hs
theorem MtR.or {id : String} {r r' : V → List V → Hp → VK → Prop} (h : MtR X id r) (h' : MtR X id r') : MtR X id (fun x xs H Q => r x xs H Q ∨ r' x xs H Q) := by
  intro pins s σ H x xs v us Q I rx rs q
  rcases q with q | q
  · exact h pins s σ H x xs v us Q I rx rs q
  · exact h' pins s σ H x xs v us Q I rx rs q
/-- a[b] -/
theorem pe_ix {r : R2} (hr : IxR X r) (ha : PE X a ta) (hb : PE X b tb) (hs : PlainIx b) : PE X (.Subscript a b pos) (tOp r ta tb) := by
  intro pins s σ H Q I h
  exact Subscript_ (binT ha hb I h fun v u s2 x y H2 I2 rx ry q => hr a b pins s2 σ H2 x y v u Q I2 rx ry q (hs _ _))

def rIxL (K : PySem.W.Frag) : R2 := fun x y H Q => ∃ p xs i v, x = .ref p ∧ y = .int i ∧ SqL K H p xs ∧ atI xs i = some v ∧ Q v H
def rIxT (K : PySem.W.Frag) : R2 := fun x y H Q => ∃ p xs i v, x = .ref p ∧ y = .int i ∧ SqT K H p xs ∧ atI xs i = some v ∧ Q v H
def rIxS : R2 := fun x y H Q => ∃ z i c, x = .str z ∧ y = .int i ∧ z.length ≤ sizeLine ∧ atI z.cps.toList i = some c ∧ Q (.str ⟨#[c]⟩) H
theorem ix_list : IxR X (rIxL X.K) := by
  intro value slice pins s σ H x y v u Q I rx ry h hs
  obtain ⟨p, xs, i, z, rfl, rfl, hq, he, q⟩ := h
  cases rx
  obtain ⟨t, rfl⟩ := ry
  obtain ⟨its, r, pl, hz⟩ := I.list hq
  obtain ⟨j, h1, h2, h3, h4, h5⟩ := atI_get he
  obtain ⟨w, ew, rw'⟩ := r.get h2
  have hl := r.length
  have hn := line63
  have fin : EP X pins σ Q w s := ⟨z, H, I, rw', q⟩
  by_cases h0 : 0 ≤ i
  · have hj : i.toNat = j := by
      rw [seqIndex_of h0 h5] at h1
      exact Option.some.inj h1
    exact item_listR pl.isList h0 (by omega) (by rw [hj]; simpa using ew) fin hs
  · have hj : (i + (its.toArray.size : Int)).toNat = j := by
      rw [seqIndex_neg (by omega) h4] at h1
      rw [List.size_toArray, ← hl]
      exact Option.some.inj h1
    exact subscriptTail_builtinR (x := w) pl.isList.typeIs slot_list_getitem.lookup
      (wpAny_getItem_list_neg (Q := fun r s' => r = w ∧ EP X pins σ Q r s') pl.isList (by omega) (by rw [List.size_toArray] <;> omega) (by omega) (by rw [hj]; simpa using ew) ⟨rfl, fin⟩) hs
theorem ix_tup : IxR X (rIxT X.K) := by
  intro value slice pins s σ H x y v u Q I rx ry h hs
  obtain ⟨p, xs, i, z, rfl, rfl, hq, he, q⟩ := h
  cases rx
  obtain ⟨t, rfl⟩ := ry
  obtain ⟨its, r, pl, hz⟩ := I.tuple hq
  obtain ⟨j, h1, h2, h3, h4, h5⟩ := atI_get he
  obtain ⟨w, ew, rw'⟩ := r.get h2
  have hl := r.length
  have hn := line63
  have fin : EP X pins σ Q w s := ⟨z, H, I, rw', q⟩
  exact subscriptTail_builtinR (x := w) pl.typeIs slot_tuple_getitem.lookup
    (getItem_tuple (j := j) (Q := fun r s' => r = w ∧ EP X pins σ Q r s') pl (by omega) (by omega) (by rw [List.size_toArray, ← hl]; exact h1) (by simpa using ew) ⟨rfl, fin⟩) hs
theorem ix_str : IxR X rIxS := by
  intro value slice pins s σ H x y v u Q I rx ry h hs
  obtain ⟨z, i, c, rfl, rfl, hz, he, q⟩ := h
  obtain ⟨t, rfl⟩ := rx
  obtain ⟨t', rfl⟩ := ry
  obtain ⟨j, h1, h2, h3, h4, h5⟩ := atI_get he
  have hl : z.cps.toList.length = z.length := by simp [Str.length]
  rw [hl] at h1 h4 h5
  have hn := line63
  exact tail_any (typeIs_str s z t) slot_str_getitem.lookup (getItem_str (c := c) (by
    have e1 : decide (i < -(2 ^ 63 : Int)) = false := decide_eq_false (by omega)
    have e2 : decide (i ≥ 2 ^ 63) = false := decide_eq_false (by omega)
    rw [e1, e2, Bool.or_false]) (by rw [h1]; simpa using h2) ⟨.str ⟨#[c]⟩, H, I.tok _, ⟨_, rfl⟩, q⟩) hs
/-- list, tuple or str -/
def rIx (K : PySem.W.Frag) : R2 := fun x y H Q => rIxL K x y H Q ∨ rIxT K x y H Q ∨ rIxS x y H Q
theorem ix_seq : IxR X (rIx X.K) := ix_list.or (ix_tup.or ix_str)

theorem Inv.lst {pins : List (Addr × Obj)} {σ : St} {H : Hp} {s : Shared} {p : Addr} {xs : List V} (I : Inv X pins σ H s) (h : H p = some (.lst xs)) :
    ∃ (its : List Value) (n : Nat), Vals xs its ∧ s.heap.get? p = some { cls := .type "list", data := .seq its.toArray n } ∧ xs.length ≤ sizeLine := by
  obtain ⟨z, its, n, r, e⟩ := I.hok p _ h
  exact ⟨its, n, r, e, z⟩
theorem slice_bounds (lo hi : Option Int) (n : Nat) : (sliceBounds lo hi none n).1 = ((HT.sIx n 0 lo : Nat) : Int) ∧ (sliceBounds lo hi none n).2.1 = ((HT.sIx n n hi : Nat) : Int) ∧ (sliceBounds lo hi none n).2.2 = 1 := by
  refine ⟨?_, ?_, rfl⟩
  · cases lo with
    | none => simp [sliceBounds, HT.sIx]
    | some i =>
      simp only [sliceBounds, HT.sIx, Option.getD_none, show (1 : Int) > 0 by decide, if_true]
      by_cases h : i < 0
      · simp only [h, if_true] <;> omega
      · simp only [h, if_false] <;> omega
  · cases hi with
    | none => simp [sliceBounds, HT.sIx]
    | some i =>
      simp only [sliceBounds, HT.sIx, Option.getD_none, show (1 : Int) > 0 by decide, if_true]
      by_cases h : i < 0
      · simp only [h, if_true] <;> omega
      · simp only [h, if_false] <;> omega
theorem slicePick_cut (its : List Value) (lo hi : Option Int) : slicePick its.toArray lo hi none = ((its.drop (HT.sIx its.length 0 lo)).take (HT.sIx its.length its.length hi - HT.sIx its.length 0 lo)).toArray := by
  obtain ⟨h1, h2, h3⟩ := slice_bounds lo hi its.toArray.size
  unfold slicePick
  rw [h1, h2, h3]
  simp only [sliceRange_one, pick_run, List.size_toArray] <;> rfl
/-- xs[lo:hi] of a list: a new list -/
def rSlL (K : PySem.W.Frag) : V → Option Int → Option Int → Hp → VK → Prop := fun x lo hi H Q => ∃ a xs, x = .ref a ∧ SqL K H a xs ∧ ∀ p, H p = none → Q (.ref p) (upd H p (.lst (cutV xs lo hi)))
theorem sl_list : SlR X (rSlL X.K) := by
  intro pins s σ H x v vl vu lo hi sl Q I rx hs pl pu h
  obtain ⟨a, xs, rfl, hx, q⟩ := h
  cases rx
  obtain ⟨its, r, ht, hz⟩ := I.list hx
  have hlen := r.length
  refine ⟨"list", _, slot_list_getitem.lookup, ht.isList.typeIs, ?_⟩
  refine wpAny_getItem_list_slice ht.isList hs pl pu .none (by simp) ?_ (by rw [List.size_toArray] <;> omega)
  rw [slicePick_cut, ← hlen]
  refine ⟨.ref s.heap.objs.size, _, I.laid (t' := s.toks) (o := .lst (cutV xs lo hi)) (fun b ob q => Heap.get?_push_of_some _ q) (Nat.le_refl _) ?_, rfl, q _ (I.hok.fresh (Nat.le_refl _))⟩
  exact ⟨Nat.le_trans (cutV_length xs lo hi) hz, _, 0, (r.drop (HT.sIx xs.length 0 lo)).take (HT.sIx xs.length xs.length hi - HT.sIx xs.length 0 lo), Heap.get?_push_size _ rfl⟩

def flatV : V → Bool
  | .non => true
  | .bl _ => true
  | .int _ => true
  | .str _ => true
  | _ => false
/-- == of flat values -/
def eqV : V → V → Bool
  | .non, .non => true
  | .bl a, .bl b => a == b
  | .bl a, .int b => (if a then 1 else 0) == b
  | .int a, .bl b => a == (if b then 1 else 0)
  | .int a, .int b => a == b
  | .str a, .str b => a == b
  | _, _ => false
theorem eqAt_V {A : Around} {s : Shared} {y x : V} {u v : Value} (ry : RelV y u) (rx : RelV x v) (fy : flatV y = true) (fx : flatV x = true) : SeqAt.EqAt A s u v (eqV y x) := by
  cases y with
  | non =>
    cases ry
    cases x with
    | non => cases rx; exact SeqAt.EqAt.same _
    | bl b => cases rx; exact SeqAt.EqAt.none_bool b
    | int b => obtain ⟨t, rfl⟩ := rx; exact SeqAt.EqAt.none_int b t
    | str b => obtain ⟨t, rfl⟩ := rx; exact SeqAt.EqAt.none_str b t
    | _ => exact absurd (show false = true from fx) Bool.false_ne_true
  | bl a =>
    cases ry
    cases x with
    | non => cases rx; exact SeqAt.EqAt.bool_none a
    | bl b => cases rx; exact SeqAt.EqAt.bool_bool a b
    | int b => obtain ⟨t, rfl⟩ := rx; exact SeqAt.EqAt.bool_int a b t
    | str b => obtain ⟨t, rfl⟩ := rx; exact SeqAt.EqAt.bool_str a b t
    | _ => exact absurd (show false = true from fx) Bool.false_ne_true
  | int a =>
    obtain ⟨t', rfl⟩ := ry
    cases x with
    | non => cases rx; exact SeqAt.EqAt.int_none a t'
    | bl b => cases rx; exact SeqAt.EqAt.int_bool a t' b
    | int b => obtain ⟨t, rfl⟩ := rx; exact SeqAt.EqAt.int_int a t' b t
    | str b => obtain ⟨t, rfl⟩ := rx; exact SeqAt.EqAt.int_str a t' b t
    | _ => exact absurd (show false = true from fx) Bool.false_ne_true
  | str a =>
    obtain ⟨t', rfl⟩ := ry
    cases x with
    | non => cases rx; exact SeqAt.EqAt.str_none a t'
    | bl b => cases rx; exact SeqAt.EqAt.str_bool a t' b
    | int b => obtain ⟨t, rfl⟩ := rx; exact SeqAt.EqAt.str_int a t' b t
    | str b => obtain ⟨t, rfl⟩ := rx; exact SeqAt.EqAt.str_str a t' b t
    | _ => exact absurd (show false = true from fx) Bool.false_ne_true
  | _ => exact absurd (show false = true from fy) Bool.false_ne_true
/-- the items' answers, read off the values (a value's own answer does not lean on its token) -/
def eqU (x : V) (u : Value) : Bool := match u with
  | .none => eqV .non x
  | .bool b => eqV (.bl b) x
  | .int i _ => eqV (.int i) x
  | .str z _ => eqV (.str z) x
  | _ => false
theorem eqU_of {x y : V} {u : Value} (r : RelV y u) (f : flatV y = true) : eqU x u = eqV y x := by
  cases y with
  | non => cases r; rfl
  | bl b => cases r; rfl
  | int i => obtain ⟨t, rfl⟩ := r; rfl
  | str z => obtain ⟨t, rfl⟩ := r; rfl
  | _ => exact absurd (show false = true from f) Bool.false_ne_true
theorem any_eqU {x : V} : ∀ {xs : List V} {us : List Value}, Vals xs us → xs.all flatV = true → us.any (eqU x) = xs.any fun y => eqV y x
  | _, _, .nil, _ => rfl
  | y :: xs, u :: us, .cons r t, f => by
    rw [List.all_cons, Bool.and_eq_true] at f
    rw [List.any_cons, List.any_cons, eqU_of r f.1, any_eqU t f.2]
theorem mem_eqAt {A : Around} {s : Shared} {x : V} {v : Value} (rx : RelV x v) (fx : flatV x = true) : ∀ {xs : List V} {us : List Value}, Vals xs us → xs.all flatV = true → ∀ u ∈ us, SeqAt.EqAt A s u v (eqU x u)
  | _, _, .nil, _ => fun u hu => by cases hu
  | y :: xs, u :: us, .cons r t, f => fun u' hu => by
    rw [List.all_cons, Bool.and_eq_true] at f
    rcases List.mem_cons.mp hu with rfl | hu
    · rw [eqU_of r f.1]; exact eqAt_V r rx f.1 fx
    · exact mem_eqAt rx fx t f.2 u' hu
def inV (x : V) (xs : List V) : Bool := xs.any fun y => eqV y x
/-- x in a list or tuple of flat items -/
def rIn (K : PySem.W.Frag) (neg : Bool) : R2 := fun x y H Q => ∃ p xs, y = .ref p ∧ (SqL K H p xs ∨ SqT K H p xs) ∧ flatV x = true ∧ xs.all flatV = true ∧ Q (.bl (if neg then !inV x xs else inV x xs)) H
theorem op_in_seq : OpR X (compareOp .In) (rIn X.K false) := by
  intro pins s σ H x y v u Q I rx ry h
  obtain ⟨p, xs, rfl, hq, fx, fs, q⟩ := h
  cases ry
  rcases hq with hq | hq
  · obtain ⟨its, r, pl, hz⟩ := I.list hq
    refine SeqAt.in_listAt (eqU x) pl.isList (fun w hw => mem_eqAt rx fx r fs w (by simpa using hw)) ⟨.bl _, H, I, rfl, ?_⟩
    rw [show its.toArray.any (eqU x) = its.any (eqU x) by simp, any_eqU r fs]
    exact q
  · obtain ⟨its, r, pl, hz⟩ := I.tuple hq
    refine SeqAt.in_tupleAt (eqU x) pl (fun w hw => mem_eqAt rx fx r fs w (by simpa using hw)) ⟨.bl _, H, I, rfl, ?_⟩
    rw [show its.toArray.any (eqU x) = its.any (eqU x) by simp, any_eqU r fs]
    exact q
theorem CallR.or {f : Value} {r r' : List V → Hp → VK → Prop} (h : CallR X f r) (h' : CallR X f r') : CallR X f (fun xs H Q => r xs H Q ∨ r' xs H Q) := by
  intro pins s σ H xs us Q I rs q
  rcases q with q | q
  · exact h pins s σ H xs us Q I rs q
  · exact h' pins s σ H xs us Q I rs q
theorem call_list_of : CallR X (.type "list") (fun xs H Q => ∃ p ys, xs = [.ref p] ∧ (SqL X.K H p ys ∨ SqT X.K H p ys) ∧ ∀ l, H l = none → Q (.ref l) (upd H l (.lst ys))) := by
  intro pins s σ H xs us Q I r h
  obtain ⟨p, ys, rfl, hq, q⟩ := h
  obtain ⟨u, rfl, rx⟩ := vals1 r
  cases rx
  have fin : ∀ (its : List Value), Vals ys its → ys.length ≤ sizeLine → ∀ (h' : Heap) (c' : Nat), (∀ b o', s.heap.get? b = some o' → h'.get? b = some o') →
      h'.get? s.heap.objs.size = some { cls := .type "list", dict := none, data := .seq its.toArray c', slots := #[] } → EP X pins σ Q (.ref s.heap.objs.size) { s with heap := h' } := fun its r' hz h' c' kp e =>
    ⟨.ref s.heap.objs.size, _, I.laid (t' := s.toks) kp (Nat.le_refl _) (show ObjOk X.prog X.w _ h' _ (.lst ys) from ⟨hz, its, c', r', e⟩), rfl, q _ (I.hok.fresh (Nat.le_refl _))⟩
  rcases hq with hq | hq
  · obtain ⟨its, r', pl, hz⟩ := I.list hq
    have hlen := r'.length
    obtain ⟨o, ho, hc, n, hd⟩ := pl.isList
    exact call_list_seq p (.inl rfl) ho hc hd (fun h' c' kp e => fin its r' hz h' c' kp e) (by simp only [List.size_toArray] <;> omega)
  · obtain ⟨its, r', pl, hz⟩ := I.tuple hq
    have hlen := r'.length
    obtain ⟨o, ho, hc, n, hd⟩ := pl
    exact call_list_seq p (.inr rfl) ho hc hd (fun h' c' kp e => fin its r' hz h' c' kp e) (by simp only [List.size_toArray] <;> omega)
theorem call_tuple_of : CallR X (.type "tuple") (fun xs H Q => ∃ p ys, xs = [.ref p] ∧ ((SqL X.K H p ys ∧ ∀ l, H l = none → Q (.ref l) (upd H l (.tup ys))) ∨ (SqT X.K H p ys ∧ Q (.ref p) H))) := by
  intro pins s σ H xs us Q I r h
  obtain ⟨p, ys, rfl, h⟩ := h
  obtain ⟨u, rfl, rx⟩ := vals1 r
  cases rx
  rcases h with ⟨hq, q⟩ | ⟨hq, q⟩
  · obtain ⟨its, r', pl, hz⟩ := I.list hq
    have hlen := r'.length
    refine call_tuple_list pl.isList (fun h' kp => ?_) (by simp only [List.size_toArray] <;> omega)
    have I1 : Inv X pins σ H { s with heap := h' } := I.kept (t' := s.toks) kp
    have I2 : Inv X pins σ (upd H h'.objs.size (.tup ys)) { s with heap := h'.push { cls := .type "tuple", data := .seq its.toArray } } :=
      I1.laid (t' := s.toks) (fun b o e => Heap.get?_push_of_some _ e) (Nat.le_refl _) (show ObjOk X.prog X.w _ _ _ (.tup ys) from ⟨hz, its, r', IsTup.new _ _, _, Heap.get?_push_size _ rfl, rfl⟩)
    exact ⟨.ref h'.objs.size, _, I2, rfl, q _ (I1.hok.fresh (Nat.le_refl _))⟩
  · obtain ⟨its, r', pl, hz⟩ := I.tuple hq
    exact call_tuple_same pl ⟨.ref p, H, I, rfl, q⟩

/-- the value is of that builtin type -/
def tyV (K : PySem.W.Frag) (T : String) (x : V) (H : Hp) : Prop := match x with
  | .str _ => T = "str"
  | .int _ => T = "int"
  | .ref p => (T = "list" ∧ ∃ xs, SqL K H p xs) ∨ (T = "tuple" ∧ ∃ o, K.lookup p = some o ∧ o.cls = .type "tuple" ∧ o.dict = none) ∨
      (T = "dict" ∧ ((∃ kvs, H p = some (.dK kvs)) ∨ ∃ kvs, H p = some (.dT kvs))) ∨ (T = "set" ∧ ∃ S n, H p = some (.set S n))
  | _ => False
theorem tyV_is {pins : List (Addr × Obj)} {σ : St} {H : Hp} {s : Shared} {T : String} {x : V} {v : Value} (I : Inv X pins σ H s) (r : RelV x v) (ty : tyV X.K T x H) :
    s.TypeIs v T ∧ ∀ a, v = .ref a → ∃ ob, s.heap.get? a = some ob ∧ ob.dict = none := by
  cases x with
  | str z =>
    obtain ⟨t, rfl⟩ := r
    cases (show T = "str" from ty)
    exact ⟨typeIs_str s z t, fun _ e => nomatch e⟩
  | int i =>
    obtain ⟨t, rfl⟩ := r
    cases (show T = "int" from ty)
    exact ⟨typeIs_int s i t, fun _ e => nomatch e⟩
  | ref p =>
    cases r
    rcases ty with ⟨rfl, xs, hq⟩ | ⟨rfl, o, hk, hc, hd⟩ | ⟨rfl, hk⟩ | ⟨rfl, S, n, hk⟩
    · obtain ⟨its, _, pl, _⟩ := I.list hq
      refine ⟨pl.isList.typeIs, fun a e => ?_⟩
      cases e
      obtain ⟨o, n, e, c, hd, _⟩ := pl
      exact ⟨o, e, hd⟩
    · refine ⟨⟨o, I.kIn p o hk, hc⟩, fun a e => ?_⟩
      cases e
      exact ⟨o, I.kIn _ o hk, hd⟩
    · have z : ∃ o, s.heap.get? p = some o ∧ o.ExactDict := by
        rcases hk with ⟨kvs, hk⟩ | ⟨kvs, hk⟩
        · obtain ⟨_, _, _, _, o, _, _, e, ex, _⟩ := I.hok p _ hk
          exact ⟨o, e, ex⟩
        · obtain ⟨_, _, _, _, o, _, _, e, ex, _⟩ := I.hok p _ hk
          exact ⟨o, e, ex⟩
      obtain ⟨o, e, ex⟩ := z
      refine ⟨⟨o, e, ex.1⟩, fun a e2 => ?_⟩
      cases e2
      exact ⟨o, e, ex.2.1⟩
    · obtain ⟨o, _, _, _, e, ex, _⟩ := I.hok p _ hk
      refine ⟨⟨o, e, ex.1⟩, fun a e2 => ?_⟩
      cases e2
      exact ⟨o, e, ex.2.1⟩
  | _ => exact False.elim ty
def tBM (K : PySem.W.Frag) (T : String) (r : V → List V → Hp → VK → Prop) (to : TE) (t : TA) : TE := fun σ H Q => to σ H fun x H1 => tyV K T x H1 ∧ t σ H1 fun xs H2 => r x xs H2 Q
variable {o e : Expr} {es : List Expr} {to : TE} {t : TA} {name : Str} {apos cpos : Pos} {T id : String} {r : V → List V → Hp → VK → Prop}
theorem pe_bm (pa : PlainAttrs T) (slot : Slot T name id) (hty : typeOf (.builtin id) = pure (.type "method_descriptor")) (hm : MtR X id r) (ho : PE X o to) (ha : PA X (e :: es) t)
    (hbase : attributeBase o name X.env (eval o X.env) = eval o X.env := by rfl)
    (hfew : ((backTo cpos (starEach (e :: es) X.env)).all (fun x => !x.1) && (backToKw cpos (keywordEach [] X.env)).all (fun x => x.1.isSome)
      && decide ((e :: es).length + ([] : List Keyword).length + (if ([] : List Keyword).isEmpty then 0 else 1) < 30)) = true := by rfl)
    (hline : (apos.endLine == cpos.line) = true := by rfl) (hs : starEach (e :: es) X.env = (false, eval e X.env) :: starEach es X.env := by rfl) (hplain : (backTo cpos (starEach es X.env)).any (·.1) = false := by rfl) :
    PE X (.Call (.Attribute o name apos) (e :: es) [] cpos) (tBM X.K T r to t) := by
  intro pins s σ H Q I h
  refine wpAny_Call_method_late hbase hfew hline rfl (thn (ho pins s σ H _ I h) fun v s1 ⟨x, H1, I1, r1, ty, q1⟩ => ?_)
  obtain ⟨h1, h2⟩ := tyV_is I1 r1 ty
  refine ⟨T, id, pa, slot, hty, h1, h2, ?_⟩
  have hA := ha cpos pins s1 σ H1 _ I1 q1
  rw [hs] at hA ⊢
  refine Calls.callWith_builtin (by show (false || (backTo cpos (starEach es X.env)).any (·.1)) = false; rw [hplain] <;> rfl) (Calls.evalArgs_plain ?_)
  exact thn hA fun us s2 ⟨vs, H2, I2, r2, q2⟩ => hm pins s2 σ H2 x vs v us Q I2 r1 r2 q2
/- xs.append(e), list.index on a module's tuple .. are MtR facts of 06m -/
end
end L2

namespace L2
open PySem PySem.Spec PyProof.Rows

def MtM (X : Cx) (id : String) (r : V → List V → Hp → VK → Prop) : Prop :=
  ∀ (pins : List (Addr × Obj)) (s : Shared) (σ : St) (H : Hp) (x : V) (xs : List V) (v : Value) (us : List Value) (Q : VK), Inv X pins σ H s → RelV x v → Vals xs us → r x xs H Q →
    wpAny (model X.prog X.w) X.A (call (.builtin id) (v :: us)) (EP X pins σ Q) X.xe s

theorem Vals.one : ∀ {x : V} {us : List Value}, Vals [x] us → ∃ u, us = [u] ∧ RelV x u
  | _, _, .cons r .nil => ⟨_, rfl, r⟩
theorem Vals.two : ∀ {x y : V} {us : List Value}, Vals [x, y] us → ∃ u v, us = [u, v] ∧ RelV x u ∧ RelV y v
  | _, _, _, .cons r (.cons q .nil) => ⟨_, _, rfl, r, q⟩
theorem Vals.zero : ∀ {us : List Value}, Vals [] us → us = []
  | _, .nil => rfl
theorem Vals.eraseIdx : ∀ {xs : List V} {us : List Value} (i : Nat), Vals xs us → Vals (xs.eraseIdx i) (us.eraseIdx i)
  | _, _, _, .nil => .nil
  | _, _, 0, .cons _ t => t
  | _, _, i + 1, .cons r t => .cons r (Vals.eraseIdx i t)
theorem Vals.reverse {xs : List V} {us : List Value} (h : Vals xs us) : Vals xs.reverse us.reverse := by
  induction h with
  | nil => exact .nil
  | cons r t ih => rw [List.reverse_cons, List.reverse_cons]; exact Vals.append ih (.cons r .nil)
section
variable {X : Cx} {pins : List (Addr × Obj)} {σ : St} {H : Hp} {s : Shared} {l b : Addr} {xs ys zs : List V}

theorem Inv.lset {its its' : List Value} {n : Nat} {f : Array Value → Array Value} {t' : Nat} (I : Inv X pins σ H s) (hH : H l = some (.lst xs))
    (e : s.heap.get? l = some { cls := .type "list", data := .seq its.toArray n }) (hf : f its.toArray = its'.toArray) (hv : Vals ys its') (hz : ys.length ≤ sizeLine) :
    Inv X pins σ (upd H l (.lst ys)) { s with heap := s.heap.update l (Obj.mapSeq f), toks := t' } := by
  have q := PySem.IsL.update e f
  rw [hf] at q
  refine I.write (x := l) (e := l) (by rw [hH]; exact trivial) (.inl rfl) (fun b' u hb hu => (Heap.get?_update_other s.heap (Obj.mapSeq f) (Ne.symm hb)).trans hu) ⟨_, q⟩ ?_
  exact ⟨hz, its', _, hv, q⟩
theorem Inv.lnew {its : List Value} {t' : Nat} (I : Inv X pins σ H s) (hv : Vals ys its) (hz : ys.length ≤ sizeLine) :
    Inv X pins σ (upd H s.heap.objs.size (.lst ys)) { s with heap := s.heap.push { cls := .type "list", data := .seq its.toArray }, toks := t' } :=
  I.laid (fun _ _ q => Heap.get?_push_of_some _ q) (Nat.le_refl _) ⟨hz, its, 0, hv, Heap.get?_push_size _ rfl⟩
theorem Inv.fresh (I : Inv X pins σ H s) : H s.heap.objs.size = none := I.hok.fresh (Nat.le_refl _)
theorem Inv.lstM (I : Inv X pins σ H s) (hH : H l = some (.lst xs)) : xs.length ≤ sizeLine ∧ ∃ (its : List Value) (n : Nat), Vals xs its ∧ xs.length = its.length ∧ s.heap.get? l = some { cls := .type "list", data := .seq its.toArray n } := by
  obtain ⟨z, its, n, r, e⟩ := I.hok l _ hH
  exact ⟨z, its, n, r, r.length, e⟩

theorem notLongL {n : Nat} (h : n ≤ sizeLine) : Builtin.List.listTooLong n = false := by
  unfold Builtin.List.listTooLong
  exact decide_eq_false (by omega)
end

section
variable {X : Cx}

def rAppend : V → List V → Hp → VK → Prop := fun x vs H Q => ∃ l xs y, x = .ref l ∧ vs = [y] ∧ H l = some (.lst xs) ∧ xs.length < sizeLine ∧ Q .non (upd H l (.lst (xs ++ [y])))
theorem mt_append : MtM X "list.append" rAppend := by
  intro pins s σ H x vs v us Q I rx rv h
  obtain ⟨l, xs, y, rfl, rfl, hH, hz, q⟩ := h
  cases rx
  obtain ⟨u, rfl, ru⟩ := rv.one
  obtain ⟨z, its, n, r, hl, e⟩ := I.lstM hH
  refine call_meets F.slot_list_append ⟨_, e, rfl⟩ F.entry_list_append (F.args_list_append_2 _ _) (PySem.list_append l its.toArray n u (by rw [List.size_toArray]; omega)) ⟨e, ?_⟩
  refine ⟨.non, _, I.lset (its' := its ++ [u]) hH e (by simp) (r.append (.cons ru .nil)) ?_, rfl, q⟩
  rw [List.length_append, List.length_singleton]
  omega

def rExtend : V → List V → Hp → VK → Prop := fun x vs H Q => ∃ l b xs zs, x = .ref l ∧ vs = [.ref b] ∧ H l = some (.lst xs) ∧ H b = some (.lst zs) ∧ xs.length + zs.length ≤ sizeLine ∧ Q .non (upd H l (.lst (xs ++ zs)))
theorem mt_extend : MtM X "list.extend" rExtend := by
  intro pins s σ H x vs v us Q I rx rv h
  obtain ⟨l, b, xs, zs, rfl, rfl, hH, hB, hz, q⟩ := h
  cases rx
  obtain ⟨u, rfl, ru⟩ := rv.one
  cases ru
  obtain ⟨z, its, n, r, hl, e⟩ := I.lstM hH
  obtain ⟨z2, its2, n2, r2, hl2, e2⟩ := I.lstM hB
  have hsz : its.toArray.size + its2.toArray.size ≤ sizeLine := by rw [List.size_toArray, List.size_toArray]; omega
  have hlong : ¬ (!its.toArray.isEmpty && Builtin.List.listTooLong (its.toArray.size + its2.toArray.size)) = true := by
    rw [notLongL hsz, Bool.and_false]
    exact Bool.false_ne_true
  refine call_meets F.slot_list_extend ⟨_, e, rfl⟩ F.entry_list_extend (F.args_list_extend_2 _ _)
    (AutoSeq1.list_extend_list_list_0 l its.toArray n b its2.toArray n2 hlong (by rw [List.size_toArray]; omega) (by omega)) ⟨e, e2, ?_⟩
  refine ⟨.non, _, I.lset (its' := its ++ its2) hH e (by simp) (r.append r2) ?_, rfl, q⟩
  rw [List.length_append]
  omega

def rCat : R2 := fun x y H Q => ∃ l b xs zs, x = .ref l ∧ y = .ref b ∧ H l = some (.lst xs) ∧ H b = some (.lst zs) ∧ xs.length + zs.length ≤ sizeLine ∧ ∀ p, H p = none → Q (.ref p) (upd H p (.lst (xs ++ zs)))
theorem op_cat : OpR X (binaryOp .Add) rCat := by
  intro pins s σ H x y v u Q I rx ry h
  obtain ⟨l, b, xs, zs, rfl, rfl, hH, hB, hz, q⟩ := h
  cases rx
  cases ry
  obtain ⟨z, its, n, r, hl, e⟩ := I.lstM hH
  obtain ⟨z2, its2, n2, r2, hl2, e2⟩ := I.lstM hB
  refine PySem.P.add_list e e2 ?_ (by rw [List.size_toArray, List.size_toArray]; omega)
  have ea : its.toArray ++ its2.toArray = (its ++ its2).toArray := by simp
  rw [ea]
  exact ⟨.ref _, _, I.lnew (t' := s.toks) (r.append r2) (by rw [List.length_append]; omega), rfl, q _ I.fresh⟩
end

section
variable {prog : Program} {w : World} {A : Around} {E : Value → Shared → Prop} {s : Shared}
end

section
variable {X : Cx}
end
end L2

namespace Att
open PySem PySem.W PySem.Calls PyProof.Rows

theorem ints_of_wellAll {P : Params} {h : Heap} : ∀ (ns : List Int) (vs : List Value), WellAll P h vs (ns.map WData.int) → IntsAre vs ns := by
  intro ns
  induction ns with
  | nil =>
    intro vs w
    rw [List.map_nil] at w
    cases w
    exact .nil
  | cons n ns ih =>
    intro vs w
    rw [List.map_cons] at w
    cases w with
    | cons a b =>
      cases a
      exact .cons _ _ (ih _ b)

theorem script_of {l : OpenLaw} {n : Nat} (hn : l.most = some n) {P : Params} {h : Heap} {args : List WData} {vals : List Value}
    (hpre : l.row.toRowW.claim.pre args = true) (hwl : WellAll P h vals args) :
    ∃ a vs ns, vals = [Value.ref a] ∧ args = [WData.list (ns.map WData.int)] ∧ h.get? a = some { cls := .type "list", data := .seq vs.toArray } ∧ IntsAre vs ns ∧ ns.length ≤ n := by
  have hsh : WShape.hasAll [] args [.list .int] = true := (pre_splitW hpre).1
  have hc : l.pre.holds [] { args := args } = true := (pre_splitW hpre).2
  obtain ⟨d, r, rfl, h1, h2⟩ := hasAllW_cons hsh
  obtain rfl := hasAllW_nil h2
  obtain ⟨xs, rfl, h3⟩ := hasW_list h1
  obtain ⟨ns, rfl⟩ := items_int h3
  have hlen : ns.length ≤ n := by
    unfold OpenLaw.pre at hc
    have h4 : (WTm.not (.lt (.lit (.int (n : Int))) (.len (.arg 0)))).holds [] { args := [.list (ns.map .int)] } = true := by
      have h4 := (holds_andW hc).1
      rw [hn] at h4
      exact h4
    have h5 := condW_of h4 (w_not (w_lt w_lit (w_len_list (w_arg rfl))))
    rw [List.length_map] at h5
    refine Nat.le_of_not_lt fun q => ?_
    have q' : (n : Int) < ((ns.length : Nat) : Int) := by omega
    first
      | (rw [decide_eq_true q'] at h5; exact absurd h5 (by decide))
      | (simp at h5; omega)
  cases hwl with
  | cons w1 w2 =>
    cases w2
    cases w1 with
    | list ho hall => exact ⟨_, _, ns, rfl, rfl, ho, ints_of_wellAll ns _ hall, hlen⟩

theorem post_true (l : OpenLaw) (args : List WData) : l.row.toRowW.claim.post args (.bool true) args = true :=
  postW_of (r := l.row.toRowW) (X := (true == true))
    (show WShape.has [] (.bool true) .bool = true by first | rfl | decide | simp [WShape.has, WShape.arms, WShape.armsAll])
    (show (WTm.eq .res (.lit (.bool true))).value [] { args := args, res := some (.bool true), after := args } = some (.bool (true == true)) from w_eq_bool (w_res rfl) w_lit) rfl

/-- the same from a codeAny of the CALL (for a layer whose function contracts speak of calls) -/
theorem attach_call {l : OpenLaw} {n : Nat} {q : Program} {loose : List Str} {XP : (Str → Option Value) → Heap → Prop} {YP : World → Heap → Prop} {d : DefRec}
    (hn : l.most = some n) (hdf : d.params.defaults = [])
    (call : ∀ (w : World) (s₀ s₁ : Shared) (mg mb : Str → Option Value) (fa : Addr) (o : Obj) (pm cd doc : Value) (a : Addr) (vs : List Value) (ns : List Int),
      Ground q loose [] XP w s₀ mg mb s₁.heap → YP w s₁.heap →
      s₁.heap.get? fa = some o → o.data = .func (docDef d.name d.params d.body d.scope pm cd doc) → s₁.heap.CodeRec cd d.name → mg d.name = some (.ref fa) →
      s₁.heap.get? a = some { cls := .type "list", data := .seq vs.toArray } → IntsAre vs ns → ns.length ≤ n → s₁.gens = #[] →
      codeAny (model l.prog w) callerA (.call (.ref fa) ⟨[.ref a], []⟩) (fun r s' => r = .ok (.ret (.bool true)) ∧ OldK s₁.heap s'.heap ∧ s'.os = s₁.os ∧ AllBare s'.gens) s₁) :
    WalkO q loose XP YP l.row.toRowW d [] (fun f vs => PySem.call f vs) := by
  intro w s₀ s₁ mg mb G Y fa o pm cd doc dV kV ho hd hcd hD hmg hg args vals as hpre hlay hrd hwl hlo
  obtain rfl : dV = .none := Dflts.none hD hdf
  obtain rfl : kV = .none := Dflts.noKw hD
  obtain ⟨a, vs, ns, rfl, rfl, hobj, hints, hlen⟩ := script_of hn hpre hwl
  refine enter_call (codeAny_mono (call w s₀ s₁ mg mb fa o pm cd doc a vs ns G Y ho (fd_plain hd) hcd hmg hobj hints hlen hg) fun r s' hq => ?_)
  obtain ⟨rfl, h2, h3, h4⟩ := hq
  exact ⟨.inl ⟨.bool true, .bool true, [], rfl, fun _ => rfl, .bool true, post_true l _, fun _ => ⟨List.Pairwise.nil, fun _ hm => (nomatch hm)⟩⟩, h2, h3, h4⟩

section
variable {prog : Program} {w : World} {A : Around} {E : Value → Shared → Prop} {s : Shared} {K : Frag}

end
end Att

namespace L2
open PySem PySem.Spec PyProof.Rows

theorem vals_ints : ∀ {vs : List Value} {ns : List Int}, IntsAre vs ns → Vals (ns.map V.int) vs
  | _, _, .nil => .nil
  | _, _, .cons n t h => .cons ⟨t, rfl⟩ (vals_ints h)

/-- nothing is tracked but the script, known to the object (or it is an object of the module) -/
def Only (H : Hp) : Prop := ∀ b, H b = none ∨ ∃ o xs, H b = some (.frz o (.lst xs))

/-- THE HEAD: the law's promise, at the heap behind the top. F, the promise of the law's def, may use that base is part of the heap (so K.In base, base.Ns mainGlobals mg stand in Mod) -/
theorem law_call {P : Program} {w : World} {K : PySem.W.Frag} {mg mb : Str → Option Value} {CX : CXT} {k : Nat} {fa a : Addr} {fd : FuncData} {x : Str} {sp : Sp} {s₁ : Shared} {vs : List Value} {ns : List Int}
    (KX : K.In s₁.heap) (hns : s₁.heap.Ns mainGlobals mg) (hb : s₁.heap.Ns builtinsNs mb) (hbb : ∀ x : Str, x ≠ "__name__" → mb x = bootBuiltins x) (hlim : s₁.heap.NoLimit) (hg : s₁.gens = #[])
    (ha : s₁.heap.get? a = some { cls := .type "list", data := .seq vs.toArray }) (hi : IntsAre vs ns) (hl : ns.length ≤ sizeLine) (hr : Room k callerA)
    (F : ∀ base : Heap, K.In base → base.Ns mainGlobals mg → FnOk P w K mg base CX k fa fd [x] sp) (hbind : ∀ (s : Shared) (u : Value), BindsTo s fd ⟨[u], []⟩ [(x, u)])
    (hsp : ∀ H : Hp, Only H → SqL K H a (ns.map V.int) → sp [.ref a] H (fun v _ => v = .bl true) fun _ _ _ => False)
    (hCX : ∀ H e s', CX [] H s₁ (fun _ _ _ => False) e s' → False) :
    codeAny (model P w) callerA (.call (.ref fa) ⟨[.ref a], []⟩) (fun r s' => r = .ok (.ret (.bool true)) ∧ OldK s₁.heap s'.heap ∧ s'.os = s₁.os ∧ AllBare s'.gens) s₁ := by
  have rv := vals_ints hi
  have lenV := hi.length
  -- from an abstract heap in which nothing but the script may be tracked
  have core : ∀ H : Hp, Only H → SqL K H a (ns.map V.int) → HOk P w H s₁.heap → (∀ b, H b ≠ none → b = a) → (H a ≠ none → K.lookup a = none) →
      codeAny (model P w) callerA (.call (.ref fa) ⟨[.ref a], []⟩) (fun r s' => r = .ok (.ret (.bool true)) ∧ OldK s₁.heap s'.heap ∧ s'.os = s₁.os ∧ AllBare s'.gens) s₁ := by
    intro H hO hS hok hA hK
    have base_of : ∀ {b : Addr} {o : Obj}, s₁.heap.get? b = some o → H b = none → (hidT s₁.heap H).get? b = some o := fun e n => hidT_get e n
    have noA : ∀ {b : Addr} {o : Obj} {es : Array DictEntry} {ep : Nat}, s₁.heap.get? b = some o → o.data = .dict es ep → H b = none := fun {b o es ep} e d => by
      cases q : H b with
      | none => rfl
      | some u =>
        have e' : b = a := hA b (by rw [q]; simp)
        subst e'
        rw [ha] at e; cases e
        have d' : Data.seq vs.toArray _ = Data.dict es ep := d
        cases d'
    have nsK : ∀ {b : Addr} {m : Str → Option Value}, s₁.heap.Ns b m → (hidT s₁.heap H).Ns b m := fun {b m} ⟨o, es, ep, e, d, r⟩ => ⟨o, es, ep, base_of e (noA e d), d, r⟩
    have hKb : K.In (hidT s₁.heap H) := fun b o e => base_of (KX b o e) (by
      cases q : H b with
      | none => rfl
      | some u =>
        have e' : b = a := hA b (by rw [q]; simp)
        subst e'
        rw [hK (by rw [q]; simp)] at e; cases e)
    have hM : Mod K mg (hidT s₁.heap H) := ⟨hKb, nsK hns, ⟨mb, nsK hb, hbb⟩, let ⟨mc, h1, h2⟩ := hlim; ⟨mc, nsK h1, h2⟩⟩
    have e0 : Env0 P w K mg (hidT s₁.heap H) callerA [] s₁ H := ⟨rfl, hM, fun b o e => of_hidT e, Nat.le_of_eq (hidT_size _ _), trivial, fun b hb => absurd (show b ∈ ([] : List Addr) from hb) (by simp), hok, .of_eq hg⟩
    refine codeAny_mono ((F _ hKb (nsK hns)).run callerA [] s₁ H ⟨[.ref a], []⟩ [.ref a] [.ref a] _ _ hr e0 (hbind s₁ (.ref a)) (.cons rfl .nil) (hsp H hO hS)) fun r s' h => ?_
    cases r with
    | error e => exact (hCX H e s' h).elim
    | ok fl =>
      cases fl with
      | next => exact False.elim h
      | brk => exact False.elim h
      | cont => exact False.elim h
      | ret u =>
        obtain ⟨v, H', os, bare, un, hok', r', q⟩ := h
        have q' : v = .bl true := q
        subst q'
        obtain rfl : u = Value.bool true := r'
        refine ⟨rfl, OldK.of_keep fun b o e => ?_, os, bare⟩
        cases q : H b with
        | none => exact un.keep b o e q (by intro z; exact absurd (show b ∈ ([] : List Addr) from z) (by simp)) (by simp)
        | some u =>
          rcases hO b with z | ⟨ob, xs, z⟩
          · rw [q] at z; cases z
          · have z2 := un.frzs b ob _ z
            obtain ⟨e1, _⟩ := hok b _ z
            obtain ⟨e2, _⟩ := hok' b _ z2
            rw [e] at e1; cases e1
            exact e2
  cases hk : K.lookup a with
  | some o =>
    -- the script is one of the module's own objects
    have e := KX a o hk
    rw [ha] at e
    cases e
    refine core (fun _ => none) (fun _ => .inl rfl) (.inr ⟨_, vs.toArray, _, hk, rfl, rfl, rfl, by rw [List.size_toArray, lenV]; exact hl, by simpa using rv⟩) (fun b u z => by have z' : (none : Option HO) = some u := z; cases z') (fun b z => absurd rfl z) fun z => absurd rfl z
  | none =>
    refine core (fun b => if b = a then some (.frz { cls := .type "list", data := .seq vs.toArray } (.lst (ns.map V.int))) else none) (fun b => ?_) (.inl (.inr ⟨{ cls := .type "list", data := .seq vs.toArray }, if_pos rfl⟩)) (fun b u z => ?_) (fun b z => ?_) fun _ => hk
    · by_cases hb : b = a
      · exact .inr ⟨_, _, if_pos hb⟩
      · exact .inl (if_neg hb)
    · by_cases hb : b = a
      · have z' := (if_pos hb).symm.trans z
        cases z'
        subst hb
        exact ⟨ha, by rw [List.length_map]; exact hl, vs, _, rv, ha⟩
      · have z' := (if_neg hb).symm.trans z
        cases z'
    · by_cases hb : b = a
      · exact hb
      · exact absurd (if_neg hb) z
end L2

namespace L2
open PySem PySem.Spec PyProof.Rows

abbrev KOf {K : PySem.W.Frag} {h : Heap} (_ : K.In h) : PySem.W.Frag := K

/-- the goal that k_head leaves (case hc), from the law's promise. F gives the function object fd (K's own) once, then the promise over every base -/
theorem walk_of {l : PySem.W.OpenLaw} {n k : Nat} {q : Program} {loose : List Str} {XP : (Str → Option Value) → Heap → Prop} {YP : World → Heap → Prop} {d : DefRec} {K : Params → PySem.W.Frag} {CX : World → CXT} {sp : World → Sp} {x : Str}
    (hn : l.most = some n) (hn2 : n ≤ sizeLine) (hdf : d.params.defaults = []) (hr : Room k callerA)
    (hY : ∀ (w : World) (h : Heap), YP w h → (K w.params).In h)
    (F : ∀ (w : World) (mg : Str → Option Value) (fa : Addr) (h : Heap), (K w.params).In h → h.Ns mainGlobals mg → mg d.name = some (.ref fa) →
      ∃ fd : FuncData, (∀ (s : Shared) (u : Value), BindsTo s fd ⟨[u], []⟩ [(x, u)]) ∧
        ∀ base : Heap, (K w.params).In base → base.Ns mainGlobals mg → FnOk l.prog w (K w.params) mg base (CX w) k fa fd [x] (sp w))
    (hsp : ∀ (w : World) (H : Hp) (a : Addr) (ns : List Int), ns.length ≤ n → Only H → SqL (K w.params) H a (ns.map V.int) → sp w [.ref a] H (fun v _ => v = .bl true) fun _ _ _ => False)
    (hCX : ∀ (w : World) (H : Hp) (s : Shared) (e : Value) (s' : Shared), CX w [] H s (fun _ _ _ => False) e s' → False) :
    PySem.W.WalkO q loose XP YP l.row.toRowW d [] (fun f vs => PySem.call f vs) := by
  refine Att.attach_call hn hdf fun w s₀ s₁ mg mb fa o pm cd doc a vs ns G Y ho hd hcd hmg hobj hints hlen hg => ?_
  have KX := hY w _ Y
  obtain ⟨fd, hb, hF⟩ := F w mg fa _ KX G.T.g hmg
  exact law_call KX G.T.g G.T.b G.T.builtins G.T.nolimit hg hobj hints (Nat.le_trans hlen hn2) hr hF hb (fun H hO hS => hsp w H a ns hlen hO hS) fun H e s' => hCX w H s₁ e s'
end L2

/- THE LAST THEOREM (shape; LID, My.* are yours):
   My.Adr: a structure of the addresses that your layer names (classes, functions); My.Txt K t: a structure (Prop) of the equations over K;
   My.txt_mk : {K} {implicit addresses ..} (e1 : nsIn K mainGlobals "law" = some (some (.ref f))) (e2 : K.lookup f = some ⟨oc, od, .func (fnOf "law" "law" params body scope dV kV doc pm an cdv ct), sl⟩) (e3 : codeIn K cdv "law" = true) .. : ∃ t, My.Txt K t

set_option maxRecDepth 100000 in
set_option maxHeartbeats 0 in
theorem PySem.Challenge.cw_LID_holds : PySem.Challenge.rw_LID.Holds := by
  w_on; o_law; k_head; (case hw => w_witness2)
  k_fill
  refine L2.walk_of (l := PySem.Challenge.rw_LID) (n := 63) (k := 40) (x := "script") (CX := fun w => ..) (sp := fun _ => My.sp_law) rfl (by decide) rfl ⟨rfl, by decide, by decide⟩ (fun w h Y => PySem.W.kIn_of Y) ?F ?S ?C
  case F =>
    intro w mg fa h KX G hmg
    have T : ∃ t, My.Txt (L2.KOf KX) t := by
      dsimp only [L2.KOf]                          -- K must stand as «<heap const> w.params» for k_is
      refine' My.txt_mk ?e1 ?e2 ?e3 ..
      (case e1 => PySem.W.k_is)                    -- in the order: a name -> its address -> its object -> its parts
      (case e2 => PySem.W.k_is)
      ..
    obtain ⟨t, T⟩ := T
    have e0 := hmg.symm.trans (PySem.W.mg_of KX G T.law)
    cases e0                                       -- fa is the law's own address
    exact ⟨_, fun s u => .of_eq rfl, fun base kb nb => My.law_fn T kb nb⟩     -- if «.of_eq rfl» comes too early: refine' ⟨_, ?b, fun base kb nb => My.law_fn T kb nb⟩; exact fun s u => .of_eq rfl
  case S => exact fun w H a ns hl hO hS => ..
  case C => exact ..
(the tactic k_is has no namespace: write k_is) -/

namespace L2
open PySem PySem.Spec PyProof.Rows

def defArgs (s : Stmt) : Arguments := match s with
  | .FunctionDef _ a _ _ _ _ _ _ _ _ => a
  | _ => { posonlyargs := [], args := [], vararg := none, kwonlyargs := [], kw_defaults := [], kwarg := none, defaults := [] }
def defBody (s : Stmt) : List Stmt := match s with
  | .FunctionDef _ _ b _ _ _ _ _ _ _ => b
  | _ => []
def defScope (s : Stmt) : Scope := match s with
  | .FunctionDef _ _ _ _ _ _ sc _ _ _ => sc
  | _ => { kind := .function, names := [], isGenerator := false, isCoroutine := false }

abbrev CX0 : CXT := fun _ _ _ _ _ _ => False
abbrev E0 : XK := fun _ _ _ => False
theorem pass0 {X : Cx} : Passes CX0 X E0 := fun _ _ _ _ _ _ _ h => h.elim

structure Fun (K : PySem.W.Frag) (x qual : Str) (st : Stmt) (f : Addr) (fd : FuncData) : Prop where
  ex : ∃ (oc : Value) (od : Option Addr) (kV doc pm : Value) (an : Option Addr) (cdv ct : Value) (osl : Array (Option Value)),
    fd = PySem.W.fnOf x qual (defArgs st) (defBody st) (defScope st) .none kV doc pm an cdv ct ∧ K.lookup f = some ⟨oc, od, .func fd, osl⟩ ∧ PySem.W.codeIn K cdv qual = true
  kp : PySem.W.keepIn K (.ref f) = true
section
variable {P : Program} {w : World} {K : PySem.W.Frag} {mg : Str → Option Value} {base : Heap}
/-- THE RULE for a def: its body as a term of rules, and the reading of that term -/
theorem Fun.ok {x qual : Str} {st : Stmt} {f : Addr} {fd : FuncData} {N ps : List Str} {k : Nat} {sp : Sp} (F : Fun K x qual st f fd) (S : FnScope N ps (defScope st)) (len : ∀ vs H Q E, sp vs H Q E → vs.length = ps.length)
    (hbody : ∀ (cdv : Value) (A : Around) (outer : List Env) (s : Shared) (H : Hp) (vs : List V) (Q : VK) (E : XK), Room k (A.deeper (envOfC qual (defScope st) s.heap.objs.size f cdv)) → sp vs H Q E →
      ∃ t, PSs (cxOf CX0 P w K mg base N qual (defScope st) f cdv A outer s H E).nox (defBody st) t ∧ t { nx := fun _ H' => Q .non H', rt := Q } (start N vs) H) : FnOk P w K mg base CX0 (k + 1) f fd ps sp := by
  obtain ⟨oc, od, kV, doc, pm, an, cdv, ct, osl, rfl, lk, hcd⟩ := F.ex
  refine fn_of lk hcd S len fun A outer s H vs Q E hr hsp => ?_
  obtain ⟨t, h, q⟩ := hbody cdv A outer s H vs Q E hr hsp
  exact ⟨t, h.nox, q⟩
/-- how its arguments bind (no defaults): h is «fun _ _ _ _ _ _ us hl => match us, hl with | [_, _], _ => rfl», one _ a parameter -/
theorem Fun.binds {x qual : Str} {st : Stmt} {f : Addr} {fd : FuncData} {ps : List Str} (F : Fun K x qual st f fd)
    (h : ∀ (kV doc pm : Value) (an : Option Addr) (cdv ct : Value) (us : List Value), us.length = ps.length → bindArgs (PySem.W.fnOf x qual (defArgs st) (defBody st) (defScope st) .none kV doc pm an cdv ct) ⟨us, []⟩ = pure (ps.zip us)) : Binds K fd ps [] := by
  obtain ⟨oc, od, kV, doc, pm, an, cdv, ct, osl, rfl, lk, hcd⟩ := F.ex
  exact .all (h kV doc pm an cdv ct)
theorem fun_mk {x qual : Str} {st : Stmt} {f : Addr} {oc : Value} {od an : Option Addr} {osl : Array (Option Value)} {kV doc pm cdv ct : Value} (l : K.lookup f = some ⟨oc, od, .func (PySem.W.fnOf x qual (defArgs st) (defBody st) (defScope st) .none kV doc pm an cdv ct), osl⟩)
    (c : PySem.W.codeIn K cdv qual = true) (k : PySem.W.keepIn K (.ref f) = true) : Fun K x qual st f (PySem.W.fnOf x qual (defArgs st) (defBody st) (defScope st) .none kV doc pm an cdv ct) := ⟨⟨oc, od, kV, doc, pm, an, cdv, ct, osl, rfl, l, c⟩, k⟩
end
theorem small1000 {n : Nat} (h : n ≤ 1000) : n < sizeLine := Nat.lt_of_le_of_lt h (by decide)

section
variable {X : Cx}
theorem pv (i : Nat) {x : Str} {pos : Pos} (hN : X.N[i]? = some x := by rfl) (hv : Vis X.env.scope x := by first | exact Or.inl rfl | exact Or.inr (Or.inl rfl) | exact Or.inr (Or.inr rfl)) (hd : (x == ("__debug__" : Str)) = false := by decide)
    (hcd : (x == ("__classdict__" : Str)) = false := by decide) : PE X (.Name x pos) (tVar i) := pe_var hN hv hd hcd
end

theorem iteF {A B : Prop} (h : B) : if false = true then A else B := by
  rw [if_neg Bool.false_ne_true]
  exact h
theorem iteT {A B : Prop} (h : A) : if true = true then A else B := by
  rw [if_pos rfl]
  exact h
/-- all that was tracked is as it was -/
def Same (H H' : Hp) : Prop := ∀ b o, H b = some o → H' b = some o
theorem Same.refl (H : Hp) : Same H H := fun _ _ h => h
theorem Same.trans {H H1 H2 : Hp} (a : Same H H1) (b : Same H1 H2) : Same H H2 := fun c o h => b c o (a c o h)
theorem Same.free {H H' : Hp} (e : Same H H') {l : Addr} (h : H' l = Option.none) : H l = Option.none := by
  cases q : H l with
  | none => rfl
  | some o =>
    rw [e l o q] at h
    cases h
theorem Same.seq {K : PySem.W.Frag} {H H' : Hp} {a : Addr} {xs : List V} (e : Same H H') (h : SqL K H a xs) : SqL K H' a xs := by
  rcases h with (h | ⟨o, h⟩) | h
  · exact .inl (.inl (e _ _ h))
  · exact .inl (.inr ⟨o, e _ _ h⟩)
  · exact .inr h

end L2

namespace L2
open PySem PySem.Spec PyProof.Rows

def clOf (env : Env) : List (Str × NameKind) → List (Str × Addr) → List (Str × Addr)
  | [], acc => acc
  | (n, k) :: r, acc => if k == .free then clOf env r ((n, (env.cells.lookup n).getD 0) :: acc) else clOf env r acc
theorem clos_go {env : Env} : ∀ (names : List (Str × NameKind)) (acc : List (Str × Addr)), (∀ y ∈ names, y.2 = .free → ∃ c, env.cells.lookup y.1 = some c) →
    (forIn (m := Sem) names acc fun (x : Str × NameKind) cs => (if (x.2 == .free) = true then do let c ← cellOf env x.1; pure (ForInStep.yield ((x.1, c) :: cs)) else pure (ForInStep.yield cs))) = pure (clOf env names acc)
  | [], acc, _ => rfl
  | (n, k) :: r, acc, h => by
    have hr : ∀ y ∈ r, y.2 = .free → ∃ c, env.cells.lookup y.1 = some c := fun y hy => h y (List.mem_cons_of_mem _ hy)
    rw [List.forIn_cons]
    by_cases e : k = .free
    · subst e
      obtain ⟨c, hc⟩ := h (n, .free) List.mem_cons_self rfl
      have hc' : env.cells.lookup n = some c := hc
      have e1 : cellOf env n = pure c := by unfold cellOf; rw [hc']
      show ((if (NameKind.free == NameKind.free) = true then _ else _) >>= _) = pure (if (NameKind.free == NameKind.free) = true then _ else _)
      rw [if_pos (by rfl), if_pos (by rfl), e1, hc']
      exact clos_go r _ hr
    · have e' : (k == NameKind.free) = false := by simpa using e
      show ((if (k == NameKind.free) = true then _ else _) >>= _) = pure (if (k == NameKind.free) = true then _ else _)
      rw [e', if_neg (by simp), if_neg (by simp)]
      exact clos_go r _ hr
theorem closureFor_eq {scope : Scope} {env : Env} (h : ∀ y ∈ scope.names, y.2 = .free → ∃ c, env.cells.lookup y.1 = some c) : closureFor scope env = pure (clOf env scope.names []) := by
  have q := clos_go scope.names [] h
  unfold closureFor
  show (forIn (m := Sem) scope.names [] _ >>= fun r => pure r) = _
  refine Eq.trans ?_ q
  exact bind_pure _
theorem clOf_mem {env : Env} : ∀ {names : List (Str × NameKind)} {acc : List (Str × Addr)} {x : Str} {c : Addr}, (∀ y ∈ names, y.2 = .free → ∃ c, env.cells.lookup y.1 = some c) → (x, c) ∈ clOf env names acc → (x, c) ∈ acc ∨ env.cells.lookup x = some c
  | [], acc, x, c, _, m => .inl m
  | (n, k) :: r, acc, x, c, h, m => by
    have hr : ∀ y ∈ r, y.2 = .free → ∃ c, env.cells.lookup y.1 = some c := fun y hy => h y (List.mem_cons_of_mem _ hy)
    by_cases e : k = .free
    · subst e
      obtain ⟨d, hd⟩ := h (n, .free) List.mem_cons_self rfl
      have hd' : env.cells.lookup n = some d := hd
      have m' : (x, c) ∈ clOf env r ((n, (env.cells.lookup n).getD 0) :: acc) := m
      rcases clOf_mem hr m' with q | q
      · rcases List.mem_cons.mp q with q | q
        · rw [hd'] at q
          injection q with q1 q2
          subst q1 q2
          exact .inr hd'
        · exact .inl q
      · exact .inr q
    · have e' : (k == NameKind.free) = false := by simpa using e
      have m' : (x, c) ∈ (if (k == NameKind.free) = true then clOf env r ((n, (env.cells.lookup n).getD 0) :: acc) else clOf env r acc) := m
      rw [e', if_neg (by simp)] at m'
      exact clOf_mem hr m'
theorem clOf_has {env : Env} : ∀ {names : List (Str × NameKind)} {acc : List (Str × Addr)} {x : Str}, ((x, NameKind.free) ∈ names ∨ ∃ c, (x, c) ∈ acc) → ∃ c, (x, c) ∈ clOf env names acc
  | [], acc, x, h => by
    rcases h with h | h
    · simp at h
    · exact h
  | (n, k) :: r, acc, x, h => by
    by_cases e : k = .free
    · subst e
      show ∃ c, (x, c) ∈ clOf env r ((n, (env.cells.lookup n).getD 0) :: acc)
      refine clOf_has ?_
      rcases h with h | ⟨c, h⟩
      · rcases List.mem_cons.mp h with h | h
        · injection h with h1 _
          subst h1
          exact .inr ⟨_, List.mem_cons_self⟩
        · exact .inl h
      · exact .inr ⟨c, List.mem_cons_of_mem _ h⟩
    · have e' : (k == NameKind.free) = false := by simpa using e
      show ∃ c, (x, c) ∈ (if (k == NameKind.free) = true then clOf env r ((n, (env.cells.lookup n).getD 0) :: acc) else clOf env r acc)
      rw [e', if_neg (by simp)]
      refine clOf_has ?_
      rcases h with h | h
      · rcases List.mem_cons.mp h with h | h
        · injection h with _ h2
          exact absurd h2.symm e
        · exact .inl h
      · exact .inr h
theorem lookup_of_mem {β : Type} : ∀ {l : List (Str × β)} {x : Str} {c : β}, (x, c) ∈ l → ∃ d, l.lookup x = some d
  | (n, k) :: r, x, c, h => by
    by_cases e : x = n
    · subst e; exact ⟨k, by simp⟩
    · rcases List.mem_cons.mp h with q | q
      · injection q with q1 _; exact absurd q1 e
      · obtain ⟨d, hd⟩ := lookup_of_mem q
        exact ⟨d, by rw [List.lookup_cons]; have : (x == n) = false := by simpa using e
                     rw [this]; exact hd⟩

/-- the tests of a comprehension: none or one -/
def PTs (X : Cx) (cs : List Expr) (t : TT) : Prop :=
  ∀ (pins : List (Addr × Obj)) (s : Shared) (σ : St) (H : Hp) (Q : Bool → Hp → Prop), Inv X pins σ H s → t σ H Q →
    wpAny (model X.prog X.w) X.A (forIn cs true fun c r => if r = true then do let ok ← isTrue c X.env (eval c X.env); pure (ForInStep.yield ok) else pure (ForInStep.yield r)) (TP X pins σ Q) X.xe s
def tYes : TT := fun _ H Q => Q true H
theorem pts_nil {X : Cx} : PTs X [] tYes := fun pins s σ H Q I h => wpAny_tests_nil ⟨H, I, h⟩
theorem pts_one {X : Cx} {c : Expr} {t : TT} (h : PT X c t) : PTs X [c] t := fun pins s σ H Q I q => wpAny_tests_one (h pins s σ H Q I q)

def st0 (n : Nat) (fr : List (Str × Nat)) (σ : St) : St := List.replicate n none ++ fr.map fun p => (σ[p.2]?).join
def tComp (n : Nat) (fr : List (Str × Nat)) (wi : TI) (g : TG) (tc : TT) (te : TE) : TE := fun σ H Q => wi σ H fun J H1 => ∀ acc, H1 acc = none →
  ∃ W : Nat → Nat → St → Hp → Prop, (∃ m, W 0 m (st0 n fr σ) (upd H1 acc (.lst []))) ∧ ∀ i m σ' H', W i m σ' H' →
    (J.stop i H' ∧ Q (.ref acc) H') ∨ (J.go i H' ∧ ∃ Nx : St → Hp → Prop, (∀ σ2 H2, Nx σ2 H2 → ∃ m', m' < m ∧ W (i + 1) m' σ2 H2) ∧
      ∀ x H2, J.yld i H' x H2 → g x σ' H2 fun σ2 H3 => tc σ2 H3 fun b H4 => if b = true then te σ2 H4 fun y H5 => ∃ ys, H5 acc = some (.lst ys) ∧ ys.length < sizeLine ∧ Nx σ2 (upd H5 acc (.lst (ys ++ [y]))) else Nx σ2 H4)

section
variable {prog : Program} {w : World} {A : Around} {R : Result → Shared → Prop} {s : Shared}
theorem compLoop_go {elt target iter : Expr} {ifs : List Expr} {scope : Scope} {pos : Pos} {it acc : Value} {env : Env} (I : Nat → Shared → Prop)
    (turn : ∀ n s, I n s → wpAny (model prog w) A (pyNext it) (fun r s₁ => match r with
      | none => R (.ok .next) s₁
      | some v => wpAny (model prog w) A (letOwnedTupleGo target it v) (fun _ s₂ => wpAny (model prog w) A (assign target env v) (fun _ s₂ =>
          wpAny (model prog w) A (forIn ifs true fun c r => if r = true then do let ok ← isTrue c env (eval c env); pure (ForInStep.yield ok) else pure (ForInStep.yield r)) (fun ok s₃ =>
            if ok = true then wpAny (model prog w) A (eval elt env) (fun x s₄ =>
              wpAny (model prog w) A (call (.builtin "list.append") [acc, x]) (fun _ s₅ => ∃ m, m < n ∧ I m s₅) (fun _ _ => False) s₄) (fun _ _ => False) s₃
            else ∃ m, m < n ∧ I m s₃) (fun _ _ => False) s₂) (fun _ _ => False) s₂) (fun _ _ => False) s₁) (fun _ _ => False) s)
    (n : Nat) (h : I n s) :
    codeAny (model prog w) A (.compLoop (.ListComp elt [⟨target, iter, ifs, 0⟩] scope pos) 0 it acc env) R s := by
  refine codeAny_loop rfl I (fun n s hI => ?_) n h
  show wpAny _ A ((compTurn (.ListComp elt [⟨target, iter, ifs, 0⟩] scope pos) 0 it acc env).onRaise (fun x => do noteFrame x env; theTreesLotGoes x)) _ _ s
  refine wpAny_noted ?_
  rw [compTurn_list]
  refine wpAny_bind (wpAny_standAt (wpAny_bind (wpAny_mono (turn n s hI) (fun r s₁ h₁ => ?_) fun _ _ h' => h'.elim)))
  cases r with
  | none => exact wpAny_pure h₁
  | some v =>
    refine wpAny_bind (wpAny_mono h₁ (fun _ s₂ h₂ => ?_) fun _ _ h' => h'.elim)
    refine wpAny_bind (wpAny_mono h₂ (fun _ s₂ h₂ => wpAny_bind (wpAny_mono h₂ (fun ok s₃ h₃ => ?_) fun _ _ h' => h'.elim)) fun _ _ h' => h'.elim)
    cases ok with
    | false => exact wpAny_pure ⟨rfl, h₃⟩
    | true =>
      exact wpAny_bind (wpAny_bind (wpAny_mono h₃ (fun x s₄ h₄ => wpAny_bind (wpAny_mono h₄ (fun _ s₅ h₅ => wpAny_pure (wpAny_pure ⟨rfl, h₅⟩)) fun _ _ h' => h'.elim)) fun _ _ h' => h'.elim))
end

theorem HOk.sameBut {P : Program} {w : World} {H : Hp} {h h' : Heap} {C : Addr} (x : HOk P w H h) (n : H C = none) (sb : Heap.SameBut C h h') : HOk P w H h' := fun a o e =>
  (x a o e).stay (fun b u q z => (sb.2 b (by
    rcases q with q | q
    · subst q; exact ne_of_none e n
    · exact ne_of_none q n)).trans z) (fun _ q => q) fun _ _ q => q
theorem relab_kind {env : Env} : ∀ {names : List (Str × NameKind)} {x : Str}, names.lookup x = some .free →
    (((names.map fun (n, k) => if (k == NameKind.free && env.scope.kind == .function && env.kindOf n == some .cell) then (n, NameKind.cell) else (n, k)).lookup x = some .cell) ∨
     ((names.map fun (n, k) => if (k == NameKind.free && env.scope.kind == .function && env.kindOf n == some .cell) then (n, NameKind.cell) else (n, k)).lookup x = some .free))
  | [], x, h => by simp at h
  | (n, k) :: r, x, h => by
    have e1 : ((n, k) :: r).map (fun (n, k) => if (k == NameKind.free && env.scope.kind == .function && env.kindOf n == some .cell) = true then (n, NameKind.cell) else (n, k)) =
      (if (k == NameKind.free && env.scope.kind == .function && env.kindOf n == some .cell) = true then (n, NameKind.cell) else (n, k)) :: r.map (fun (n, k) => if (k == NameKind.free && env.scope.kind == .function && env.kindOf n == some .cell) = true then (n, NameKind.cell) else (n, k)) := rfl
    rw [e1]
    cases hx : x == n with
    | true =>
      simp only [List.lookup_cons, hx] at h
      have hk : k = .free := Option.some.inj h
      by_cases c : (k == NameKind.free && env.scope.kind == .function && env.kindOf n == some .cell) = true
      · rw [if_pos c]; left; simp [List.lookup_cons, hx]
      · rw [if_neg c]; right; simp [List.lookup_cons, hx, hk]
    | false =>
      simp only [List.lookup_cons, hx] at h
      have q := relab_kind (env := env) h
      by_cases c : (k == NameKind.free && env.scope.kind == .function && env.kindOf n == some .cell) = true
      · rw [if_pos c]; simpa only [List.lookup_cons, hx] using q
      · rw [if_neg c]; simpa only [List.lookup_cons, hx] using q
section
variable {X : Cx}
theorem st0_get {n : Nat} {fr : List (Str × Nat)} {own : List Str} {σ : St} {i : Nat} {x : Str} {v : V} (hn : own.length = n) (h1 : (own ++ fr.map (·.1))[i]? = some x) (h2 : (st0 n fr σ)[i]? = some (some v)) :
    ∃ p ∈ fr, p.1 = x ∧ σ[p.2]? = some (some v) := by
  unfold st0 at h2
  by_cases hi : i < n
  · rw [List.getElem?_append_left (by simpa using hi), List.getElem?_replicate, if_pos hi] at h2
    cases h2
  · rw [List.getElem?_append_right (by simpa using hi)] at h2
    rw [List.getElem?_append_right (by omega)] at h1
    rw [List.length_replicate, List.getElem?_map] at h2
    rw [hn, List.getElem?_map] at h1
    cases e : fr[i - n]? with
    | none => rw [e] at h1; cases h1
    | some p =>
      rw [e] at h1 h2
      refine ⟨p, List.mem_of_getElem? e, Option.some.inj h1, ?_⟩
      have h3 : (σ[p.2]?).join = some v := Option.some.inj h2
      cases q : σ[p.2]? with
      | none => rw [q] at h3; cases h3
      | some z => rw [q] at h3; exact congrArg some h3
end
end L2

namespace L2
open PySem PySem.Spec PyProof.Rows
open AutoSeq1 (wpAny_loadPart')

section
variable {prog : Program} {w : World} {A : Around} {E : Value → Shared → Prop} {s : Shared}
theorem nxT_item {it t : Addr} {i : Nat} {its : Array Value} {x : Value} {Q : Value → Shared → Prop} (hit : s.heap.IsTupleIter it t i) (ht : s.heap.IsTuple t its) (hx : its[i]? = some x)
    (k : ∀ h', h'.IsTupleIter it t (i + 1) → Heap.SameBut it s.heap h' → Q x { s with heap := h' }) : wpAny (model prog w) A (Builtin.SmallTypes.nextOf (.ref it)) Q E s := by
  have ty := hit.typeIs
  obtain ⟨ob, eo, ec, ed⟩ := hit
  obtain ⟨ot, et, _, n, edt⟩ := ht
  unfold Builtin.SmallTypes.nextOf
  refine wpAny_bind (wpAny_callSpecial?_slot (name := Str.ofString "__next__") ty F.slot_tuple_iterator_next (wpAny_call_entry F.slot_tuple_iterator_next ty F.entry_tuple_iterator_next ?_ (F.args_tuple_iterator_next_1 _)))
  show wpAny _ _ (field (.ref it) 0 >>= _) _ _ s
  refine wpAny_bind (wpAny_field eo ed (x := .ref t) rfl ?_)
  show wpAny _ _ (if (Value.ref t == Value.none) = true then _ else _) _ _ s
  rw [if_neg (show ¬ ((Value.ref t == Value.none) = true) from Bool.false_ne_true)]
  show wpAny _ _ (field (.ref it) 1 >>= _) _ _ s
  refine wpAny_bind (wpAny_field eo ed (x := .int i 0) rfl ?_)
  show wpAny _ _ (seqItems? (.ref t) >>= _) _ _ s
  refine wpAny_bind (wpAny_seqItems et edt ?_)
  simp only [Int.toNat_natCast, hx]
  refine wpAny_bind (wpAny_setField eo ed (by simp) (wpAny_pure ⟨x, rfl, wpAny_pure (k _ ⟨_, Heap.get?_update_self _ eo (Obj.isFreed_of_fields (Obj.data_mapFields ed _)), (Obj.cls_mapFields ..).trans ec, ?_⟩ (Heap.SameBut.update ..))⟩))
  rw [Obj.data_mapFields ed]
  simp [rawInt]
theorem nxT_end {it t : Addr} {i : Nat} {its : Array Value} {Q : Value → Shared → Prop} (hh : A.handled = none) (hit : s.heap.IsTupleIter it t i) (ht : s.heap.IsTuple t its) (hx : its[i]? = none)
    (k : ∀ h' e, Heap.ExtBut it s.heap h' → (∃ o, h'.get? e = some o ∧ o.cls = .type "StopIteration") → E (.ref e) { s with heap := h' }) : wpAny (model prog w) A (Builtin.SmallTypes.nextOf (.ref it)) Q E s := by
  have ty := hit.typeIs
  obtain ⟨ob, eo, ec, ed⟩ := hit
  obtain ⟨ot, et, _, n, edt⟩ := ht
  unfold Builtin.SmallTypes.nextOf
  refine wpAny_bind (wpAny_callSpecial?_slot (name := Str.ofString "__next__") ty F.slot_tuple_iterator_next (wpAny_call_entry F.slot_tuple_iterator_next ty F.entry_tuple_iterator_next ?_ (F.args_tuple_iterator_next_1 _)))
  show wpAny _ _ (field (.ref it) 0 >>= _) _ _ s
  refine wpAny_bind (wpAny_field eo ed (x := .ref t) rfl ?_)
  show wpAny _ _ (if (Value.ref t == Value.none) = true then _ else _) _ _ s
  rw [if_neg (show ¬ ((Value.ref t == Value.none) = true) from Bool.false_ne_true)]
  show wpAny _ _ (field (.ref it) 1 >>= _) _ _ s
  refine wpAny_bind (wpAny_field eo ed (x := .int i 0) rfl ?_)
  show wpAny _ _ (seqItems? (.ref t) >>= _) _ _ s
  refine wpAny_bind (wpAny_seqItems et edt ?_)
  simp only [Int.toNat_natCast, hx]
  refine wpAny_bind (wpAny_rule (wpAny_bind (wpAny_setField eo ed (by simp) ?_)))
  show wpAny _ _ (newExc (.type "StopIteration") [] >>= _) _ _ _
  refine wpAny_bind ?_
  simp only [newExc, newTuple]
  refine wpAny_bind (wpAny_newObj_type ?_ (by size_fits))
  refine wpAny_bind (m := firstArgMember _ _) (wpAny_of_eq (a := Value.none) (by first | rfl | (simp only [firstArgMember]; rfl)) ?_)
  refine wpAny_newObj_type ?_ (by size_fits)
  simp only [raiseNew]
  refine wpAny_bind (wpAny_handled ?_)
  first | rw [show A.in1.handled = none from hh] | rw [hh]
  exact wpAny_bind (wpAny_pure (wpAny_throw (k _ _ (((Heap.SameBut.update ..).extBut.push _).push _) ⟨_, Heap.get?_push_size _ rfl, rfl⟩)))
end
theorem drT {prog : Program} {w : World} {A : Around} (hh : A.handled = none) (it t : Addr) (ne : t ≠ it) (its : Array Value) :
    Draws prog w A it [it, t] its.size (fun i v => its[i]? = some v) (fun i h => h.IsTupleIter it t i ∧ h.IsTuple t its) where
  live := fun _ _ st => by obtain ⟨⟨o, e, _⟩, _⟩ := st; exact ⟨o, e⟩
  frame := fun _ _ _ st k => ⟨st.1.at fun o e => k it (by simp) o e, st.2.at fun o e => k t (by simp) o e⟩
  item := fun i s Q E hi st k => nxT_item st.1 st.2 (x := its[i]) (by simp [hi]) fun h' a b => k _ h' s.toks (by simp [hi]) ⟨a, st.2.extBut b.extBut ne⟩ b
  done := fun s Q E st k => nxT_end hh st.1 st.2 (by simp) k

theorem enT_new (l : Addr) (its : Array Value) (n : Nat) (dct : Option Addr) (sl : Array (Option Value)) :
    Meets (Builtin.«enumerate.__new__» ⟨[.type "enumerate", .ref l], []⟩) (fun _ R s => s.heap.get? l = some { cls := .type "tuple", dict := dct, data := .seq its n, slots := sl } ∧
      R (.ok (.ret (.ref (s.heap.push { cls := .type "tuple_iterator", data := .fields #[.ref l, .int 0 0] }).objs.size)))
        { s with heap := (s.heap.push { cls := .type "tuple_iterator", data := .fields #[.ref l, .int 0 0] }).push { cls := .type "enumerate", data := .fields #[.none, .bool false, .ref s.heap.objs.size, rawInt 0, .none, .none] } }) :=
  .of_wp fun prog w A R s h => by
    obtain ⟨hp, g, d, tk, os⟩ := s
    obtain ⟨hl, h⟩ := h
    have hsub := sub_enumerate
    have hT : Heap.IsTuple (Shared.heap ⟨hp, g, d, tk, os⟩) l its := ⟨_, hl, rfl, n, rfl⟩
    wp_walk using wpAny_loadPart' hl
    refine wpAny_stack_any fun st => wpAny_pure ?_
    split
    · rename_i c _ _ _ _ _
      cases (c == Value.type "enumerate") <;> (wp_walk using wpAny_loadPart' hl, wpAny_pyIter_tuple hT; exact ⟨_, rfl, h⟩)
    · wp_walk using wpAny_loadPart' hl, wpAny_pyIter_tuple hT
      exact ⟨_, rfl, h⟩
section
variable {prog : Program} {w : World} {A : Around} {E : Value → Shared → Prop} {s : Shared}
theorem call_enT {l : Addr} {its : Array Value} {Q : Value → Shared → Prop} (hL : s.heap.IsTuple l its)
    (k : ∀ h', IsEnum h' (s.heap.objs.size + 1) s.heap.objs.size 0 .none → h'.IsTupleIter s.heap.objs.size l 0 → h'.objs.size = s.heap.objs.size + 2 → (∀ b o, s.heap.get? b = some o → h'.get? b = some o) → Q (.ref (s.heap.objs.size + 1)) { s with heap := h' }) :
    wpAny (model prog w) A (call (.type "enumerate") [.ref l]) Q E s := by
  obtain ⟨⟨c, dct, dt, sl⟩, hl, hc, n, hd⟩ := hL
  have hc' : c = .type "tuple" := hc
  have hd' : dt = .seq its n := hd
  subst hc' hd'
  refine callType_new F.called_enumerate (by decide) (F.typeCall_enumerate_1 _) (F.newCall_enumerate_1 _) (fun obj => F.args_object_init_2 obj _) F.entry_enumerate_new (enT_new l its n dct sl) ⟨hl, ?_⟩
  generalize hg : s.heap.push { cls := .type "tuple_iterator", data := .fields #[.ref l, .int 0 0] } = g1
  have z1 : g1.objs.size = s.heap.objs.size + 1 := by rw [← hg]; exact Heap.size_push ..
  have he : IsEnum (g1.push { cls := .type "enumerate", data := .fields #[.none, .bool false, .ref s.heap.objs.size, rawInt 0, .none, .none] }) (s.heap.objs.size + 1) s.heap.objs.size 0 .none := by
    rw [← z1]; exact Heap.get?_push_size _ rfl
  show _ ∧ _
  rw [z1]
  refine ⟨⟨_, he, rfl⟩, k _ he ⟨_, Heap.get?_push_of_some _ (by rw [← hg]; exact Heap.get?_push_size _ rfl), rfl, rfl⟩ (by rw [Heap.size_push, z1]) fun b o x => Heap.get?_push_of_some _ (by rw [← hg]; exact Heap.get?_push_of_some _ x)⟩
end
end L2

namespace L2
open PySem PySem.Spec PyProof.Rows
open AutoSeq1 (wpAny_loadPart')
section
variable {prog : Program} {w : World} {A : Around} {E : Value → Shared → Prop} {s : Shared}
variable {z TI TO i1 i2 : Addr} {f1 f2 : List Addr} {n1 n2 k : Nat} {P1 P2 : Nat → Value → Prop} {S1 S2 : Nat → Heap → Prop} {a b : Value}
end
section
variable {prog : Program} {w : World} {A : Around} {E : Value → Shared → Prop} {s : Shared}
end
end L2

namespace L2
open PySem PySem.Spec PyProof.Rows
section
variable {X : Cx} {pins : List (Addr × Obj)} {σ : St} {H : Hp} {s : Shared}
/-- the iterator's objects turn, a new object is tracked -/
theorem Inv.turnedN {ch : List Addr} {h' : Heap} {t' : Nat} {p : Addr} {o : HO} (I : Inv X pins σ H s) (hf : ∀ b ∈ ch, FpOk X pins H b) (k : ∀ b u, b ∉ ch → s.heap.get? b = some u → h'.get? b = some u)
    (hp : s.heap.objs.size ≤ p) (new : ObjOk X.prog X.w (upd H p o) h' p o) : Inv X pins σ (upd H p o) { s with heap := h', toks := t' } := by
  have hn : H p = none := I.hok.fresh hp
  have nit : ∀ b u, H b = some u → b ∉ ch := fun b u e z => by rw [(hf b z).1] at e; cases e
  have old : ∀ b u, s.heap.get? b = some u → b ≠ p := fun b u e => Nat.ne_of_lt (Nat.lt_of_lt_of_le (Heap.lt_size e) hp)
  refine I.step (g' := s.gens) (d' := s.drawn) (ch := ch) (fun b hb => ⟨(hf b hb).2.2.2.1, (hf b hb).2.1, (hf b hb).2.2.2.2.1, (hf b hb).2.2.2.2.2⟩) (fun b o _ _ hc e _ => k b o hc e) (fun b o _ _ hc e _ => ⟨o.slots, k b o hc e⟩)
    (fun b u _ e n => by rw [upd_ne (old b u e)]; exact n) (fun b o hc e => ⟨o, k b o hc e⟩) (fun b xs e => by rw [upd_ne (ne_of_none e hn)]; exact e) (fun b u xs e => by rw [upd_ne (ne_of_none e hn)]; exact e)
    (fun b ps e => ⟨#[], by rw [upd_ne (ne_of_none e hn), e]; simp⟩) (fun m hm => ?_) (fun b u e => ?_) I.bare
  · obtain ⟨ob, es, ep, ho, r⟩ := hm
    exact ⟨ob, es, ep, k _ ob (fun z => (hf _ z).2.1 rfl) ho, r⟩
  · by_cases hb : b = p
    · subst hb; rw [upd_same] at e; cases e; exact new
    · rw [upd_ne hb] at e
      refine (I.hok b u e).stay (fun c v hc q => k c v ?_ q) (fun c q => by rw [upd_ne (ne_of_none q hn)]; exact q) fun c xs q => by rw [upd_ne (ne_of_none q hn)]; exact q
      rcases hc with z | z
      · rw [z]; exact nit b u e
      · exact nit c _ z
theorem Inv.turned0 {ch : List Addr} {h' : Heap} {t' : Nat} (I : Inv X pins σ H s) (hf : ∀ b ∈ ch, FpOk X pins H b) (k : ∀ b u, b ∉ ch → s.heap.get? b = some u → h'.get? b = some u) : Inv X pins σ H { s with heap := h', toks := t' } := by
  have nit : ∀ b u, H b = some u → b ∉ ch := fun b u e z => by rw [(hf b z).1] at e; cases e
  refine I.step (g' := s.gens) (d' := s.drawn) (ch := ch) (fun b hb => ⟨(hf b hb).2.2.2.1, (hf b hb).2.1, (hf b hb).2.2.2.2.1, (hf b hb).2.2.2.2.2⟩) (fun b o _ _ hc e _ => k b o hc e) (fun b o _ _ hc e _ => ⟨o.slots, k b o hc e⟩)
    (fun _ _ _ _ n => n) (fun b o hc e => ⟨o, k b o hc e⟩) (fun _ _ e => e) (fun _ _ _ e => e) (fun b ps e => ⟨#[], by rw [e]; simp⟩) (fun m hm => ?_) (fun b u e => ?_) I.bare
  · obtain ⟨ob, es, ep, ho, r⟩ := hm
    exact ⟨ob, es, ep, k _ ob (fun z => (hf _ z).2.1 rfl) ho, r⟩
  · refine (I.hok b u e).stay (fun c v hc q => k c v ?_ q) (fun _ q => q) fun _ _ q => q
    rcases hc with z | z
    · rw [z]; exact nit b u e
    · exact nit c _ z
end
/-- what another iterator draws from: a list or a tuple that stays -/
structure Src (P : Program) (w : World) (K : PySem.W.Frag) (a it : Addr) (S : Hp → List V → Prop) (IT : Nat → Heap → Prop) : Prop where
  inj : ∀ (X : Cx), X.K = K → ∀ (pins : List (Addr × Obj)) (σ : St) (H : Hp) (s : Shared) (xs ys : List V), Inv X pins σ H s → S H xs → S H ys → xs = ys
  at_ : ∀ i h h', IT i h → (∀ o, h.get? it = some o → h'.get? it = some o) → IT i h'
  ob : ∀ i h, IT i h → ∃ o n, h.get? it = some o ∧ o.cls = .type n ∧ n ≠ "list" ∧ n ≠ "tuple" ∧ n ≠ "enumerate" ∧ n ≠ "zip" ∧ ∀ v, o.data ≠ .cell v
  dr : ∀ (X : Cx), X.prog = P → X.w = w → X.K = K → ∀ (pins : List (Addr × Obj)) (σ : St) (H : Hp) (s : Shared) (xs : List V), Inv X pins σ H s → S H xs → ∃ (its : List Value) (SA : Heap → Prop), Vals xs its ∧ SA s.heap ∧
    (∃ o n, s.heap.get? a = some o ∧ o.cls = .type n ∧ (n = "list" ∨ n = "tuple")) ∧ ∀ A : Around, A.handled = none → a ≠ it → Draws P w A it [it, a] its.toArray.size (fun i v => its.toArray[i]? = some v) fun i h => IT i h ∧ SA h
theorem srcT {P : Program} {w : World} {K : PySem.W.Frag} (a it : Addr) : Src P w K a it (fun H xs => SqT K H a xs) (fun i h => h.IsTupleIter it a i) where
  inj := fun X hK pins σ H s xs ys I h1 h2 => by subst hK; exact I.tuple_inj h1 h2
  at_ := fun i h h' x e => x.at e
  ob := fun i h x => by obtain ⟨o, e, c, d⟩ := x; exact ⟨o, _, e, c, by decide, by decide, by decide, by decide, fun v z => by rw [d] at z; cases z⟩
  dr := fun X hP hw hK pins σ H s xs I h => by
    subst hP hw hK
    obtain ⟨its, rv, p, hz⟩ := I.tuple h
    refine ⟨its, fun h => h.IsTuple a its.toArray, rv, p, ?_, fun A hh ne => drT hh it a ne its.toArray⟩
    obtain ⟨o, e, c, _⟩ := p
    exact ⟨o, _, e, c, .inr rfl⟩
theorem srcL {P : Program} {w : World} {K : PySem.W.Frag} (a it : Addr) : Src P w K a it (fun H xs => SqL K H a xs) (fun i h => h.IsListIter it a i) where
  inj := fun X hK pins σ H s xs ys I h1 h2 => by subst hK; exact I.list_inj h1 h2
  at_ := fun i h h' x e => x.at e
  ob := fun i h x => by obtain ⟨o, e, c, d⟩ := x; exact ⟨o, _, e, c, by decide, by decide, by decide, by decide, fun v z => by rw [d] at z; cases z⟩
  dr := fun X hP hw hK pins σ H s xs I h => by
    subst hP hw hK
    obtain ⟨its, rv, p, hz⟩ := I.list h
    refine ⟨its, fun h => h.IsList a its.toArray, rv, p.isList, ?_, fun A hh ne => Draws.list hh it a ne its.toArray⟩
    obtain ⟨o, e, c, _⟩ := p.isList
    exact ⟨o, _, e, c, .inl rfl⟩
theorem type_ne {h : Heap} {a b : Addr} {o u : Obj} {n m : String} (e : h.get? a = some o) (c : o.cls = .type n) (e' : h.get? b = some u) (c' : u.cls = .type m) (d : n ≠ m) : a ≠ b := fun z => by
  subst z
  rw [e] at e'
  cases e'
  rw [c] at c'
  exact d (by injection c')
def Ite (S : Hp → List V → Prop) : It :=
  ⟨fun i H => ∃ xs x, S H xs ∧ xs[i]? = some x, fun i H x H' => ∃ p v, H p = none ∧ x = .ref p ∧ H' = upd H p (.tup [.int (i : Nat), v]) ∧ ∀ xs, S H xs → xs[i]? = some v, fun i H => ∃ xs, S H xs ∧ xs.length = i⟩
theorem turn_enum {P : Program} {w : World} {K : PySem.W.Frag} {es : List Expr} {k1 : Nat} {tp : Pos} {a e it : Addr} {S : Hp → List V → Prop} {IT : Nat → Heap → Prop} (R : Src P w K a it S IT) :
    Turn P w K (.Tuple es k1 tp) (Ite S) [e, it] e (fun i h => (∃ old, IsEnum h e it (i : Nat) old) ∧ IT i h) where
  mem := by simp
  obj := fun i h st b hb => by
    obtain ⟨⟨old, he⟩, hi⟩ := st
    have hb' : b = e ∨ b = it := by simpa using hb
    rcases hb' with z | z
    · subst z; exact ⟨_, he, fun v z => by cases z⟩
    · subst z
      obtain ⟨o, n, q, _, _, _, _, _, d⟩ := R.ob _ _ hi
      exact ⟨o, q, d⟩
  keep := fun i h h' st k => by
    obtain ⟨⟨old, he⟩, hi⟩ := st
    exact ⟨⟨old, k e (by simp) _ he⟩, R.at_ _ _ _ hi fun o q => k it (by simp) o q⟩
  item := by
    intro X hP hw hK hc i pins s σ H E I hf st hg
    obtain ⟨xs, x, hq, hx⟩ := hg
    obtain ⟨⟨old, he⟩, hi⟩ := st
    obtain ⟨its, SA, rv, sa, ⟨oa, na, ea, ca, da⟩, dr⟩ := R.dr X hP hw hK pins σ H s xs I hq
    obtain ⟨oi, ni, ei, ci, d1, d2, d3, _, _⟩ := R.ob _ _ hi
    have nai : a ≠ it := type_ne ea ca ei ci (by rcases da with z | z <;> (subst z; first | exact d1.symm | exact d2.symm))
    have nea : e ≠ a := type_ne he rfl ea ca (by rcases da with z | z <;> (subst z; decide))
    have nei : e ≠ it := type_ne he rfl ei ci (Ne.symm d3)
    obtain ⟨u, hu, ru⟩ := rv.get hx
    have hh : X.A.in1.handled = none := I.ok.hd hc
    have hlt : i < its.toArray.size := by have := (List.getElem?_eq_some_iff.mp hu).1; simpa using this
    subst hP hw
    refine wpAny_pyNext_enum_itemD (dr _ hh nai) he ⟨hi, sa⟩ hlt nei (by simp [nei, nea]) fun y h' tk py heo st' ht hsz hk => ?_
    have ey : y = u := by
      have : its[i]? = some y := by simpa using py
      rw [hu] at this; exact (Option.some.inj this).symm
    subst ey
    refine ⟨_, rfl, wpAny_letOwnedTupleGo_enum heo fun h2 he2 c2 => ?_⟩
    have c2 : Heap.SameBut e h' h2 := c2
    have el : e < s.heap.objs.size := Heap.lt_size he
    have t2 : h2.get? s.heap.objs.size = some { cls := .type "tuple", data := .seq #[.int i tk, y] } := (c2.2 _ (Nat.ne_of_gt el)).trans ht
    have I2 : Inv X pins σ (upd H s.heap.objs.size (.tup [.int (i : Nat), x])) { s with heap := h2, toks := tk + 1 } := I.turnedN (ch := [e, it]) hf (fun b o hb q => by
        have hb' : b ≠ e ∧ b ≠ it := by simpa using hb
        exact (c2.2 _ hb'.1).trans (hk b o hb'.1 hb'.2 q)) (Nat.le_refl _) ⟨by show 2 ≤ sizeLine; decide, [.int i tk, y], .cons ⟨tk, rfl⟩ (.cons ru .nil), ⟨_, t2, rfl, _, rfl⟩, _, t2, rfl⟩
    have hn : H s.heap.objs.size = none := I.hok.fresh (Nat.le_refl _)
    refine ⟨.ref s.heap.objs.size, _, I2, rfl, ⟨_, x, hn, rfl, rfl, fun ys hy => by rw [R.inj X hK pins σ H s ys xs I hy hq]; exact hx⟩, ⟨⟨_, by simpa using he2⟩, R.at_ _ _ _ st'.1 fun o q => (c2.2 _ nei.symm).trans q⟩, fun b hb => ?_⟩
    have lb : b < s.heap.objs.size := by
      have hb' : b = e ∨ b = it := by simpa using hb
      rcases hb' with z | z
      · rw [z]; exact el
      · rw [z]; exact Heap.lt_size ei
    rw [upd_ne (Nat.ne_of_lt lb)]
    exact (hf b hb).1
  done := by
    intro X hP hw hK hc i pins s σ H E I hf st hg
    obtain ⟨xs, hq, hx⟩ := hg
    obtain ⟨⟨old, he⟩, hi⟩ := st
    obtain ⟨its, SA, rv, sa, ⟨oa, na, ea, ca, da⟩, dr⟩ := R.dr X hP hw hK pins σ H s xs I hq
    obtain ⟨oi, ni, ei, ci, d1, d2, d3, _, _⟩ := R.ob _ _ hi
    have nai : a ≠ it := type_ne ea ca ei ci (by rcases da with z | z <;> (subst z; first | exact d1.symm | exact d2.symm))
    have hh : X.A.in1.handled = none := I.ok.hd hc
    subst hP hw
    have hl : its.toArray.size = i := by rw [← hx, rv.length]; simp
    refine wpAny_pyNext_enum_endD (dr _ hh nai) he (by rw [hl]; exact ⟨hi, sa⟩) fun h' eb => ⟨rfl, I.turned0 (t' := s.toks) (ch := [e, it]) hf fun b u hb q => ?_⟩
    have hb' : b ≠ e ∧ b ≠ it := by simpa using hb
    exact eb b u hb'.2 q
  self := fun A i s Q E st h => by
    obtain ⟨⟨old, he⟩, hi⟩ := st
    exact wpAny_pyIter_enum he h
section
variable {X : Cx} {es : List Expr} {k1 : Nat} {tp : Pos}
end
end L2

namespace L2
open PySem PySem.Spec PyProof.Rows
mutual
def IsD (K : PySem.W.Frag) (H : Hp) (x : V) : PyData → Prop
  | .none => x = .non
  | .bool b => x = .bl b
  | .int i => x = .int i
  | .str y => x = .str y
  | .list ds => ∃ a xs, x = .ref a ∧ SqL K H a xs ∧ AllD K H xs ds
  | .tuple ds => ∃ a xs, x = .ref a ∧ SqT K H a xs ∧ AllD K H xs ds
  | .dict _ => False
def AllD (K : PySem.W.Frag) (H : Hp) (xs : List V) : List PyData → Prop
  | [] => xs = []
  | d :: ds => ∃ x r, xs = x :: r ∧ IsD K H x d ∧ AllD K H r ds
end
theorem Same.seqT {K : PySem.W.Frag} {H H' : Hp} {a : Addr} {xs : List V} (e : Same H H') (h : SqT K H a xs) : SqT K H' a xs := by
  rcases h with h | h
  · rcases h with h | ⟨o, h⟩
    · exact .inl (.inl (e _ _ h))
    · exact .inl (.inr ⟨o, e _ _ h⟩)
  · exact .inr h
theorem same_new {H : Hp} {p : Addr} (h : H p = none) (o : HO) : Same H (upd H p o) := fun b u q => by rw [upd_ne (ne_of_none q h)]; exact q
mutual
theorem IsD.same {K : PySem.W.Frag} {H H' : Hp} (s : Same H H') : ∀ {x : V} (d : PyData), IsD K H x d → IsD K H' x d
  | _, .none, h => h
  | _, .bool _, h => h
  | _, .int _, h => h
  | _, .str _, h => h
  | _, .list ds, h => by
    obtain ⟨a, xs, e, q, r⟩ := h
    exact ⟨a, xs, e, s.seq q, AllD.same s ds r⟩
  | _, .tuple ds, h => by
    obtain ⟨a, xs, e, q, r⟩ := h
    exact ⟨a, xs, e, s.seqT q, AllD.same s ds r⟩
  | _, .dict _, h => h.elim
theorem AllD.same {K : PySem.W.Frag} {H H' : Hp} (s : Same H H') : ∀ {xs : List V} (ds : List PyData), AllD K H xs ds → AllD K H' xs ds
  | _, [], h => h
  | _, d :: ds, h => by
    obtain ⟨x, r, e, q, t⟩ := h
    exact ⟨x, r, e, IsD.same s d q, AllD.same s ds t⟩
end
theorem AllD.length {K : PySem.W.Frag} {H : Hp} : ∀ {xs : List V} {ds : List PyData}, AllD K H xs ds → xs.length = ds.length
  | _, [], h => by rw [show _ = [] from h]; rfl
  | _, d :: ds, h => by
    obtain ⟨x, r, e, q, t⟩ := h
    rw [e, List.length_cons, List.length_cons, AllD.length t]
theorem AllD.get {K : PySem.W.Frag} {H : Hp} : ∀ {xs : List V} {ds : List PyData} {i : Nat} {d : PyData}, AllD K H xs ds → ds[i]? = some d → ∃ x, xs[i]? = some x ∧ IsD K H x d
  | _, [], _, _, _, e => by simp at e
  | _, d :: ds, 0, _, h, e => by
    obtain ⟨x, r, e', q, t⟩ := h
    simp at e; subst e; rw [e']
    exact ⟨x, rfl, q⟩
  | _, d :: ds, i + 1, d', h, e => by
    obtain ⟨x, r, e', q, t⟩ := h
    obtain ⟨y, h1, h2⟩ := AllD.get (i := i) (d := d') t (by simpa using e)
    rw [e']
    exact ⟨y, by simpa using h1, h2⟩
theorem AllD.append {K : PySem.W.Frag} {H : Hp} : ∀ {xs ys : List V} {ds es : List PyData}, AllD K H xs ds → AllD K H ys es → AllD K H (xs ++ ys) (ds ++ es)
  | _, ys, [], es, h, h' => by rw [show _ = [] from h]; exact h'
  | _, ys, d :: ds, es, h, h' => by
    obtain ⟨x, r, e, q, t⟩ := h
    subst e
    exact ⟨x, r ++ ys, rfl, q, AllD.append t h'⟩
theorem AllD.one {K : PySem.W.Frag} {H : Hp} {x : V} {d : PyData} (h : IsD K H x d) : AllD K H [x] [d] := ⟨x, [], rfl, h, rfl⟩
theorem AllD.drop {K : PySem.W.Frag} {H : Hp} : ∀ (n : Nat) {xs : List V} {ds : List PyData}, AllD K H xs ds → AllD K H (xs.drop n) (ds.drop n)
  | 0, _, _, h => h
  | n + 1, _, [], h => by rw [show _ = [] from h]; exact rfl
  | n + 1, _, d :: ds, h => by
    obtain ⟨x, r, e, q, t⟩ := h
    subst e
    exact AllD.drop n t
theorem AllD.take {K : PySem.W.Frag} {H : Hp} : ∀ (n : Nat) {xs : List V} {ds : List PyData}, AllD K H xs ds → AllD K H (xs.take n) (ds.take n)
  | 0, _, _, h => rfl
  | n + 1, _, [], h => by rw [show _ = [] from h]; exact rfl
  | n + 1, _, d :: ds, h => by
    obtain ⟨x, r, e, q, t⟩ := h
    subst e
    exact ⟨x, r.take n, rfl, q, AllD.take n t⟩
theorem AllD.ints {K : PySem.W.Frag} {H : Hp} : ∀ {ns : List Int} {xs : List V}, AllD K H xs (ns.map PyData.int) ↔ xs = ns.map V.int
  | [], xs => Iff.rfl
  | n :: ns, xs => by
    constructor
    · intro h
      obtain ⟨x, r, e, q, t⟩ := h
      rw [e, show x = V.int n from q, (AllD.ints (ns := ns)).mp t]; rfl
    · intro e
      subst e
      exact ⟨_, _, rfl, rfl, (AllD.ints (ns := ns)).mpr rfl⟩
section
variable {X : Cx} {pins : List (Addr × Obj)} {σ : St} {H : Hp} {s : Shared}
mutual
theorem IsD.reads (I : Inv X pins σ H s) : ∀ {x : V} {u : Value} (d : PyData), IsD X.K H x d → RelV x u → ∃ as, Reads s.heap u d as
  | _, _, .none, h, r => by rw [show _ = V.non from h] at r; cases r; exact ⟨_, .none⟩
  | _, _, .bool b, h, r => by rw [show _ = V.bl b from h] at r; cases r; exact ⟨_, .bool b⟩
  | _, _, .int i, h, r => by rw [show _ = V.int i from h] at r; obtain ⟨t, rfl⟩ := r; exact ⟨_, .int i t⟩
  | _, _, .str y, h, r => by rw [show _ = V.str y from h] at r; obtain ⟨t, rfl⟩ := r; exact ⟨_, .str y t⟩
  | _, _, .list ds, h, r => by
    obtain ⟨a, xs, e, q, al⟩ := h
    subst e
    cases r
    obtain ⟨its, rv, p, _⟩ := I.list q
    obtain ⟨o, h1, h2, n, h3⟩ := p.isList
    obtain ⟨as, ra⟩ := AllD.reads I ds al rv
    exact ⟨_, .list h1 h2 h3 (by simpa using ra)⟩
  | _, _, .tuple ds, h, r => by
    obtain ⟨a, xs, e, q, al⟩ := h
    subst e
    cases r
    obtain ⟨its, rv, p, _⟩ := I.tuple q
    obtain ⟨o, h1, h2, n, h3⟩ := p
    obtain ⟨as, ra⟩ := AllD.reads I ds al rv
    exact ⟨_, .tuple h1 h2 h3 (by simpa using ra)⟩
  | _, _, .dict _, h, _ => h.elim
theorem AllD.reads (I : Inv X pins σ H s) : ∀ {xs : List V} {us : List Value} (ds : List PyData), AllD X.K H xs ds → Vals xs us → ∃ as, ReadsAll s.heap us ds as
  | _, _, [], h, r => by rw [show _ = [] from h] at r; cases r; exact ⟨_, .nil⟩
  | _, _, d :: ds, h, r => by
    obtain ⟨x, rr, e, q, al⟩ := h
    subst e
    cases r with
    | cons r1 r2 =>
      obtain ⟨as, ra⟩ := IsD.reads I d q r1
      obtain ⟨bs, rb⟩ := AllD.reads I ds al r2
      exact ⟨_, .cons ra rb⟩
end
/-- data that may be compared here -/
def cmpOk (d : PyData) : Prop := d.canLay0 = true ∧ d.depth ≤ 60
def rEqD (K : PySem.W.Frag) (neg : Bool) : R2 := fun x y H Q => ∃ da db, IsD K H x da ∧ IsD K H y db ∧ cmpOk da ∧ cmpOk db ∧ Q (.bl (if neg then !PyData.eqv da db else PyData.eqv da db)) H
theorem op_eqD (hu : X.A.units + 64 < cLine) : OpR X (compareOp .Eq) (rEqD X.K false) := by
  intro pins s σ H x y v u Q I rx ry h
  obtain ⟨da, db, hx, hy, ca, cb, q⟩ := h
  obtain ⟨as, ra⟩ := hx.reads I _ rx
  obtain ⟨bs, rb⟩ := hy.reads I _ ry
  exact SeqAt.compareEq_reads ra rb ca.1 cb.1 (by have := ca.2; omega) ⟨.bl _, H, I, rfl, q⟩
theorem op_neD (hu : X.A.units + 64 < cLine) : OpR X (compareOp .NotEq) (rEqD X.K true) := by
  intro pins s σ H x y v u Q I rx ry h
  obtain ⟨da, db, hx, hy, ca, cb, q⟩ := h
  obtain ⟨as, ra⟩ := hx.reads I _ rx
  obtain ⟨bs, rb⟩ := hy.reads I _ ry
  exact SeqAt.compareNe_reads ra rb ca.1 cb.1 (by have := ca.2; omega) ⟨.bl _, H, I, rfl, q⟩
/-- all of a list of bools -/
def rAll (K : PySem.W.Frag) : List V → Hp → VK → Prop := fun xs H Q => ∃ (p : Addr) (bs : List Bool), xs = [.ref p] ∧ SqL K H p (bs.map V.bl) ∧ Q (.bl (bs.all id)) H
theorem all_range {bs : List Bool} : (List.range bs.length).all (fun i => bs.getD i true) = bs.all id := by
  rw [Bool.eq_iff_iff, List.all_eq_true, List.all_eq_true]
  constructor
  · intro h x hx
    obtain ⟨i, hi, e⟩ := List.mem_iff_getElem.mp hx
    have := h i (by simpa using hi)
    rw [List.getD_eq_getElem?_getD, List.getElem?_eq_getElem hi, e] at this
    exact this
  · intro h i hi
    have hi' : i < bs.length := by simpa using hi
    rw [List.getD_eq_getElem?_getD, List.getElem?_eq_getElem hi']
    exact h _ (List.getElem_mem hi')
theorem call_all (hc : X.calm = true) : CallR X (.builtin "all") (rAll X.K) := by
  intro pins s σ H xs us Q I rv h
  obtain ⟨p, bs, rfl, hq, q⟩ := h
  obtain ⟨u, rfl, r⟩ := rv.one
  cases r
  obtain ⟨its, rr, pl, hz⟩ := I.list hq
  have hl : its.length = bs.length := by rw [← rr.length, List.length_map]
  have hh : X.A.in1.handled = none := I.ok.hd hc
  have lp : p < s.heap.objs.size := by obtain ⟨o, e, _⟩ := pl.isList; exact Heap.lt_size e
  refine call_all_walk (wpAny_pyIter_list pl.isList ⟨_, _, _, _, _, _, fun i => bs.getD i true, rfl, Walks.list hh s.heap.objs.size p (Nat.ne_of_lt lp) its.toArray, ⟨⟨_, Heap.get?_push_size _ rfl, rfl, rfl⟩, pl.isList.push _⟩, ?_, fun h' tk k => ?_⟩)
  · intro i v s' Q' E' hP hQ
    have hP' : its[i]? = some v := by simpa using hP
    have hi : i < its.length := (List.getElem?_eq_some_iff.mp hP').1
    have hb : (bs.map V.bl)[i]? = some (.bl (bs[i]'(by omega))) := by rw [List.getElem?_map, List.getElem?_eq_getElem (by omega)]; rfl
    obtain ⟨u, hu, ru⟩ := rr.get hb
    rw [hP'] at hu
    cases hu
    cases ru
    have e : bs.getD i true = bs[i]'(by omega) := by rw [List.getD_eq_getElem?_getD, List.getElem?_eq_getElem (by omega)]; rfl
    have hQ' : Q' (bs.getD i true) s' := hQ
    rw [e] at hQ'
    exact wpAny_truthy_bool hQ'
  · have e : (List.range its.toArray.size).all (fun i => bs.getD i true) = bs.all id := by rw [List.size_toArray, hl, all_range]
    rw [e]
    refine ⟨.bl _, H, ?_, rfl, q⟩
    refine I.kept fun b o eb => k b o ?_ (Heap.get?_push_of_some _ eb)
    simp only [List.mem_singleton]
    exact Nat.ne_of_lt (Heap.lt_size eb)
/-- xs.remove(x), ints -/
def rRemove : V → List V → Hp → VK → Prop := fun x vs H Q => ∃ (l : Addr) (ns : List Int) (n : Int), x = .ref l ∧ vs = [.int n] ∧ H l = some (.lst (ns.map V.int)) ∧ n ∈ ns ∧ Q .non (upd H l (.lst ((ns.erase n).map V.int)))
theorem map_erase (n : Int) (ns : List Int) : ∀ {us : List Value}, Vals (ns.map V.int) us → n ∈ ns → ∃ j, ∃ (hj : j < us.length), eqU (.int n) us[j] = true ∧ (∀ m (hm : m < us.length), m < j → eqU (.int n) us[m] = false) ∧ Vals ((ns.erase n).map V.int) (us.eraseIdx j) := by
  induction ns with
  | nil => intro us _ h; simp at h
  | cons a r ih =>
    intro us rv h
    cases rv with
    | @cons _ b _ l2 r1 r2 =>
      obtain ⟨t, rfl⟩ := (show ∃ t, b = Value.int a t from r1)
      by_cases e : a = n
      · subst e
        refine ⟨0, by simp, ?_, fun m _ hm => absurd hm (Nat.not_lt_zero _), ?_⟩
        · show eqV (.int a) (.int a) = true
          simp [eqV]
        · simpa using r2
      · have hr : n ∈ r := by
          rcases List.mem_cons.mp h with z | z
          · exact absurd z.symm e
          · exact z
        obtain ⟨j, hj, h1, h2, h3⟩ := ih r2 hr
        refine ⟨j + 1, by simpa using hj, by simpa using h1, fun m hm hmj => ?_, ?_⟩
        · cases m with
          | zero =>
            show eqV (.int a) (.int n) = false
            simp [eqV, e]
          | succ m => simpa using h2 m (by simpa using hm) (by omega)
        · rw [List.erase_cons_tail (by simpa using e)]
          exact .cons ⟨t, rfl⟩ h3
theorem mt_remove : MtM X "list.remove" rRemove := by
  intro pins s σ H x vs v us Q I rx rv h
  obtain ⟨l, ns, n, rfl, rfl, hH, hm, q⟩ := h
  cases rx
  obtain ⟨u, rfl, ru⟩ := rv.one
  obtain ⟨z, its, k, r, hl, e⟩ := I.lstM hH
  obtain ⟨t, rfl⟩ := (show ∃ t, u = Value.int n t from ru)
  obtain ⟨j, hj, h1, h2, h3⟩ := map_erase n ns r hm
  have hz : its.length ≤ sizeLine := by rw [← hl]; exact z
  refine call_meets F.slot_list_remove ⟨_, e, rfl⟩ F.entry_list_remove (F.args_list_remove_2 _ _) (MeetsSeq.list_remove l its.toArray k (.int n t) (eqU (.int n)) ?_ j (by simpa using hj) (by simpa using h1) (fun m hm hmj => by simpa using h2 m (by simpa using hm) hmj) (by rw [List.size_toArray]; exact hz)) ⟨e, ?_⟩
  · intro y hy
    have hy' : y ∈ its := by simpa using hy
    obtain ⟨i, hi, ei⟩ := List.mem_iff_getElem.mp hy'
    have hl' : (ns.map V.int).length = its.length := r.length
    have hi' : i < ns.length := by rw [List.length_map] at hl'; omega
    obtain ⟨u, hu, ru⟩ := r.get (i := i) (x := .int ns[i]) (by rw [List.getElem?_map, List.getElem?_eq_getElem hi'] <;> rfl)
    rw [List.getElem?_eq_getElem hi, ei] at hu
    cases hu
    obtain ⟨t', rfl⟩ := ru
    exact MeetsSeq.EqGives.int ns[i] n t' t
  · refine ⟨.non, _, I.lset (its' := its.eraseIdx j) hH e (by simp [Array.eraseIdxIfInBounds, hj]) h3 ?_, rfl, q⟩
    rw [List.length_map]
    have := List.length_erase_le (a := n) (l := ns)
    rw [List.length_map] at z
    omega
end
end L2

namespace L2
open PySem PySem.Spec PyProof.Rows
section
variable {prog : Program} {w : World} {A : Around} {E : Value → Shared → Prop} {s : Shared}
theorem cut_whole {t sl : Addr} {items : Array Value} {vl vu : Value} {lo hi : Option Int} {Q : Value → Shared → Prop} (ht : IsTup s.heap t items) (hs : s.heap.IsSliceOf sl vl vu .none) (pl : IsPart vl lo) (pu : IsPart vu hi)
    (hw : HT.sIx items.size 0 lo = 0 ∧ HT.sIx items.size items.size hi = items.size) (h : Q (.ref t) s) : wpAny (model prog w) A (getItem (.ref t) (.ref sl)) Q E s := by
  obtain ⟨os, hos, hcs, hds⟩ := id hs
  have hTs : s.TypeIs (.ref sl) "slice" := ⟨os, hos, hcs⟩
  unfold getItem
  try with_reducible refine wpAny_holding ?_
  first | refine wpAny_bind (wpAny_pure ?_) | skip
  refine wpAny_bind (wpAny_sequenceKey ht.typeIs (by decide) ?_)
  refine wpAny_bind (wpAny_callSpecial?_slot (name := Str.ofString "__getitem__") ht.typeIs PyProof.Rows.slot_tuple_getitem (wpAny_call_entry PyProof.Rows.slot_tuple_getitem ht.typeIs entry_tuple_getitem ?_ (args_tuple_getitem _ _)))
  show wpAny _ _ (Builtin.Tuple.tupleItemsOf (.ref t) >>= _) _ _ s
  refine wpAny_bind (tupleItemsOf_ ht ?_)
  refine wpAny_bind (wpAny_typeOf hTs ?_)
  rw [if_pos (by decide)]
  refine wpAny_bind (HT.sliceApplied_gen hs pl pu ?_)
  rw [hw.1, hw.2]
  show wpAny _ _ (if (((0 : Nat) : Int) == 0 && (1 : Int) == 1 && (items.size - 0) == items.size) = true then _ else _) _ _ s
  rw [if_pos (by simp)]
  show wpAny _ _ (Builtin.Tuple.tupleIsExact (.ref t) >>= _) _ _ s
  refine wpAny_bind ?_
  unfold Builtin.Tuple.tupleIsExact
  refine wpAny_bind (wpAny_typeOf ht.typeIs (wpAny_pure ?_))
  first
    | exact wpAny_bind (wpAny_rule (wpAny_pure ⟨_, rfl, wpAny_pure h⟩))
    | (simp only [beq_self_eq_true, if_true]; exact wpAny_bind (wpAny_rule (wpAny_bind (wpAny_pure (wpAny_pure ⟨_, rfl, wpAny_pure h⟩)))))
    | (simp only [beq_self_eq_true, if_true]; exact wpAny_bind (wpAny_rule (wpAny_pure ⟨_, rfl, wpAny_pure h⟩)))
end
section
variable {X : Cx}
/-- t[a:b] where it is the whole: t itself -/
def rSlW (K : PySem.W.Frag) : V → Option Int → Option Int → Hp → VK → Prop := fun x lo hi H Q => ∃ a xs, x = .ref a ∧ SqT K H a xs ∧ HT.sIx xs.length 0 lo = 0 ∧ HT.sIx xs.length xs.length hi = xs.length ∧ Q (.ref a) H
theorem sl_tupW : SlR X (rSlW X.K) := by
  intro pins s σ H x v vl vu lo hi sl Q I rx hs pl pu h
  obtain ⟨a, xs, rfl, hx, h1, h2, q⟩ := h
  cases rx
  obtain ⟨its, r, ht, hz⟩ := I.tuple hx
  have hlen : its.toArray.size = xs.length := by rw [List.size_toArray]; exact r.length.symm
  refine ⟨"tuple", _, PyProof.Rows.slot_tuple_getitem.lookup, ht.typeIs, cut_whole ht hs pl pu (by rw [hlen]; exact ⟨h1, h2⟩) ⟨.ref a, H, I, rfl, q⟩⟩
end
end L2
namespace L2
open PySem PySem.Spec PyProof.Rows
section
variable {prog : Program} {w : World} {A : Around} {E : Value → Shared → Prop} {s : Shared}
theorem cat_nil {t b : Addr} {vs ws : List Value} {Q : Value → Shared → Prop} (ht : IsTup s.heap t vs.toArray) (hb : IsTup s.heap b ws.toArray) (hv : vs = []) (h : Q (.ref b) s) : wpAny (model prog w) A (binaryOp .Add (.ref t) (.ref b)) Q E s := by
  obtain ⟨⟨cls, dd, data, sl⟩, ho, hc, n, hd⟩ := id ht
  obtain ⟨⟨cls2, dd2, data2, sl2⟩, ho2, hc2, n2, hd2⟩ := id hb
  simp only at hc hd hc2 hd2
  subst hc hd hc2 hd2
  exact concat_meets ⟨_, ho, rfl⟩ ⟨_, ho2, rfl⟩ noFill_tuple_add seq_tuple_add PySem.F.slot_tuple_add PySem.F.entry_tuple_add (PySem.F.args_tuple_add_2 _ _) (tuple_addW0 t b vs.toArray ws.toArray n n2 dd dd2 sl sl2 (by simp [hv])) ⟨ho, ho2, h⟩
end
section
variable {X : Cx}
end
structure Own (P : Program) (w : World) (K : PySem.W.Frag) (mg : Str → Option Value) (base : Heap) (k : Nat) (x : Str) (ps : List Str) (sp : Sp) : Prop where
  ex : ∃ (f : Addr) (fd : FuncData), FnOk P w K mg base CX0 k f fd ps sp ∧ mg x = some (.ref f) ∧ PySem.W.keepIn K (.ref f) = true ∧ Binds K fd ps []
section
variable {X : Cx}
theorem pe_own {k n : Nat} {x : Str} {ps : List Str} {sp : Sp} {p pos : Pos} {e : Expr} {es : List Expr} {t : TA} (O : Own X.prog X.w X.K X.mg X.base k x ps sp) (hr : Room n X.A) (ha : PA X (e :: es) t) (hkn : k ≤ n := by decide) (hg : Gl X x := by rfl)
    (hdb : (x == ("__debug__" : Str)) = false := by decide) (he : starEach (e :: es) X.env = (false, eval e X.env) :: starEach es X.env := by rfl) (hpl : (backTo pos (starEach es X.env)).any (·.1) = false := by rfl) :
    PE X (.Call (.Name x p) (e :: es) [] pos) (tCall sp [] E0 t) := by
  obtain ⟨f, fd, F, m, kp, b⟩ := O.ex
  exact pe_call F (hr.mono hkn) hg m kp b .nil pass0 ha hdb he hpl
end
/-- names that are Python's own here -/
structure Bt (mg : Str → Option Value) : Prop where
  len : mg "len" = none
  isinstance : mg "isinstance" = none
  range : mg "range" = none
  int : mg "int" = none
  bool : mg "bool" = none
  tuple : mg "tuple" = none
  list : mg "list" = none
  all : mg "all" = none
  enumerate : mg "enumerate" = none
  zip : mg "zip" = none
  sum : mg "sum" = none
  sorted : mg "sorted" = none
  max : mg "max" = none
  min : mg "min" = none
  set : mg "set" = none
  str : mg "str" = none
theorem boot_isi : bootBuiltins "isinstance" = some (.builtin "isinstance") := by decide +kernel
theorem small {n : Nat} (h : n ≤ 1000) : n ≤ sizeLine := Nat.le_of_lt (small1000 h)
end L2
namespace L2
open PySem PySem.Spec PyProof.Rows
section
variable {X : Cx}
end
end L2
namespace L2
open PySem PySem.Spec PyProof.Rows
section
variable {X : Cx}
theorem kx_in (K : PySem.W.Frag) (h : X.K = K := by rfl) : OpR X (compareOp .In) (rIn K false) := h ▸ op_in_seq
theorem kx_eqD (K : PySem.W.Frag) (hu : X.A.units + 64 < cLine) (h : X.K = K := by rfl) : OpR X (compareOp .Eq) (rEqD K false) := h ▸ op_eqD hu
theorem kx_neD (K : PySem.W.Frag) (hu : X.A.units + 64 < cLine) (h : X.K = K := by rfl) : OpR X (compareOp .NotEq) (rEqD K true) := h ▸ op_neD hu
def rListOf (K : PySem.W.Frag) : List V → Hp → VK → Prop := fun xs H Q => ∃ p ys, xs = [.ref p] ∧ (SqL K H p ys ∨ SqT K H p ys) ∧ ∀ l, H l = none → Q (.ref l) (upd H l (.lst ys))
def rTupleOf (K : PySem.W.Frag) : List V → Hp → VK → Prop := fun xs H Q => ∃ p ys, xs = [.ref p] ∧ ((SqL K H p ys ∧ ∀ l, H l = none → Q (.ref l) (upd H l (.tup ys))) ∨ (SqT K H p ys ∧ Q (.ref p) H))
theorem kx_list (K : PySem.W.Frag) (h : X.K = K := by rfl) : CallR X (.type "list") (rListOf K) := h ▸ call_list_of
theorem kx_tuple (K : PySem.W.Frag) (h : X.K = K := by rfl) : CallR X (.type "tuple") (rTupleOf K) := h ▸ call_tuple_of
theorem kx_all (K : PySem.W.Frag) (h : X.K = K := by rfl) (hc : X.calm = true := by rfl) : CallR X (.builtin "all") (rAll K) := h ▸ call_all hc
theorem kx_pair {es : List Expr} {k1 : Nat} {t : TGs} {n : Nat} {pos : Pos} (K : PySem.W.Frag) (h2 : PGs X es t) (h : X.K = K := by rfl) (hc : X.calm = true := by rfl) (hn : (assignEach es X.env).length = n := by rfl) (hst : (assignEach es X.env).findIdx? (·.1) = none := by rfl) : PG X (.Tuple es k1 pos) (gTup K n t) := h ▸ pg_tup hc h2 hn hst
def tTru (K : PySem.W.Frag) (ta : TE) : TT := fun σ H Q => ta σ H fun x H' => ∃ k, TruV K x H' k ∧ Q k H'
theorem kx_tru {a : Expr} {ta : TE} (K : PySem.W.Frag) (ha : PE X a ta) (h : X.K = K := by rfl) (he : ∀ whole, isTrue a X.env whole = (do let v ← whole; standAt a.pos; holding [v] (truthy v)) := by intro _; rfl) : PT X a (tTru K ta) := h ▸ pt_truth ha he
end
end L2
namespace L2
open PySem PySem.Spec PyProof.Rows
end L2
namespace L2
open PySem PySem.Spec PyProof.Rows
theorem inV_int (c : Int) : ∀ u : List Int, inV (.int c) (u.map V.int) = decide (c ∈ u)
  | [] => rfl
  | a :: u => by
    have ih := inV_int c u
    show (eqV (.int a) (.int c) || inV (.int c) (u.map V.int)) = _
    rw [ih]
    show ((a == c) || decide (c ∈ u)) = _
    by_cases e : a = c
    · subst e; simp
    · have e' : ¬ c = a := fun z => e z.symm
      have : (a == c) = false := by simpa using e
      rw [this]
      simp [e']
theorem flat_ints : ∀ u : List Int, (u.map V.int).all flatV = true
  | [] => rfl
  | _ :: u => by
    show (true && (u.map V.int).all flatV) = true
    rw [flat_ints u]
    rfl
end L2

namespace L2
open PySem PySem.Spec PyProof.Rows
theorem cells_mem : ∀ {names : List (Str × NameKind)} {n : Nat} {acc : List (Str × Addr)} {x : Str} {c : Addr}, (x, c) ∈ cellsFrom n names acc → (x, c) ∈ acc ∨ (n ≤ c ∧ (x, NameKind.cell) ∈ names)
  | [], n, acc, x, c, h => .inl h
  | (y, k) :: r, n, acc, x, c, h => by
    unfold cellsFrom at h
    by_cases hk : (k == .cell) = true
    · rw [if_pos hk] at h
      have hk' : k = .cell := by simpa using hk
      rcases cells_mem h with q | ⟨q1, q2⟩
      · rcases List.mem_cons.mp q with q | q
        · injection q with q1 q2
          subst q1 q2
          exact .inr ⟨Nat.le_refl _, by rw [hk']; exact List.mem_cons_self⟩
        · exact .inl q
      · exact .inr ⟨Nat.le_of_succ_le q1, List.mem_cons_of_mem _ q2⟩
    · rw [if_neg hk] at h
      rcases cells_mem h with q | ⟨q1, q2⟩
      · exact .inl q
      · exact .inr ⟨q1, List.mem_cons_of_mem _ q2⟩
theorem cells_inj : ∀ {names : List (Str × NameKind)} {n : Nat} {acc : List (Str × Addr)} {x y : Str} {c : Addr}, (∀ z ∈ acc, z.2 < n) → (x, c) ∈ cellsFrom n names acc → (y, c) ∈ cellsFrom n names acc → n ≤ c → x = y
  | [], n, acc, x, y, c, ha, h1, _, hc => absurd (ha _ h1) (Nat.not_lt.mpr hc)
  | (z, k) :: r, n, acc, x, y, c, ha, h1, h2, hc => by
    unfold cellsFrom at h1 h2
    by_cases hk : (k == .cell) = true
    · rw [if_pos hk] at h1 h2
      have ha' : ∀ w ∈ (z, n) :: acc, w.2 < n + 1 := fun w hw => by
        rcases List.mem_cons.mp hw with q | q
        · rw [q]; exact Nat.lt_succ_self _
        · exact Nat.lt_succ_of_lt (ha w q)
      by_cases e : c = n
      · subst e
        have only : ∀ {u : Str}, (u, c) ∈ cellsFrom (c + 1) r ((z, c) :: acc) → u = z := fun {u} hu => by
          rcases cells_mem hu with q | ⟨q, _⟩
          · rcases List.mem_cons.mp q with q | q
            · injection q
            · exact absurd (ha _ q) (Nat.lt_irrefl _)
          · exact absurd q (Nat.not_succ_le_self _)
        rw [only h1, only h2]
      · exact cells_inj ha' h1 h2 (Nat.succ_le_of_lt (Nat.lt_of_le_of_ne hc (fun q => e q.symm)))
    · rw [if_neg hk] at h1 h2
      exact cells_inj ha h1 h2 hc
theorem cells_new {lo : Nat} : ∀ {names : List (Str × NameKind)} {n : Nat} {acc : List (Str × Addr)} {x : Str} {c : Addr}, lo ≤ n → (names.lookup x = some .cell ∨ ∃ c0, acc.lookup x = some c0 ∧ lo ≤ c0) → (cellsFrom n names acc).lookup x = some c → lo ≤ c
  | [], n, acc, x, c, hn, h, e => by
    rcases h with h | ⟨c0, h1, h2⟩
    · simp at h
    · have e' : acc.lookup x = some c := e
      rw [h1] at e'
      cases e'
      exact h2
  | (y, k) :: r, n, acc, x, c, hn, h, e => by
    unfold cellsFrom at e
    by_cases hk : (k == .cell) = true
    · rw [if_pos hk] at e
      refine cells_new (Nat.le_succ_of_le hn) ?_ e
      cases hx : x == y with
      | true => exact .inr ⟨n, by simp [List.lookup_cons, hx], hn⟩
      | false =>
        rcases h with h | ⟨c0, h1, h2⟩
        · exact .inl (by simpa only [List.lookup_cons, hx] using h)
        · exact .inr ⟨c0, by simpa only [List.lookup_cons, hx] using h1, h2⟩
    · rw [if_neg hk] at e
      refine cells_new hn ?_ e
      rcases h with h | h
      · cases hx : x == y with
        | true =>
          simp only [List.lookup_cons, hx] at h
          have : k = .cell := Option.some.inj h
          rw [this] at hk
          exact absurd rfl hk
        | false => exact .inl (by simpa only [List.lookup_cons, hx] using h)
      · exact .inr h
theorem cells_old : ∀ {names : List (Str × NameKind)} {n : Nat} {acc : List (Str × Addr)} {x : Str}, (∀ y ∈ names, y.1 = x → y.2 ≠ .cell) → (cellsFrom n names acc).lookup x = acc.lookup x
  | [], _, _, _, _ => rfl
  | (y, k) :: r, n, acc, x, h => by
    have hr : ∀ z ∈ r, z.1 = x → z.2 ≠ .cell := fun z hz => h z (List.mem_cons_of_mem _ hz)
    unfold cellsFrom
    by_cases hk : (k == .cell) = true
    · rw [if_pos hk, cells_old hr]
      have hk' : k = .cell := by simpa using hk
      have hx : (x == y) = false := by
        have : y ≠ x := fun q => h (y, k) List.mem_cons_self q hk'
        simpa using fun q : x = y => this q.symm
      simp only [List.lookup_cons, hx]
    · rw [if_neg hk, cells_old hr]
theorem push_cells : ∀ {names : List (Str × NameKind)} {h : Heap} {acc : List (Str × Addr)} {x : Str} {c : Addr}, (∀ z ∈ acc, z.2 < h.objs.size) → (x, c) ∈ cellsFrom h.objs.size names acc → h.objs.size ≤ c → (pushCells h names).IsCell c none
  | [], h, acc, x, c, ha, hm, hc => absurd (ha _ hm) (Nat.not_lt.mpr hc)
  | (y, k) :: r, h, acc, x, c, ha, hm, hc => by
    unfold cellsFrom at hm
    unfold pushCells
    by_cases hk : (k == .cell) = true
    · rw [if_pos hk] at hm ⊢
      have z : (h.push { cls := .type "cell", data := .cell none }).objs.size = h.objs.size + 1 := Heap.size_push ..
      have ha' : ∀ w ∈ (y, h.objs.size) :: acc, w.2 < (h.push { cls := .type "cell", data := .cell none }).objs.size := fun w hw => by
        rw [z]
        rcases List.mem_cons.mp hw with q | q
        · rw [q]; exact Nat.lt_succ_self _
        · exact Nat.lt_succ_of_lt (ha w q)
      by_cases e : c = h.objs.size
      · exact ⟨_, pushCells_keeps _ _ _ _ (by rw [e]; exact Heap.get?_push_size _ rfl), rfl⟩
      · rw [← z] at hm
        exact push_cells ha' hm (by rw [z]; exact Nat.succ_le_of_lt (Nat.lt_of_le_of_ne hc fun q => e q.symm))
    · rw [if_neg hk] at hm ⊢
      exact push_cells ha hm hc
theorem relab_cf {env : Env} : ∀ {names : List (Str × NameKind)} {x : Str},
    (((names.map fun (n, k) => if (k == NameKind.free && env.scope.kind == .function && env.kindOf n == some .cell) then (n, NameKind.cell) else (n, k)).lookup x = some .cell) ∨
     ((names.map fun (n, k) => if (k == NameKind.free && env.scope.kind == .function && env.kindOf n == some .cell) then (n, NameKind.cell) else (n, k)).lookup x = some .free)) →
    names.lookup x = some .cell ∨ names.lookup x = some .free
  | [], x, h => by rcases h with h | h <;> simp at h
  | (n, k) :: r, x, h => by
    have e1 : ((n, k) :: r).map (fun (n, k) => if (k == NameKind.free && env.scope.kind == .function && env.kindOf n == some .cell) = true then (n, NameKind.cell) else (n, k)) =
      (if (k == NameKind.free && env.scope.kind == .function && env.kindOf n == some .cell) = true then (n, NameKind.cell) else (n, k)) :: r.map (fun (n, k) => if (k == NameKind.free && env.scope.kind == .function && env.kindOf n == some .cell) = true then (n, NameKind.cell) else (n, k)) := rfl
    rw [e1] at h
    cases hx : x == n with
    | true =>
      by_cases c : (k == NameKind.free && env.scope.kind == .function && env.kindOf n == some .cell) = true
      · have : k = .free := by
          simp only [Bool.and_eq_true] at c
          simpa using c.1.1
        subst this
        right
        simp [List.lookup_cons, hx]
      · rw [if_neg c] at h
        simpa only [List.lookup_cons, hx] using h
    | false =>
      have : ((r.map fun (n, k) => if (k == NameKind.free && env.scope.kind == .function && env.kindOf n == some .cell) = true then (n, NameKind.cell) else (n, k)).lookup x = some .cell) ∨
          ((r.map fun (n, k) => if (k == NameKind.free && env.scope.kind == .function && env.kindOf n == some .cell) = true then (n, NameKind.cell) else (n, k)).lookup x = some .free) := by
        by_cases c : (k == NameKind.free && env.scope.kind == .function && env.kindOf n == some .cell) = true
        · rw [if_pos c] at h; simpa only [List.lookup_cons, hx] using h
        · rw [if_neg c] at h; simpa only [List.lookup_cons, hx] using h
      have q := relab_cf this
      simpa only [List.lookup_cons, hx] using q
section
variable {M : Model} {A : Around} {E : Value → Shared → Prop} {s : Shared}
theorem nfe_cells {scope : Scope} {cl : List (Str × Addr)} {env : Env} {Q : Env → Shared → Prop}
    (hQ : Q { scope := scope, locals := s.heap.objs.size, globals := env.globals, cells := cellsFrom (s.heap.objs.size + 1) scope.names cl, qual := env.qual, func := none, code := env.code, frame := env.frame, builtins := env.builtins }
      { s with heap := pushCells (s.heap.push { cls := .type "dict", data := .dict #[] }) scope.names }) : wpAny M A (newFunctionEnv scope env.globals cl [] env.qual none .none (some env)) Q E s := by
  simp only [newFunctionEnv, Option.isSome_some, if_true]
  refine wpAny_bind (wpAny_alloc ?_)
  refine wpAny_bind (wpAny_layCells _ (fun name kind cells => by cases hkc : kind == NameKind.cell <;> simp [hkc]) _ _ _ _ ?_)
  rw [show ({ s with heap := s.heap.push { cls := .type "dict", data := .dict #[] } } : Shared).heap.objs.size = s.heap.objs.size + 1 from Heap.size_push ..]
  simp only [List.forIn_nil]
  exact wpAny_bind (wpAny_pure (wpAny_pure hQ))
end
def cxCp (X : Cx) (N : List Str) (sc : Scope) (C : Addr) (fp : List Addr) (s : Shared) (H : Hp) : Cx :=
  { X with N := N, s₀ := s, H₀ := H, env := compEnvC sc (cellsFrom (C + 1) sc.names (clOf X.env sc.names [])) C X.env, outer := X.stack, ex := fp, fn := fun x => sc.names.lookup x == some .cell, pn := [], xe := fun _ _ => False }
section
variable {X : Cx}
theorem cp_cells {pins : List (Addr × Obj)} {σ : St} {H : Hp} {s : Shared} {sc : Scope} (I : Inv X pins σ H s) (hfree : ∀ y ∈ sc.names, y.2 = .free → X.env.kindOf y.1 = some .cell ∨ X.env.kindOf y.1 = some .free) {x : Str} {c : Addr}
    (e : (x, c) ∈ cellsFrom (s.heap.objs.size + 2) sc.names (clOf X.env sc.names [])) : (X.env.cells.lookup x = some c ∧ c < s.heap.objs.size) ∨ s.heap.objs.size + 2 ≤ c := by
  have hcl : ∀ y ∈ sc.names, y.2 = .free → ∃ c, X.env.cells.lookup y.1 = some c := fun y hy e => I.ok.has _ (hfree y hy e)
  rcases cells_mem e with q | ⟨q, _⟩
  · rcases clOf_mem hcl q with q | q
    · simp at q
    · obtain ⟨v, hv⟩ := I.cell x c q
      obtain ⟨o, ho, _⟩ := hv
      exact .inl ⟨q, Heap.lt_size ho⟩
  · exact .inr q
theorem cp_acc {pins : List (Addr × Obj)} {σ : St} {H : Hp} {s : Shared} {sc : Scope} (I : Inv X pins σ H s) (hfree : ∀ y ∈ sc.names, y.2 = .free → X.env.kindOf y.1 = some .cell ∨ X.env.kindOf y.1 = some .free) :
    ∀ z ∈ clOf X.env sc.names [], z.2 < s.heap.objs.size := fun z hz => by
  have hcl : ∀ y ∈ sc.names, y.2 = .free → ∃ c, X.env.cells.lookup y.1 = some c := fun y hy e => I.ok.has _ (hfree y hy e)
  rcases clOf_mem (x := z.1) (c := z.2) hcl hz with q | q
  · simp at q
  · obtain ⟨v, hv⟩ := I.cell _ _ q
    obtain ⟨o, ho, _⟩ := hv
    exact Heap.lt_size ho
theorem cp_ok {pins : List (Addr × Obj)} {σ : St} {H : Hp} {s : Shared} {N : List Str} {sc : Scope} {fp : List Addr} (I : Inv X pins σ H s) (hk : sc.kind = .function)
    (hfree : ∀ y ∈ sc.names, y.2 = .free → X.env.kindOf y.1 = some .cell ∨ X.env.kindOf y.1 = some .free) (hf : ∀ b ∈ fp, FpOk X pins H b) (hb : ∀ b ∈ fp, b < s.heap.objs.size) :
    (cxCp X N sc (s.heap.objs.size + 1) fp s H).Ok := by
  have cc : ∀ x c, (cellsFrom (s.heap.objs.size + 2) sc.names (clOf X.env sc.names [])).lookup x = some c → (X.env.cells.lookup x = some c ∧ c < s.heap.objs.size) ∨ s.heap.objs.size + 2 ≤ c := fun x c e => cp_cells I hfree (PySem.mem_of_lookup e)
  have ca : ∀ z ∈ clOf X.env sc.names [], z.2 < s.heap.objs.size + 2 := fun z hz => Nat.lt_of_lt_of_le (cp_acc I hfree z hz) (Nat.le_add_right _ _)
  exact {
    mod := I.ok.mod
    kind := hk
    glob := I.ok.glob
    blt := I.ok.blt
    above := Nat.le_succ _
    inj := fun x y c h1 h2 => by
      have h1' : (cellsFrom (s.heap.objs.size + 2) sc.names (clOf X.env sc.names [])).lookup x = some c := h1
      have h2' : (cellsFrom (s.heap.objs.size + 2) sc.names (clOf X.env sc.names [])).lookup y = some c := h2
      rcases cc x c h1' with ⟨q1, l1⟩ | q1
      · rcases cc y c h2' with ⟨q2, _⟩ | q2
        · exact I.ok.inj x y c q1 q2
        · exact absurd (Nat.lt_of_lt_of_le l1 (Nat.le_trans (Nat.le_add_right _ 2) q2)) (Nat.lt_irrefl _)
      · exact cells_inj ca (PySem.mem_of_lookup h1') (PySem.mem_of_lookup h2') q1
    has := fun x h => by
      have h' := relab_cf h
      have q : ((cellsFrom (s.heap.objs.size + 2) sc.names (clOf X.env sc.names [])).lookup x).isSome = true := by
        rcases h' with h' | h'
        · exact PySem.W.cellsFrom_some _ _ _ (.inl h')
        · obtain ⟨c, hc⟩ := clOf_has (env := X.env) (acc := []) (.inl (PySem.mem_of_lookup h'))
          obtain ⟨d, hd⟩ := lookup_of_mem hc
          exact PySem.W.cellsFrom_some _ _ _ (.inr (by rw [hd]; rfl))
      exact Option.isSome_iff_exists.mp q
    cab := fun x c h e => by
      have h' : sc.names.lookup x = some .cell := by simpa [cxCp] using h
      exact Nat.le_trans (Nat.le_add_right _ 2) (cells_new (Nat.le_refl _) (.inl h') e)
    hd := I.ok.hd
    frames := I.ok.frames
    stk := .inl rfl
    exf := fun b hb' => ⟨Nat.ne_of_lt (Nat.lt_succ_of_lt (hb b hb')), fun x c e => by
      rcases cc x c e with ⟨q, _⟩ | q
      · exact (hf b hb').2.2.2.2.1 x c q
      · exact Nat.ne_of_gt (Nat.lt_of_lt_of_le (hb b hb') (Nat.le_trans (Nat.le_add_right _ 2) q))⟩
    bs := I.bs
    bsz := Nat.le_trans I.ok.bsz I.sz
    noex := fun b o e hb' => by
      rcases (hf b hb').2.2.2.1 with q | q
      · exact I.ok.noex b o e q
      · exact absurd (Nat.lt_of_lt_of_le (Heap.lt_size e) (Nat.le_trans I.ok.bsz q)) (Nat.lt_irrefl _)
    exfs := fun b hb' hs => by
      have q := I.stkSub b hs
      rcases List.mem_cons.mp q with q | q
      · exact (hf b hb').2.1 q
      · exact (hf b hb').2.2.1 q
    funs := I.stack
    frf := I.stkFree }
theorem cp_start {pins : List (Addr × Obj)} {σ : St} {H : Hp} {s : Shared} {h1 : Heap} {own : List Str} {fr : List (Str × Nat)} {n : Nat} {sc : Scope} {fp : List Addr} {m : Str → Option Value} {t' : Nat} (I : Inv X pins σ H s) (hk : sc.kind = .function)
    (hfree : ∀ y ∈ sc.names, y.2 = .free → X.env.kindOf y.1 = some .cell ∨ X.env.kindOf y.1 = some .free) (hfr : ∀ p ∈ fr, X.N[p.2]? = some p.1 ∧ sc.names.lookup p.1 = some .free ∧ ∀ y ∈ sc.names, y.1 = p.1 → y.2 ≠ .cell) (hn : own.length = n) (hf : ∀ b ∈ fp, FpOk X pins H b) (hb : ∀ b ∈ fp, b < s.heap.objs.size)
    (ns : h1.Ns (s.heap.objs.size + 1) m) (hD : h1.get? s.heap.objs.size = some { cls := .type "list", data := .seq ([] : List Value).toArray }) (old : ∀ b o, s.heap.get? b = some o → h1.get? b = some o)
    (hnc : ∀ x c, (x, c) ∈ cellsFrom (s.heap.objs.size + 2) sc.names (clOf X.env sc.names []) → s.heap.objs.size + 2 ≤ c → h1.IsCell c none) :
    Inv (cxCp X (own ++ fr.map (·.1)) sc (s.heap.objs.size + 1) fp s H) [] (st0 n fr σ) (upd H s.heap.objs.size (.lst [])) { s with heap := h1, toks := t' } := by
  have hcl : ∀ y ∈ sc.names, y.2 = .free → ∃ c, X.env.cells.lookup y.1 = some c := fun y hy e => I.ok.has _ (hfree y hy e)
  have look : ∀ x c, (clOf X.env sc.names []).lookup x = some c → X.env.cells.lookup x = some c := fun x c e => by
    rcases clOf_mem hcl (PySem.mem_of_lookup e) with q | q
    · simp at q
    · exact q
  have cellK : ∀ {c v}, s.heap.IsCell c v → h1.IsCell c v := fun {c v} q => by
    obtain ⟨o, ho, r⟩ := q
    exact ⟨o, old _ _ ho, r⟩
  have cc : ∀ x c, (cellsFrom (s.heap.objs.size + 2) sc.names (clOf X.env sc.names [])).lookup x = some c → (X.env.cells.lookup x = some c ∧ c < s.heap.objs.size) ∨ s.heap.objs.size + 2 ≤ c := fun x c e => cp_cells I hfree (PySem.mem_of_lookup e)
  have hnD : H s.heap.objs.size = none := I.hok.fresh (Nat.le_refl _)
  have hnC : H (s.heap.objs.size + 1) = none := I.hok.fresh (Nat.le_succ _)
  refine ⟨cp_ok I hk hfree hf hb, rfl, I.bare, Un.laid old (Nat.le_refl _) hnD, ⟨m, ns, fun i x v h1' h2 h3 => ?_⟩, fun x c e => ?_, ?_, fun x c e => ?_, fun p hp => ?_, I.hok.laid old (Nat.le_refl _) ?_, ?_⟩
  · obtain ⟨p, hp, e, q⟩ := st0_get hn h1' h2
    subst e
    obtain ⟨hN, hl, hno⟩ := hfr p hp
    obtain ⟨m0, _, q0⟩ := I.loc
    have kk := hfree (p.1, .free) (PySem.mem_of_lookup hl) rfl
    obtain ⟨u, ru, lk⟩ := q0 p.2 p.1 v hN q (.inr kk)
    refine ⟨u, ru, .inr ⟨relab_kind hl, ?_⟩⟩
    rcases lk with ⟨k1, _⟩ | ⟨_, c, e1, e2⟩
    · rcases kk with kk | kk
      · have kk' : X.env.kindOf p.1 = some .cell := kk
        rw [k1] at kk'; cases kk'
      · have kk' : X.env.kindOf p.1 = some .free := kk
        rw [k1] at kk'; cases kk'
    · obtain ⟨d, hd⟩ := clOf_has (env := X.env) (acc := []) (.inl (PySem.mem_of_lookup hl))
      obtain ⟨d', hd'⟩ := lookup_of_mem hd
      have e3 := look _ _ hd'
      rw [e1] at e3
      cases e3
      refine ⟨c, ?_, cellK e2⟩
      show (cellsFrom (s.heap.objs.size + 2) sc.names (clOf X.env sc.names [])).lookup p.1 = some c
      rw [cells_old hno]
      exact hd'
  · rcases cc x c e with ⟨q, _⟩ | q
    · obtain ⟨v, hv⟩ := I.cell x c q
      exact ⟨v, cellK hv⟩
    · exact ⟨none, hnc x c (PySem.mem_of_lookup e) q⟩
  · show upd H s.heap.objs.size _ (s.heap.objs.size + 1) = none
    rw [upd_ne (Nat.succ_ne_self _)]; exact hnC
  · show upd H s.heap.objs.size _ c = none
    rcases cc x c e with ⟨q, l⟩ | q
    · rw [upd_ne (Nat.ne_of_lt l)]; exact I.freeC x c q
    · rw [upd_ne (Nat.ne_of_gt (Nat.lt_of_lt_of_le (Nat.lt_succ_of_lt (Nat.lt_succ_self _)) q))]
      exact I.hok.fresh (Nat.le_trans (Nat.le_add_right _ 2) q)
  · exact absurd (show p ∈ ([] : List (Addr × Obj)) from hp) (by simp)
  · exact ⟨by show 0 ≤ sizeLine; decide, [], _, .nil, hD⟩
  · show (st0 n fr σ).length = (own ++ fr.map (·.1)).length
    unfold st0
    simp [hn]
/-- the block: from the iterator on, whatever is done with the list at the end -/
theorem cp_block {elt target iter : Expr} {ifs : List Expr} {sc : Scope} {pos : Pos} (own : List Str) (fr : List (Str × Nat)) {g : TG} {tc : TT} {te : TE} (hc : X.calm = true)
    (hk : sc.kind = .function) (hfree : ∀ y ∈ sc.names, y.2 = .free → X.env.kindOf y.1 = some .cell ∨ X.env.kindOf y.1 = some .free)
    (hfr : ∀ p ∈ fr, X.N[p.2]? = some p.1 ∧ sc.names.lookup p.1 = some .free ∧ ∀ y ∈ sc.names, y.1 = p.1 → y.2 ≠ .cell)
    (hg : ∀ C fp s H, PG (cxCp X (own ++ fr.map (·.1)) sc C fp s H) target g) (ht : ∀ C fp s H, PTs (cxCp X (own ++ fr.map (·.1)) sc C fp s H) ifs tc) (he : ∀ C fp s H, PE (cxCp X (own ++ fr.map (·.1)) sc C fp s H) elt te)
    {pins : List (Addr × Obj)} {σ : St} {s2 : Shared} {RR : Value → Addr → Result → Shared → Prop} {Q : V → Hp → Prop} {itv : Value}
    (h2 : PIE X pins σ target (fun J H1 => ∀ acc, H1 acc = none →
      ∃ W : Nat → Nat → St → Hp → Prop, (∃ m, W 0 m (st0 own.length fr σ) (upd H1 acc (.lst []))) ∧ ∀ i m σ' H', W i m σ' H' →
        (J.stop i H' ∧ Q (.ref acc) H') ∨ (J.go i H' ∧ ∃ Nx : St → Hp → Prop, (∀ σ2 H2, Nx σ2 H2 → ∃ m', m' < m ∧ W (i + 1) m' σ2 H2) ∧
          ∀ x H2, J.yld i H' x H2 → g x σ' H2 fun σ2 H3 => tc σ2 H3 fun b H4 => if b = true then te σ2 H4 fun y H5 => ∃ ys, H5 acc = some (.lst ys) ∧ ys.length < sizeLine ∧ Nx σ2 (upd H5 acc (.lst (ys ++ [y]))) else Nx σ2 H4)) itv s2)
    (hRR : ∀ (D C : Addr) (s4 : Shared) (H3 : Hp) (m4 : Str → Option Value), s2.heap.objs.size ≤ C → s4.heap.Ns C m4 → H3 C = none → Q (.ref D) H3 →
      (∀ h' : Heap, (∀ b, b ≠ C → h'.get? b = s4.heap.get? b) → Inv X pins σ H3 { s4 with heap := h' }) → RR (.ref D) C (.ok .next) s4) :
    wpAny (model X.prog X.w) X.A (newList []) (fun acc s₃ => wpAny (model X.prog X.w) X.A (newFunctionEnv sc X.env.globals (clOf X.env sc.names []) [] X.env.qual none .none (some X.env)) (fun cenv s₄ =>
      codeAny (model X.prog X.w) X.A (.compStart (.ListComp elt [⟨target, iter, ifs, 0⟩] sc pos) 0 itv acc { cenv with scope := relabel sc X.env }) (RR acc cenv.locals) s₄) X.xe s₃) X.xe s2 := by
  obtain ⟨it, fp, tn, J, H2, e, I2, T, st2, f2, r⟩ := h2
  subst e
  refine wpAny_newObj_type (nfe_cells ?_)
  dsimp only
  generalize hH2 : s2.heap.push { cls := .type "list", dict := none, data := .seq ([] : List Value).toArray } = G2
  have hC : G2.objs.size = s2.heap.objs.size + 1 := by rw [← hH2, Heap.size_push]
  have z3 : (G2.push { cls := .type "dict", data := .dict #[] }).objs.size = s2.heap.objs.size + 2 := by rw [Heap.size_push, hC]
  generalize hh1 : pushCells (G2.push { cls := .type "dict", data := .dict #[] }) sc.names = h₁
  have kp : ∀ b o, (G2.push { cls := .type "dict", data := .dict #[] }).get? b = some o → h₁.get? b = some o := fun b o e => by rw [← hh1]; exact pushCells_keeps _ _ b o e
  have old : ∀ b o, s2.heap.get? b = some o → h₁.get? b = some o := fun b o e => kp b o (Heap.get?_push_of_some _ (hH2 ▸ Heap.get?_push_of_some _ e))
  have hD : h₁.get? s2.heap.objs.size = some { cls := .type "list", data := .seq ([] : List Value).toArray } := kp _ _ (Heap.get?_push_of_some _ (hH2 ▸ Heap.get?_push_size _ rfl))
  have hns₁ : h₁.Ns (s2.heap.objs.size + 1) (fun _ => none) := by
    rw [← hC]
    exact (Heap.Ns.new G2 (.type "dict")).keeps kp
  have hnc : ∀ x c, (x, c) ∈ cellsFrom (s2.heap.objs.size + 2) sc.names (clOf X.env sc.names []) → s2.heap.objs.size + 2 ≤ c → h₁.IsCell c none := fun x c hm hc' => by
    rw [← hh1]
    refine push_cells (acc := clOf X.env sc.names []) (x := x) (fun z hz => ?_) (by rw [z3]; exact hm) (by rw [z3]; exact hc')
    rw [z3]
    exact Nat.lt_of_lt_of_le (cp_acc I2 hfree z hz) (Nat.le_add_right _ _)
  rw [hC]
  have below : ∀ b, b < s2.heap.objs.size → b ≠ s2.heap.objs.size + 1 := fun b hb => Nat.ne_of_lt (Nat.lt_succ_of_lt hb)
  have hb : ∀ b ∈ fp, b < s2.heap.objs.size := fun b hb => by
    obtain ⟨o, e, _⟩ := T.obj _ _ st2 b hb
    exact Heap.lt_size e
  have st1 : tn 0 h₁ := T.keep _ _ _ st2 fun b _ o e => old b o e
  obtain ⟨W, ⟨m0, w0⟩, turn⟩ := r s2.heap.objs.size (I2.hok.fresh (Nat.le_refl _))
  have J0 : ∀ t', Inv (cxCp X (own ++ fr.map (·.1)) sc (s2.heap.objs.size + 1) fp s2 H2) [] (st0 own.length fr σ) (upd H2 s2.heap.objs.size (.lst [])) { s2 with heap := h₁, toks := t' } := fun t' =>
    cp_start I2 hk hfree hfr rfl f2 hb hns₁ hD old hnc
  have fpn : ∀ b ∈ fp, upd H2 s2.heap.objs.size (.lst []) b = none := fun b hb' => by rw [upd_ne (Nat.ne_of_lt (hb b hb'))]; exact (f2 b hb').1
  have stat : ∀ {H' : Hp}, (∀ b ∈ fp, H' b = none) → ∀ b ∈ fp, FpOk (cxCp X (own ++ fr.map (·.1)) sc (s2.heap.objs.size + 1) fp s2 H2) [] H' b := fun {H'} hn b hb' =>
    have ok := (J0 0).ok
    ⟨hn b hb', (ok.exf b hb').1, ok.exfs b hb', .inl hb', (ok.exf b hb').2, fun p hp => absurd (show p ∈ ([] : List (Addr × Obj)) from hp) (by simp)⟩
  have loop : ∀ s3 : Shared, s3 = { s2 with heap := h₁ } →
      codeAny (model X.prog X.w) X.A (.compLoop (.ListComp elt [⟨target, iter, ifs, 0⟩] sc pos) 0 (.ref it) (.ref s2.heap.objs.size) (compEnvC sc (cellsFrom (s2.heap.objs.size + 1 + 1) sc.names (clOf X.env sc.names [])) (s2.heap.objs.size + 1) X.env))
        (RR (.ref s2.heap.objs.size) (s2.heap.objs.size + 1)) s3 := by
    rintro s3 rfl
    refine compLoop_go (fun n s' => ∃ i σ' H', Inv (cxCp X (own ++ fr.map (·.1)) sc (s2.heap.objs.size + 1) fp s2 H2) [] σ' H' s' ∧ tn i s'.heap ∧ (∀ b ∈ fp, H' b = none) ∧ W i n σ' H') ?_ m0 ⟨0, _, _, J0 _, st1, fpn, w0⟩
    rintro n s3 ⟨i, σ3, H3, I3, st3, fr3, w3⟩
    rcases turn i n σ3 H3 w3 with ⟨stop, qn⟩ | ⟨go, N, hN, step⟩
    · refine thn (T.done (cxCp X (own ++ fr.map (·.1)) sc (s2.heap.objs.size + 1) fp s2 H2) rfl rfl rfl hc i [] s3 σ3 H3 (fun _ _ => False) I3 (stat fr3) st3 stop) fun r s4 ⟨hr, I4⟩ => ?_
      subst hr
      obtain ⟨m4, ns4, _⟩ := I4.loc
      have hCn : H3 (s2.heap.objs.size + 1) = none := I4.free
      refine hRR _ _ s4 H3 m4 (Nat.le_succ _) ns4 hCn qn fun h' sb => ?_
      have u : Un (frs X.stack) fp H2 H3 s2.heap s4.heap := I4.base
      have u' : Un (frs X.stack) fp H2 H3 s2.heap h' := {
        keep := fun b o e n1 n2 n3 => (sb b (below b (Heap.lt_size e))).trans (u.keep b o e n1 n2 n3)
        slot := fun b o e n1 n2 n3 => by
          obtain ⟨sl, q⟩ := u.slot b o e n1 n2 n3
          exact ⟨sl, (sb b (below b (Heap.lt_size e))).trans q⟩
        free := u.free
        there := fun b o e n1 => by
          obtain ⟨o', q⟩ := u.there b o e n1
          exact ⟨o', (sb b (below b (Heap.lt_size e))).trans q⟩
        tups := u.tups
        frzs := u.frzs
        tbls := u.tbls }
      have hok' : HOk X.prog X.w H3 h' := fun a o e => (I4.hok a o e).stay (fun b u q z => (sb b (by
        rcases q with q | q
        · subst q; exact ne_of_none e hCn
        · exact ne_of_none q hCn)).trans z) (fun _ q => q) fun _ _ q => q
      exact I2.call' (s' := { s4 with heap := h' }) (ch := fp) I4.os u' hok' I4.bare fun b hb' => ⟨(f2 b hb').2.2.2.1, (f2 b hb').2.1, (f2 b hb').2.2.2.2.1, (f2 b hb').2.2.2.2.2⟩
    · refine thn (T.item (cxCp X (own ++ fr.map (·.1)) sc (s2.heap.objs.size + 1) fp s2 H2) rfl rfl rfl hc i [] s3 σ3 H3 (fun _ _ => False) I3 (stat fr3) st3 go) fun r s4 ⟨u, hr, h4⟩ => ?_
      subst hr
      refine thn h4 fun _ s5 ⟨x, H5, I5, r5, y5, st5, fr5⟩ => ?_
      have I5' := I5.pinned (stat fr5) (T.obj _ _ st5)
      refine thn (hg _ _ _ _ _ s5 σ3 H5 x u _ I5' r5 (step x H5 y5)) fun _ s6 ⟨σ6, H6, I6, q6⟩ => ?_
      refine thn (ht _ _ _ _ _ s6 σ6 H6 _ I6 q6) fun b s7 ⟨H7, I7, q7⟩ => ?_
      have again : ∀ {σ7 : St} {H7 : Hp} {s7 : Shared}, Inv (cxCp X (own ++ fr.map (·.1)) sc (s2.heap.objs.size + 1) fp s2 H2) ([] ++ pinsAt fp s5.heap) σ7 H7 s7 → N σ7 H7 →
          ∃ m, m < n ∧ ∃ i σ' H', Inv (cxCp X (own ++ fr.map (·.1)) sc (s2.heap.objs.size + 1) fp s2 H2) [] σ' H' s7 ∧ tn i s7.heap ∧ (∀ b ∈ fp, H' b = none) ∧ W i m σ' H' := fun {σ7 H7 s7} I7 n7 => by
        obtain ⟨m', hm, w7⟩ := hN σ7 H7 n7
        refine ⟨m', hm, i + 1, σ7, H7, I7.unpinned, T.keep _ _ _ st5 fun b hb o e => (I7.pin (b, o) (List.mem_append_right _ (List.mem_append_right _ (mem_pinsAt hb e)))).1, fun b hb => ?_, w7⟩
        obtain ⟨o, e, d⟩ := T.obj _ _ st5 b hb
        exact (I7.pin (b, o) (List.mem_append_right _ (List.mem_append_right _ (mem_pinsAt hb e)))).2.1
      cases b with
      | false =>
        have q7' : N σ6 H7 := q7
        rw [if_neg (by simp)]
        exact again I7 q7'
      | true =>
        rw [if_pos rfl]
        refine thn (he _ _ _ _ _ s7 σ6 H7 _ I7 q7) fun yv s8 ⟨y, H8, I8, r8, ys, e8, z8, n8⟩ => ?_
        refine thn (mt_append (X := cxCp X (own ++ fr.map (·.1)) sc (s2.heap.objs.size + 1) fp s2 H2) _ s8 σ6 H8 (.ref s2.heap.objs.size) [y] _ [yv] (fun v H' => v = .non ∧ H' = upd H8 s2.heap.objs.size (.lst (ys ++ [y]))) I8 rfl (.cons r8 .nil) ⟨_, ys, y, rfl, rfl, e8, z8, rfl, rfl⟩) fun _ s9 ⟨v, H9, I9, _, e1, e9⟩ => ?_
        subst e9
        exact again I9 n8
  exact codeAny_compStart_list (loop _ rfl) (T.self X.A 0 _ _ _ st1 (loop _ rfl))
theorem cp_checks {sc : Scope} {fr : List (Str × Nat)} (hfree : (sc.names.all fun y => y.2 != .free || (X.env.kindOf y.1 == some .cell || X.env.kindOf y.1 == some .free)) = true)
    (hfr : (fr.all fun p => X.N[p.2]? == some p.1 && sc.names.lookup p.1 == some .free && sc.names.all fun y => y.1 != p.1 || y.2 != .cell) = true) (hnm : (sc.names.all fun y => y.2 != .local || sc.names.lookup y.1 == some .local) = true) :
    (∀ y ∈ sc.names, y.2 = .free → X.env.kindOf y.1 = some .cell ∨ X.env.kindOf y.1 = some .free) ∧ (∀ p ∈ fr, X.N[p.2]? = some p.1 ∧ sc.names.lookup p.1 = some .free ∧ ∀ y ∈ sc.names, y.1 = p.1 → y.2 ≠ .cell) ∧ ∀ x ∈ sc.names, x.2 = .local → sc.names.lookup x.1 = some .local := by
  refine ⟨fun y hy e => ?_, fun p hp => ?_, fun y hy e => ?_⟩
  · have := List.all_eq_true.mp hfree y hy
    rw [e] at this
    simpa using this
  · have := List.all_eq_true.mp hfr p hp
    rw [Bool.and_eq_true, Bool.and_eq_true, List.all_eq_true] at this
    obtain ⟨⟨h1, h2⟩, h3⟩ := this
    refine ⟨by simpa using h1, by simpa using h2, fun y hy e z => ?_⟩
    have := h3 y hy
    rw [e, z] at this
    simp at this
  · have := List.all_eq_true.mp hnm y hy
    rw [e] at this
    simpa using this
theorem pe_compC {elt target iter : Expr} {ifs : List Expr} {sc : Scope} {pos : Pos} (own : List Str) (fr : List (Str × Nat)) {wi : TI} {g : TG} {tc : TT} {te : TE} (hi : PI X target iter wi)
    (hg : ∀ C fp s H, PG (cxCp X (own ++ fr.map (·.1)) sc C fp s H) target g) (ht : ∀ C fp s H, PTs (cxCp X (own ++ fr.map (·.1)) sc C fp s H) ifs tc) (he : ∀ C fp s H, PE (cxCp X (own ++ fr.map (·.1)) sc C fp s H) elt te)
    (hc : X.calm = true := by rfl) (hk : sc.kind = .function := by rfl)
    (hfree : (sc.names.all fun y => y.2 != .free || (X.env.kindOf y.1 == some .cell || X.env.kindOf y.1 == some .free)) = true := by rfl)
    (hfr : (fr.all fun p => X.N[p.2]? == some p.1 && sc.names.lookup p.1 == some .free && sc.names.all fun y => y.1 != p.1 || y.2 != .cell) = true := by rfl) (hnm : (sc.names.all fun y => y.2 != .local || sc.names.lookup y.1 == some .local) = true := by rfl)
    (hs : ∀ x, foldedSetIterable iter X.env x = pure x := by intro _; rfl) :
    PE X (.ListComp elt [⟨target, iter, ifs, 0⟩] sc pos) (tComp own.length fr wi g tc te) := by
  obtain ⟨c1, c2, c3⟩ := cp_checks hfree hfr hnm
  intro pins s σ H Q I h
  rw [eval_ListComp]
  have hcl : ∀ y ∈ sc.names, y.2 = .free → ∃ c, X.env.cells.lookup y.1 = some c := fun y hy e => I.ok.has _ (c1 y hy e)
  refine wpAny_comprehension_free (use := none) rfl hs (closureFor_eq hcl) hk c3 (thn (hi pins s σ H _ I h) fun xv s₁ h₁ => thn h₁ fun itv s2 h2 => ?_)
  refine cp_block (RR := fun acc C => compPost (model X.prog X.w) X.A X.xe none (EP X pins σ Q) acc C) own fr hc hk c1 c2 hg ht he h2 ?_
  intro D C s4 H3 m4 hC ns4 hCn q inv
  exact ⟨m4, ns4, fun h' sb => ⟨.ref D, H3, inv h' fun b hb => sb.2 b hb, rfl, q⟩⟩
/-- x = [..]: it is stored before the block's names go -/
theorem ps_setC {i : Nat} {x : Str} {elt target iter : Expr} {ifs : List Expr} {sc : Scope} {pos spos : Pos} {pos' : Pos} (own : List Str) (fr : List (Str × Nat)) {wi : TI} {g : TG} {tc : TT} {te : TE} (hN : X.N.Nodup) (hx1 : X.N[i]? = some x) (hx : Loc X.env.scope x) (hi : PI X target iter wi)
    (hg : ∀ C fp s H, PG (cxCp X (own ++ fr.map (·.1)) sc C fp s H) target g) (ht : ∀ C fp s H, PTs (cxCp X (own ++ fr.map (·.1)) sc C fp s H) ifs tc) (he : ∀ C fp s H, PE (cxCp X (own ++ fr.map (·.1)) sc C fp s H) elt te)
    (hsw : swapsWith (.ListComp elt [⟨target, iter, ifs, 0⟩] sc pos) (some (.Name x pos')) spos.line X.env = pure true := by rfl)
    (hc : X.calm = true := by rfl) (hk : sc.kind = .function := by rfl)
    (hfree : (sc.names.all fun y => y.2 != .free || (X.env.kindOf y.1 == some .cell || X.env.kindOf y.1 == some .free)) = true := by rfl)
    (hfr : (fr.all fun p => X.N[p.2]? == some p.1 && sc.names.lookup p.1 == some .free && sc.names.all fun y => y.1 != p.1 || y.2 != .cell) = true := by rfl) (hnm : (sc.names.all fun y => y.2 != .local || sc.names.lookup y.1 == some .local) = true := by rfl)
    (hs : ∀ x, foldedSetIterable iter X.env x = pure x := by intro _; rfl) (hl : X.env.scope.names.lookup x = some .local := by rfl) :
    PS X (.Assign [.Name x pos'] (.ListComp elt [⟨target, iter, ifs, 0⟩] sc pos) spos) (tAsg (tComp own.length fr wi g tc te) (gName i)) := by
  obtain ⟨c1, c2, c3⟩ := cp_checks hfree hfr hnm
  intro pins s σ H D I h
  rw [exec_Assign_Name_used _ _ _ _ hsw]
  refine wpAny_bind (wpAny_standAt (wpAny_bind ?_))
  show wpAny _ X.A (do let _ ← comprehension (.ListComp elt [⟨target, iter, ifs, 0⟩] sc pos) sc X.env _ (newList []) false (eval iter X.env) (some (assign (.Name x pos') X.env))) _ _ s
  have hcl : ∀ y ∈ sc.names, y.2 = .free → ∃ c, X.env.cells.lookup y.1 = some c := fun y hy e => I.ok.has _ (c1 y hy e)
  refine wpAny_bind (wpAny_mono (wpAny_comprehension_free (use := some (assign (.Name x pos') X.env)) (Q := fun _ s' => SP X pins D .next s') rfl hs (closureFor_eq hcl) hk c3 (thn (hi pins s σ H _ I h) fun xv s₁ h₁ => thn h₁ fun itv s2 h2 => ?_)) (fun _ s' hq => wpAny_pure (wpAny_pure hq)) fun _ _ e => e)
  refine cp_block (RR := fun acc C => compPost (model X.prog X.w) X.A X.xe (some (assign (.Name x pos') X.env)) (fun _ s' => SP X pins D .next s') acc C) (pins := pins) (σ := σ) (Q := fun x H1 => gName i x σ H1 D.nx) own fr hc hk c1 c2 hg ht he h2 ?_
  intro Da C s4 H3 m4 hC ns4 hCn q inv
  have I4 : Inv X pins σ H3 s4 := inv s4.heap fun b _ => rfl
  have lC : X.env.locals ≠ C := by
    intro z
    obtain ⟨it, fp, tn, J, H2, e, I2, _⟩ := h2
    exact absurd (Nat.lt_of_lt_of_le I2.lt (by rw [z]; exact hC)) (Nat.lt_irrefl _)
  have cC : ∀ y c, X.env.cells.lookup y = some c → c ≠ C := fun y c e z => by
    obtain ⟨it, fp, tn, J, H2, e', I2, _⟩ := h2
    obtain ⟨v, hv⟩ := I2.cell y c e
    exact absurd (Nat.lt_of_lt_of_le hv.lt (by rw [z]; exact hC)) (Nat.lt_irrefl _)
  show wpAny _ X.A (assign (.Name x pos') X.env (.ref Da)) _ _ _
  refine wpAny_assign_Name (store_ok2 I4 hN hx1 hx (v := .ref Da) rfl (fun s5 I5 ⟨a, sb, ha⟩ => ?_) (.inr hl))
  have aC : C ≠ a := fun z => by
    rcases ha with q1 | q1
    · exact lC (q1.symm.trans z.symm)
    · exact cC x a q1 z.symm
  refine ⟨m4, ns4.sameBut sb aC, fun h' sb' => ⟨_, H3, ?_, q⟩⟩
  -- the state with C let go
  obtain ⟨m5, n5, l5⟩ := I5.loc
  exact {
    ok := I5.ok
    os := I5.os
    bare := I5.bare
    base := {
      keep := fun b o e n1 n2 n3 => (sb'.2 b fun z => by
        obtain ⟨it, fp, tn, J, H2, e', I2, _⟩ := h2
        exact absurd (Nat.lt_of_lt_of_le (Heap.lt_size e) (Nat.le_trans I2.sz (by rw [z]; exact hC))) (Nat.lt_irrefl _)).trans (I5.base.keep b o e n1 n2 n3)
      slot := fun b o e n1 n2 n3 => by
        obtain ⟨sl, q⟩ := I5.base.slot b o e n1 n2 n3
        refine ⟨sl, (sb'.2 b fun z => ?_).trans q⟩
        obtain ⟨it, fp, tn, J, H2, e', I2, _⟩ := h2
        exact absurd (Nat.lt_of_lt_of_le (Heap.lt_size e) (Nat.le_trans I2.sz (by rw [z]; exact hC))) (Nat.lt_irrefl _)
      free := I5.base.free
      there := fun b o e n1 => by
        obtain ⟨o', q⟩ := I5.base.there b o e n1
        refine ⟨o', (sb'.2 b fun z => ?_).trans q⟩
        obtain ⟨it, fp, tn, J, H2, e', I2, _⟩ := h2
        exact absurd (Nat.lt_of_lt_of_le (Heap.lt_size e) (Nat.le_trans I2.sz (by rw [z]; exact hC))) (Nat.lt_irrefl _)
      tups := I5.base.tups
      frzs := I5.base.frzs
      tbls := I5.base.tbls }
    loc := ⟨m5, n5.sameBut sb' lC, fun j y v h1 h2' h3 => by
      obtain ⟨u, ru, lk⟩ := l5 j y v h1 h2' h3
      refine ⟨u, ru, ?_⟩
      rcases lk with ⟨k1, k2⟩ | ⟨k1, c, k2, k3⟩
      · exact .inl ⟨k1, k2⟩
      · exact .inr ⟨k1, c, k2, k3.sameBut sb' (cC y c k2)⟩⟩
    cell := fun y c e => by
      obtain ⟨v, hv⟩ := I5.cell y c e
      exact ⟨v, hv.sameBut sb' (cC y c e)⟩
    free := I5.free
    freeC := I5.freeC
    pin := fun p hp => by
      obtain ⟨q1, q2⟩ := I5.pin p hp
      refine ⟨(sb'.2 p.1 fun z => ?_).trans q1, q2⟩
      obtain ⟨it, fp, tn, J, H2, e', I2, _⟩ := h2
      exact absurd (Nat.lt_of_lt_of_le (Heap.lt_size (I2.pin p hp).1) (by rw [z]; exact hC)) (Nat.lt_irrefl _)
    hok := fun a o e => (I5.hok a o e).stay (fun b u q z => (sb'.2 b (by
        rcases q with q | q
        · subst q; exact ne_of_none e hCn
        · exact ne_of_none q hCn)).trans z) (fun _ q => q) fun _ _ q => q
    len := I5.len }
end
end L2

namespace L2
open PySem PySem.Spec PyProof.Rows PySem.W

theorem ObjOk.there {P : Program} {w : World} {H : Hp} {h : Heap} {a : Addr} {o : HO} (x : ObjOk P w H h a o) : ∃ ob, h.get? a = some ob := by
  cases o with
  | lst xs => obtain ⟨_, _, _, _, e⟩ := x; exact ⟨_, e⟩
  | tup xs => obtain ⟨_, _, _, ⟨ob, e, _⟩, _⟩ := x; exact ⟨_, e⟩
  | dK kvs => obtain ⟨_, _, _, _, o, _, _, e, _⟩ := x; exact ⟨_, e⟩
  | dT kvs => obtain ⟨_, _, _, _, o, _, _, e, _⟩ := x; exact ⟨_, e⟩
  | set S n => obtain ⟨o, _, _, _, e, _⟩ := x; exact ⟨_, e⟩
  | ins C dx fs => obtain ⟨_, _, _, e, _⟩ := x; exact ⟨_, e⟩
  | own y => obtain ⟨_, e⟩ := x; exact ⟨_, e⟩
  | xd fs => obtain ⟨_, ⟨_, _, _, e, _⟩, _⟩ := x; exact ⟨_, e⟩
  | rng lo hi => obtain ⟨_, _, _, e⟩ := x; exact ⟨_, e⟩
  | frz ob u => obtain ⟨e, _⟩ := x; exact ⟨_, e⟩
  | tbl ps => exact ⟨_, (show h.get? a = some _ from x)⟩
  | met f y => exact ⟨_, (show h.get? a = some _ from x)⟩
  | ext φ => obtain ⟨_, ⟨_, e⟩, _⟩ := x; exact ⟨_, e⟩

/-- an exception of an own class flies: B is what stays of the heap (all but the frames), H' what is tracked there -/
structure Flown (P : Program) (w : World) (outer : List Env) (H : Hp) (s : Shared) (ea C : Addr) (a0 : Value) (B : Heap) (H' : Hp) (s' : Shared) : Prop where
  os : s'.os = s.os
  bare : AllBare s'.gens
  hokB : HOk P w H' B
  fly : Heap.FlyingW B outer ea (.ref C) a0 s'.heap
  cov : ∀ b o, s.heap.get? b = some o → H b = none → b ∉ frs outer → B.get? b = some o
  thr : ∀ b o, s.heap.get? b = some o → b ∈ frs outer ∨ ∃ o', B.get? b = some o'
  un : Un (frs outer) [] H H' s.heap s'.heap
def CXF (P : Program) (w : World) : CXT := fun outer H s E e s' => ∃ (ea C : Addr) (a0 : Value) (B : Heap) (H' : Hp), e = .ref ea ∧ Flown P w outer H s ea C a0 B H' s' ∧ E e (some C) H'
section
variable {P : Program} {w : World} {outer : List Env} {H H' : Hp} {s s' : Shared} {ea C : Addr} {a0 : Value} {B : Heap}
theorem Flown.hok (f : Flown P w outer H s ea C a0 B H' s') : HOk P w H' s'.heap := f.hokB.kept f.fly.1
theorem Flown.free (f : Flown P w outer H s ea C a0 B H' s') : H' ea = none := by
  cases q : H' ea with
  | none => rfl
  | some u =>
    obtain ⟨ob, e⟩ := (f.hokB _ _ q).there
    rw [f.fly.2.1] at e
    cases e
end

section
variable {X : Cx} {pins : List (Addr × Obj)} {σ : St} {H : Hp} {s : Shared}
theorem Inv.neL (I : Inv X pins σ H s) {b : Addr} {o : Obj} (e : X.s₀.heap.get? b = some o) : b ≠ X.env.locals := Nat.ne_of_lt (Nat.lt_of_lt_of_le (Heap.lt_size e) I.ok.above)
theorem Inv.notStk (I : Inv X pins σ H s) {b : Addr} {o : Obj} (e : X.s₀.heap.get? b = some o) (hb : b ∉ X.fs) : b ∉ frs X.stack := fun z => (List.mem_cons.mp (I.stkSub b z)).elim (I.neL e) hb

/-- the untracked of the entry, and what else was there, at the end: by what stays (B) and the frames up to slots -/
theorem un_out {outer : List Env} {base h0 h1 h2 B : Heap} {H0 H1 : Hp} (ff : h0.FunFrames base outer) (frf : ∀ b ∈ frs outer, H0 b = none) (st : B.StaysIn h2) (ff2 : h2.FunFrames B outer)
    (cov : ∀ b o, h0.get? b = some o → H0 b = none → b ∉ frs outer → B.get? b = some o) (thr : ∀ b o, h0.get? b = some o → b ∈ frs outer ∨ ∃ o', B.get? b = some o')
    (u : Un (frs outer) [] H0 H1 h0 h1) (k : h1.UpToSlots h2) : Un (frs outer) [] H0 H1 h0 h2 where
  keep := fun b o e n hb _ => st b o (cov b o e n hb)
  slot := fun b o e n hb hx => by
    obtain ⟨sl, e1⟩ := u.slot b o e n hb hx
    obtain ⟨_, o', ho', hd⟩ := ff.mem hb
    rw [e] at ho'
    cases ho'
    obtain ⟨sl', e2⟩ := k b _ e1 hd
    exact ⟨sl', e2⟩
  free := u.free
  there := fun b o e _ => by
    rcases thr b o e with hb | ⟨o', e'⟩
    · obtain ⟨_, o', ho', _⟩ := ff2.mem hb
      exact ⟨o', ho'⟩
    · exact ⟨o', st _ _ e'⟩
  tups := u.tups
  frzs := u.frzs
  tbls := u.tbls

/-- raised here, it leaves this frame -/
theorem flown_made {E : XK} {E' : Value → Shared → Prop} {ea C : Addr} {args : List Value} {h' : Heap} (hstk : X.stack = X.env :: X.outer) (hf : X.env.frame = some X.env.locals) (hex : X.ex = [])
    (I : Inv X pins σ H s) (hx : Heap.MadeExcOf s.heap h' ea (.ref C) args) (hE : E (.ref ea) (some C) H) :
    wpAny (model X.prog X.w) X.A (leaving X.env (.ref ea)) (fun _ s'' => CXF X.prog X.w X.outer X.H₀ X.s₀ E (.ref ea) s'') E' { s with heap := h' } := by
  have hin : ∀ env ∈ X.stack, ∀ b, env.frame = some b → b ∈ frs X.stack := fun env he b hb => List.mem_filterMap.mpr ⟨env, he, hb⟩
  have nx : ∀ b, b ∉ X.ex := fun b z => by rw [hex] at z; cases z
  have keepB : ∀ b o, s.heap.get? b = some o → b ∉ frs X.stack → (hideAll s.heap (frs X.stack)).get? b = some o := fun b o e hb => hideAll_get _ e hb
  have hokB : HOk X.prog X.w H (hideAll s.heap (frs X.stack)) := fun b u e => (I.hok b u e).stay (fun c v hc q => keepB c v q (fun z => by
    have z := I.stkFree c z
    rcases hc with rfl | hc
    · rw [e] at z; cases z
    · rw [hc] at z; cases z)) (fun _ q => q) fun _ _ q => q
  have cov : ∀ b o, X.s₀.heap.get? b = some o → X.H₀ b = none → b ∉ frs X.outer → (hideAll s.heap (frs X.stack)).get? b = some o := fun b o e n hb =>
    keepB b o (I.base.keep b o e n hb (nx b)) (I.notStk e hb)
  have thr : ∀ b o, X.s₀.heap.get? b = some o → b ∈ frs X.outer ∨ ∃ o', (hideAll s.heap (frs X.stack)).get? b = some o' := fun b o e => by
    by_cases hb : b ∈ frs X.outer
    · exact .inl hb
    · obtain ⟨o', e'⟩ := I.base.there b o e (nx b)
      exact .inr ⟨o', keepB b o' e' (I.notStk e hb)⟩
  have fr := I.ok.frames
  have stk := I.stack
  have ub : Un (frs X.outer) [] X.H₀ H X.s₀.heap s.heap := by
    have := I.base
    rw [hex] at this
    exact this
  generalize hB : hideAll s.heap (frs X.stack) = B at *
  have ffB : s.heap.FunFrames B (X.env :: X.outer) := by
    rw [← hB, ← hstk]
    exact funFrames_hide stk hin
  rw [hstk] at fr
  refine wpAny_leaves_madeW (base := B) (h := s.heap) fr hf (fun b o q => by rw [← hB] at q; exact of_hideAll _ q) ffB hx fun h'' t x1 x2 x3 x4 => ?_
  refine ⟨ea, C, .ref t, B, H, rfl, ⟨I.os, I.bare, hokB, x1, cov, thr, un_out I.ok.funs I.ok.frf x1.1 x1.2.2.1 cov thr (ub) (((Heap.UpToSlots.of_keeps hx.keeps)).trans x4)⟩, hE⟩

/-- it comes from a call, and leaves this frame -/
theorem flown_on {E : XK} {E' : Value → Shared → Prop} {e : Value} {s' : Shared} (hstk : X.stack = X.env :: X.outer) (hf : X.env.frame = some X.env.locals) (hex : X.ex = [])
    (I : Inv X pins σ H s) (hx : CXF X.prog X.w X.stack H s E e s') :
    wpAny (model X.prog X.w) X.A (leaving X.env e) (fun _ s'' => CXF X.prog X.w X.outer X.H₀ X.s₀ E e s'') E' s' := by
  obtain ⟨ea, C, a0, B, H', rfl, f, hE⟩ := hx
  have nx : ∀ b, b ∉ X.ex := fun b z => by rw [hex] at z; cases z
  have I' : Inv X pins σ H' s' := I.call' (ch := []) f.os f.un f.hok f.bare (fun b z => absurd z (by simp))
  have cov : ∀ b o, X.s₀.heap.get? b = some o → X.H₀ b = none → b ∉ frs X.outer → B.get? b = some o := fun b o e n hb =>
    f.cov b o (I.base.keep b o e n hb (nx b)) (I.base.free b o e n (nx b)) (I.notStk e hb)
  have thr : ∀ b o, X.s₀.heap.get? b = some o → b ∈ frs X.outer ∨ ∃ o', B.get? b = some o' := fun b o e => by
    by_cases hb : b ∈ frs X.outer
    · exact .inl hb
    · obtain ⟨o', e'⟩ := I.base.there b o e (nx b)
      exact .inr ((f.thr b o' e').resolve_left (I.notStk e hb))
  have ub : Un (frs X.outer) [] X.H₀ H' X.s₀.heap s'.heap := by
    have := I'.base
    rw [hex] at this
    exact this
  have fr := I.ok.frames
  have fl := f.fly
  rw [hstk] at fr fl
  refine wpAny_leaves_onW fr hf fl fun h'' x1 x2 => ?_
  exact ⟨ea, C, a0, B, H', rfl, ⟨I'.os, I'.bare, f.hokB, x1, cov, thr, un_out I.ok.funs I.ok.frf x1.1 x1.2.2.1 cov thr ub x2⟩, hE⟩
end
end L2

namespace L2
open PySem PySem.Spec PyProof.Rows PySem.W

/-- an own class of exceptions without an __init__ of its own, as it stands in the fragment -/
theorem ownc {K : Frag} {hp : Heap} {gl : Str → Option Value} {y : Str} {C : Addr} {bl : List Value} {nid : String} (kin : K.In hp) (hm : gl y = some (.ref C)) (ok : excIn K C bl nid = true) : OwnCls y C bl nid gl hp := by
  refine ⟨hm, ?_⟩
  unfold excIn at ok
  cases hL : K.lookup C with
  | none => rw [hL] at ok; cases ok
  | some ob =>
    rw [hL] at ok
    have at_ := kin _ _ hL
    split at ok
    · rename_i e1
      split at ok
      · rename_i cx ds sls lsx w1 w2 w3 w4 w5 w6 w7 w8 e2 e3
        cases e1
        simp only [Bool.and_eq_true, beq_iff_eq, Bool.not_eq_true'] at ok
        obtain ⟨⟨⟨⟨⟨rfl, rfl⟩, z1⟩, z2⟩, z3⟩, z4⟩ := ok
        obtain ⟨c1, c2, c3, c4, c5, c6, c7, c8, c9, c10, c11⟩ := cx
        obtain rfl : c3 = _ := e2
        obtain rfl : c11 = _ := z1
        obtain ⟨sll⟩ := ds
        obtain rfl : sll = _ := e3
        exact ⟨_, _, _, _, _, _, _, _, _, _, _, _, _, _, _, _, _, at_, .of_isNs (isNs_of_in kin z3), nsMap_none_of_in kin z3 z4, tail_of_in kin z2⟩
      · cases ok
    · cases ok

section
variable {P : Program} {w : World} {K : Frag} {mg : Str → Option Value} {base : Heap} {N : List Str} {qual : Str} {scope : Scope} {f : Addr} {cd : Value} {A : Around} {outer : List Env} {s₀ : Shared} {H₀ : Hp} {E : XK}
/-- an exception of a callee goes on -/
theorem pass_flown : Passes (CXF P w) (cxOf (CXF P w) P w K mg base N qual scope f cd A outer s₀ H₀ E) E := fun pins σ H s e s' I h =>
  flown_on (X := cxOf (CXF P w) P w K mg base N qual scope f cd A outer s₀ H₀ E) rfl rfl rfl I h
/-- raise C(..) -/
def tRaise (C : Addr) (E : XK) (ta : TA) : TS := fun _ σ H => ta σ H fun vs H1 => vs.length ≤ sizeLine ∧ ∀ ea, E (.ref ea) (some C) H1
theorem ps_raise {x : Str} {C : Addr} {B newId initId : String} {bm : List Value} {np cpos pos : Pos} {e₀ : Expr} {rest : List Expr} {ta : TA} (hm : mg x = some (.ref C)) (q : excIn K C bm newId = true) (FB : ExcBaseFacts B newId initId bm)
    (ha : PA (cxOf (CXF P w) P w K mg base N qual scope f cd A outer s₀ H₀ E) (e₀ :: rest) ta) (hg : Gl (cxOf (CXF P w) P w K mg base N qual scope f cd A outer s₀ H₀ E) x := by rfl)
    (hd : (x == ("__debug__" : Str)) = false := by decide)
    (he : starEach (e₀ :: rest) (envOfC qual scope s₀.heap.objs.size f cd) = (false, eval e₀ (envOfC qual scope s₀.heap.objs.size f cd)) :: starEach rest (envOfC qual scope s₀.heap.objs.size f cd) := by rfl)
    (hpl : (backTo cpos (starEach rest (envOfC qual scope s₀.heap.objs.size f cd))).any (·.1) = false := by rfl) :
    PS (cxOf (CXF P w) P w K mg base N qual scope f cd A outer s₀ H₀ E) (.Raise (some (.Call (.Name x np) (e₀ :: rest) [] cpos)) none pos) (tRaise C E ta) := by
  intro pins s σ H D I h
  obtain ⟨tl, NN, nm, qn, bs, hdct, sn, sub, ab, col, dd, k0, k1, k2, k3, k5, mN, hC, hN, hni, T⟩ := (ownc I.mod.kin hm q).obj
  refine wpAny_Raise_call_subT (C := C) (nm := nm) (q := qn) (N := NN) (bs := bs) (bm := tl) (hdct := hdct) (sn := sn) (sub := sub) (ab := ab) (col := col) (dd := dd) (k0 := k0) (k1 := k1)
    (k2 := k2) (k3 := k3) (k5 := k5) FB (mN := mN) (T.hasType FB.hasBase) (I.ok.hd rfl) (by show (backTo cpos (starEach (e₀ :: rest) (envOfC qual scope s₀.heap.objs.size f cd))).any (·.1) = false; rw [he]; show (false || (backTo cpos (starEach rest (envOfC qual scope s₀.heap.objs.size f cd))).any (·.1)) = false; rw [hpl]; rfl) hni (ld_glob I hg hm ⟨rfl, ?_⟩ hd)
  have ha := ha cpos pins s σ H _ I h
  change wpAny _ _ (evalArgs (.ref C) true (backTo cpos (starEach (e₀ :: rest) (envOfC qual scope s₀.heap.objs.size f cd))) []) _ _ s
  change wpAny _ _ (spliced (backTo cpos (starEach (e₀ :: rest) (envOfC qual scope s₀.heap.objs.size f cd)))) _ _ s at ha
  rw [he] at ha ⊢
  refine Calls.evalArgs_plain (thn ha fun us s2 ⟨vs, H2, I2, r2, z, hE⟩ => ⟨rfl, by rw [← r2.length]; exact z, I2.bk _ _ hC, hN.keeps I2.bk, T.keeps I2.bk, fun h' ea hx => ?_⟩)
  exact flown_made (X := cxOf (CXF P w) P w K mg base N qual scope f cd A outer s₀ H₀ E) rfl rfl rfl I2 hx (hE ea)
end
end L2

namespace L2
open PySem PySem.Spec PyProof.Rows PySem.W

/-- a caught exception, tracked by its class -/
def XO (ea C : Addr) : HO := .ext fun h => ∃ ob, h.get? ea = some ob ∧ ob.cls = .ref C
theorem xo_ok {P : Program} {w : World} {H : Hp} {h : Heap} {ea C : Addr} {ob : Obj} (e : h.get? ea = some ob) (c : ob.cls = .ref C) : ObjOk P w H h ea (XO ea C) :=
  ⟨⟨ob, e, c⟩, ⟨ob, e⟩, fun _ _ ⟨o1, e1, c1⟩ k => ⟨o1, k o1 e1, c1⟩⟩

/-- isinstance(e, c) where it is so -/
theorem isi_flown {prog : Program} {w : World} {A : Around} {E : Value → Shared → Prop} {s : Shared} {K : Frag} {ea C : Addr} {c : Value} {ob : Obj} {Q : Value → Shared → Prop} (kin : K.In s.heap) (at_ : s.heap.get? ea = some ob) (cl : ob.cls = .ref C)
    (yes : kitOne K (.ref C) c = some true) (k : ∀ tk, Q (.bool true) { s with toks := tk }) : wpAny (model prog w) A (call (.builtin "isinstance") [.ref ea, c]) Q E s := by
  refine call_isinstance (S := fun _ R t => (K.In t.heap ∧ t.heap.get? ea = some ob) ∧ ∀ tk, R (.ok (.ret (.bool true))) { t with toks := tk }) (fun pr w2 A2 R t ht => isinstance_outer ?_ (by intro q; cases q)) ⟨⟨kin, at_⟩, k⟩
  obtain ⟨hh, g, d, tt, os⟩ := t
  obtain ⟨⟨ki, here⟩, fin⟩ := ht
  have ty : Looks (model pr w2) hh (typeOf (.ref ea)) (.ref C) := cl ▸ (Looks.ld here).andThen .now
  unfold Builtin.«isinstance.nested»
  refine wpAny_bind (ty.at ?_)
  unfold kitOne at yes
  by_cases q : (Value.ref C == c) = true
  · rw [if_pos q]
    first
      | ((repeat lk); exact fin tt)
      | exact wpAny_bind (wpAny_rule (fin tt))
  · rw [if_neg q] at yes
    rw [if_neg q]
    obtain ⟨a1, a2, a3⟩ := kit_cls (M := model pr w2) ki yes
    have both : Looks (model pr w2) hh (isInstance (.ref ea) c) true := ty.andThen a3
    refine wpAny_bind (a1.at ?_)
    rw [if_pos (by decide)]
    k_delta "plainIsInstance"
    refine wpAny_bind (wpAny_bind (a2.at ?_))
    simp only [Bool.not_true, Bool.false_eq_true, if_false]
    refine wpAny_bind (both.at ?_)
    simp only [if_true]
    first
      | exact wpAny_pure (wpAny_pure (fin tt))
      | exact wpAny_pure (fin tt)
      | exact wpAny_bind (wpAny_pure (wpAny_pure (fin tt)))

theorem Un.track {fs : List Addr} {H0 H1 : Hp} {h h2 : Heap} {ea : Addr} {o : HO} (u : Un fs [] H0 H1 h h2) (hn : h.get? ea = none) (hf : H1 ea = none) : Un fs [] H0 (upd H1 ea o) h h2 where
  keep := u.keep
  slot := u.slot
  free := fun b ob e n hx => by
    rw [upd_ne (fun z => by rw [z, hn] at e; cases e)]
    exact u.free b ob e n hx
  there := u.there
  tups := fun b xs q => by rw [upd_ne (ne_of_none (u.tups b xs q) hf)]; exact u.tups b xs q
  frzs := fun b ob xs q => by rw [upd_ne (ne_of_none (u.frzs b ob xs q) hf)]; exact u.frzs b ob xs q
  tbls := fun b ps q => by
    obtain ⟨m, e⟩ := u.tbls b ps q
    exact ⟨m, by rw [upd_ne (ne_of_none e hf)]; exact e⟩
theorem HOk.track {P : Program} {w : World} {H : Hp} {h : Heap} {ea : Addr} {o : HO} (x : HOk P w H h) (hf : H ea = none) (new : ObjOk P w (upd H ea o) h ea o) : HOk P w (upd H ea o) h := fun b u e => by
  by_cases hb : b = ea
  · subst hb
    rw [upd_same] at e
    cases e
    exact new
  · rw [upd_ne hb] at e
    exact (x b u e).stay (fun _ _ _ q => q) (fun c q => by rw [upd_ne (ne_of_none q hf)]; exact q) fun c xs q => by rw [upd_ne (ne_of_none q hf)]; exact q
section
variable {X : Cx} {pins : List (Addr × Obj)} {σ : St} {H : Hp} {s : Shared}
/-- a local name is taken away -/
theorem Inv.unbound {i t : Nat} {n : Str} {m : Str → Option Value} {v : Option Value} {h' : Heap} (I : Inv X pins σ H s) (hN : X.N.Nodup) (hi : X.N[i]? = some n)
    (hl : ∀ (i : Nat) (x : Str) (v : V), X.N[i]? = some x → σ[i]? = some (some v) → Vis X.env.scope x → ∃ u, RelV v u ∧ Look X.env s.heap m x u)
    (hns : h'.Ns X.env.locals fun y => if y = n then v else m y) (hs : Heap.SameBut X.env.locals s.heap h') : Inv X pins (σ.set i none) H { s with heap := h', toks := t } := by
  have ck : ∀ y c, X.env.cells.lookup y = some c → ∀ z, s.heap.IsCell c z → h'.IsCell c z := fun y c e z ⟨o, ho, hd⟩ => ⟨o, (hs.2 c (I.cne y c e)).trans ho, hd⟩
  refine ⟨I.ok, I.os, I.bare, ⟨fun b o e n hb hx => ?_, fun b o e n hb hx => ?_, I.base.free, fun b o e hx => ?_, I.base.tups, I.base.frzs, I.base.tbls⟩, ⟨_, hns, fun j y v' e1 e2 e3 => ?_⟩, fun y c e => ?_, I.free, I.freeC, fun p hp => ?_, I.hok.sameBut I.free hs, by simpa using I.len⟩
  · exact (hs.2 b (I.neL e)).trans (I.base.keep b o e n hb hx)
  · obtain ⟨sl, e1⟩ := I.base.slot b o e n hb hx
    exact ⟨sl, (hs.2 b (I.neL e)).trans e1⟩
  · obtain ⟨o', e1⟩ := I.base.there b o e hx
    exact ⟨o', (hs.2 b (I.neL e)).trans e1⟩
  · have ne : i ≠ j := fun z => by
      subst z
      rw [List.getElem?_set] at e2
      simp at e2
    have e2' : σ[j]? = some (some v') := by rw [List.getElem?_set_ne ne] at e2; exact e2
    obtain ⟨u, r, l⟩ := hl j y v' e1 e2' e3
    refine ⟨u, r, ?_⟩
    have yn : y ≠ n := fun z => ne (nodup_ix hN hi (z ▸ e1))
    rcases l with ⟨k, l⟩ | ⟨k, c, e, z⟩
    · exact .inl ⟨k, (if_neg yn).trans l⟩
    · exact .inr ⟨k, c, e, ck y c e _ z⟩
  · obtain ⟨z, hz⟩ := I.cell y c e
    exact ⟨z, ck y c e z hz⟩
  · obtain ⟨e, n, ne, nf, d⟩ := I.pin p hp
    exact ⟨(hs.2 p.1 ne).trans e, n, ne, nf, d⟩

/-- the context with other pins, around, wish -/
abbrev Cx.alt (X : Cx) (A : Around) (cm : Bool) (pn : List (Addr × Obj)) (E : Value → Shared → Prop) : Cx := { X with A := A, calm := cm, pn := pn, xe := E }
theorem Inv.alt (I : Inv X pins σ H s) {A : Around} {cm : Bool} {pn pins' : List (Addr × Obj)} {E : Value → Shared → Prop} (ha : A.frames = X.A.frames) (hc : cm = true → A.handled = none) (hp : ∀ p ∈ pn ++ pins', p ∈ X.pn ++ pins) : Inv (X.alt A cm pn E) pins' σ H s :=
  ⟨⟨I.ok.mod, I.ok.kind, I.ok.glob, I.ok.blt, I.ok.above, I.ok.inj, I.ok.has, I.ok.cab, hc, ha.trans I.ok.frames, I.ok.stk, I.ok.exf, I.ok.bs, I.ok.bsz, I.ok.noex, I.ok.exfs, I.ok.funs, I.ok.frf⟩, I.os, I.bare, I.base, I.loc, I.cell, I.free, I.freeC, fun p q => I.pin p (hp p q), I.hok, I.len⟩
theorem Inv.unalt {A : Around} {cm : Bool} {pn pins' : List (Addr × Obj)} {E : Value → Shared → Prop} (I : Inv (X.alt A cm pn E) pins' σ H s) (ok : X.Ok) (hp : ∀ p ∈ X.pn ++ pins, p ∈ pn ++ pins') : Inv X pins σ H s :=
  ⟨ok, I.os, I.bare, I.base, I.loc, I.cell, I.free, I.freeC, fun p q => I.pin p (hp p q), I.hok, I.len⟩

def Ends.un (D : Ends) (i : Nat) : Ends := { nx := fun σ H => D.nx (σ.set i none) H, bk := fun σ H => D.bk (σ.set i none) H, ct := fun σ H => D.ct (σ.set i none) H, rt := D.rt }
def tTry (K : Frag) (Dc : Addr) (i n : Nat) (tb : XK → TS) (ts : Addr → TS) : TS := fun D σ H =>
  tb (fun e oc H' => ∃ C, oc = some C ∧ exmOne K (.ref C) (.ref Dc) = some true ∧ ∀ ea, e = .ref ea → H' ea = none → ∀ σ' : St, σ'.length = n → ts ea (D.un i) (σ'.set i (some (.ref ea))) (upd H' ea (XO ea C))) D σ H
theorem ps_try {body suite : List Stmt} {b₀ : Stmt} {x n : Str} {i : Nat} {Dc : Addr} {np pos tp : Pos} {tb : XK → TS} {ts : Addr → TS} (hstk : X.stack = X.env :: X.outer) (hfr : X.env.frame = some X.env.locals) (hcm : X.calm = true) (hN : X.N.Nodup) (hi : X.N[i]? = some n)
    (hl : X.env.scope.names.lookup n = some .local) (hm : X.mg x = some (.ref Dc)) (hg : Gl X x)
    (hb : ∀ (pn : List (Addr × Obj)) (E' : Value → Shared → Prop) (E : XK), Passes (CXF X.prog X.w) (X.alt X.A true pn E') E → PSs (X.alt X.A true pn E') body (tb E))
    (hs : ∀ (ea : Addr) (pn : List (Addr × Obj)), PSs (X.alt (X.A.mark (some (.ref ea))) false pn fun _ _ => False) (b₀ :: suite) (ts ea)) (hd : (x == ("__debug__" : Str)) = false := by decide) :
    PS X (.Try body [.ExceptHandler (some (.Name x np)) (some n) (b₀ :: suite) pos] [] [] tp) (tTry X.K Dc i X.N.length tb ts) := by
  intro pins s σ H D I h
  refine wpAny_Try_except ?_
  have hh := I.ok.hd hcm
  have sub1 : ∀ p ∈ (X.pn ++ pins) ++ [], p ∈ X.pn ++ pins := fun p q => by rw [List.append_nil] at q; exact q
  have sub2 : ∀ p ∈ X.pn ++ pins, p ∈ (X.pn ++ pins) ++ [] := fun p q => by rw [List.append_nil]; exact q
  have ok := I.ok
  refine wpAny_mono (hb (X.pn ++ pins) _ _ (fun pins' σ' Hc sc e s' Ic hx => ?_) [] s σ H D (I.alt (A := X.A) (cm := true) (E := ?E') rfl (fun _ => hh) sub1) h) (fun f s1 hf => ?_) (fun e s1 he => ?_)
  case E' => exact fun e s₁ => wpAny (model X.prog X.w) X.A (noteFrame e X.env) (fun _ s₂ => wpAny (model X.prog X.w) X.A (setFlight e none) (fun _ s₃ => wpAny (model X.prog X.w) X.A (handleBy e X.env [.ExceptHandler (some (.Name x np)) (some n) (b₀ :: suite) pos]) (SP X pins D) X.xe s₃) X.xe s₂) X.xe s₁
  · obtain ⟨ea, C, a0, B, H', rfl, f, C', e2, hex, hk⟩ := hx
    cases e2
    have fr : X.A.frames = some (X.env :: X.outer) := by rw [← hstk]; exact ok.frames
    have fl : Heap.FlyingW B (X.env :: X.outer) ea (.ref C) a0 s'.heap := by rw [← hstk]; exact f.fly
    have new : sc.heap.get? ea = none := by
      cases q : sc.heap.get? ea with
      | none => rfl
      | some o =>
        rcases f.thr ea o q with z | ⟨o', z⟩
        · obtain ⟨_, o', e1, e2⟩ := f.fly.2.2.1.mem z
          obtain ⟨oe, vs, e3, _, e4, _⟩ := f.fly.first
          rw [e3] at e1
          cases e1
          exact absurd e4 (e2 vs)
        · rw [f.fly.2.1] at z
          cases z
    have unT : ∀ h₂, s'.heap.UpToSlots h₂ → Heap.FlyingW B (X.env :: X.outer) ea (.ref C) a0 h₂ → Inv (X.alt (X.A.mark (some (.ref ea))) false (X.pn ++ pins) fun _ _ => False) [] σ' (upd H' ea (XO ea C)) { s' with heap := h₂ } := fun h₂ sm fl₂ => by
      have u2 := un_out Ic.stack Ic.stkFree fl₂.1 (show h₂.FunFrames B X.stack by rw [hstk]; exact fl₂.2.2.1) f.cov f.thr f.un sm
      obtain ⟨ob, e1, e2⟩ := fl₂.there
      have J : Inv (X.alt X.A true (X.pn ++ pins) _) pins' σ' (upd H' ea (XO ea C)) { s' with heap := h₂ } := Ic.call' (ch := []) f.os (u2.track new f.free) ((f.hokB.kept fl₂.1).track f.free (xo_ok e1 e2)) f.bare (fun b z => absurd z (by simp))
      exact (J.unalt (X := X) (pins := pins) ok (fun p q => List.mem_append_left _ q)).alt rfl (fun z => nomatch z) sub1
    show wpAny (model X.prog X.w) X.A (noteFrame (.ref ea) X.env) _ _ s'
    refine wpAny_looks_onW fr hfr fl fun h₄ held₄ sm₄ => ?_
    refine wpAny_landsW held₄ fun h₅ fl₅ sm₅ => ?_
    have I₅ := unT h₅ (sm₄.trans sm₅) fl₅
    obtain ⟨ob, hob, hobc⟩ := fl₅.there
    have LT : Looks (model X.prog X.w) h₅ (typeOf (.ref ea)) (.ref C) := hobc ▸ (Looks.ld hob).andThen .now
    refine wpAny_handleBy_cons (codeAny_handlers_test (ld_glob I₅ hg hm ?_ hd)) (by intro q; cases q)
    refine (exm_one I₅.kIn LT hex).here ?_
    refine codeAny_handlers_suite_as ?_
    refine lands_againW fl₅ fun h₆ fl₆ sm₆ => ?_
    have I₆ := unT h₆ ((sm₄.trans sm₅).trans sm₆) fl₆
    refine store_ok (X := X.alt (X.A.mark (some (.ref ea))) false (X.pn ++ pins) fun _ _ => False) I₆ hN hi (.inl hl) (v := .ref ea) rfl (fun s₇ I₇ => ?_) (.inr hl)
    refine wpAny_mono (hs ea (X.pn ++ pins) [] s₇ _ _ (D.un i) I₇ (hk ea rfl f.free σ' I₆.len)) (fun fw s₈ hsp => ?_) (fun _ _ z => z.elim)
    have unb : ∀ {σ8 : St} {H8 : Hp} {Q : Shared → Prop}, Inv (X.alt (X.A.mark (some (.ref ea))) false (X.pn ++ pins) fun _ _ => False) [] σ8 H8 s₈ → (∀ s9, Inv X pins (σ8.set i none) H8 s9 → Q s9) →
        wpAny (model X.prog X.w) X.A (do bindName X.env n .none; unbindBehindTheSuite X.env n pos) (fun _ s9 => Q s9) X.xe s₈ := fun {σ8 H8 Q} I8 k => by
      have I8 : Inv X pins σ8 H8 s₈ := I8.unalt ok sub2
      obtain ⟨m, hn, hlook⟩ := id I8.loc
      exact wpAny_nameGoes_keeps hl hn (by rw [ok.kind]; rfl) fun h' v hns hsm => k _ (I8.unbound hN hi hlook hns hsm)
    cases fw with
    | next => obtain ⟨σ8, H8, I8, q⟩ := hsp; exact unb I8 fun s9 I9 => ⟨_, _, I9, q⟩
    | brk => obtain ⟨σ8, H8, I8, q⟩ := hsp; exact unb I8 fun s9 I9 => ⟨_, _, I9, q⟩
    | cont => obtain ⟨σ8, H8, I8, q⟩ := hsp; exact unb I8 fun s9 I9 => ⟨_, _, I9, q⟩
    | ret u => obtain ⟨v, σ8, H8, I8, r, q⟩ := hsp; exact unb I8 fun s9 I9 => ⟨v, _, _, I9, r, q⟩
  · cases f with
    | next =>
      obtain ⟨σ8, H8, I8, q⟩ := hf
      exact wpAny_pure ⟨_, _, I8.unalt ok sub2, q⟩
    | brk => obtain ⟨σ8, H8, I8, q⟩ := hf; exact ⟨_, _, I8.unalt ok sub2, q⟩
    | cont => obtain ⟨σ8, H8, I8, q⟩ := hf; exact ⟨_, _, I8.unalt ok sub2, q⟩
    | ret u => obtain ⟨v, σ8, H8, I8, r, q⟩ := hf; exact ⟨v, _, _, I8.unalt ok sub2, r, q⟩
  · exact he
end
end L2

namespace GC
def inter : List Int → List Int → Nat
  | _, [] => 0
  | u, c :: g => if c ∈ u then inter (u.erase c) g + 1 else inter u g
/-- what is left of u behind g -/
def left : List Int → List Int → List Int
  | u, [] => u
  | u, c :: g => if c ∈ u then left (u.erase c) g else left u g
theorem left_snoc (c : Int) : ∀ (g u : List Int), left u (g ++ [c]) = if c ∈ left u g then (left u g).erase c else left u g
  | [], u => rfl
  | d :: g, u => by
    show (if d ∈ u then left (u.erase d) (g ++ [c]) else left u (g ++ [c])) = if c ∈ (if d ∈ u then left (u.erase d) g else left u g) then (if d ∈ u then left (u.erase d) g else left u g).erase c else (if d ∈ u then left (u.erase d) g else left u g)
    by_cases m : d ∈ u
    · simp only [if_pos m]; exact left_snoc c g _
    · simp only [if_neg m]; exact left_snoc c g _
theorem inter_snoc (c : Int) : ∀ (g u : List Int), inter u (g ++ [c]) = inter u g + if c ∈ left u g then 1 else 0
  | [], u => by
    show (if c ∈ u then 0 + 1 else 0) = 0 + if c ∈ u then 1 else 0
    by_cases m : c ∈ u <;> simp [m]
  | d :: g, u => by
    show (if d ∈ u then inter (u.erase d) (g ++ [c]) + 1 else inter u (g ++ [c])) = (if d ∈ u then inter (u.erase d) g + 1 else inter u g) + if c ∈ (if d ∈ u then left (u.erase d) g else left u g) then 1 else 0
    by_cases m : d ∈ u
    · simp only [if_pos m]; rw [inter_snoc c g]; omega
    · simp only [if_neg m]; exact inter_snoc c g _
/-- right, mine, theirs of two codes -/
def rgt : List Int → List Int → Nat
  | a :: x, b :: y => (if a = b then 1 else 0) + rgt x y
  | _, _ => 0
def mine : List Int → List Int → List Int
  | a :: x, b :: y => if a = b then mine x y else a :: mine x y
  | _, _ => []
theorem take_snoc {i : Nat} {b : List Int} (h : i < b.length) : b.take (i + 1) = b.take i ++ [b[i]] := List.take_succ_eq_append_getElem h
theorem rgt_snoc (c d : Int) : ∀ (x y : List Int), x.length = y.length → rgt (x ++ [c]) (y ++ [d]) = rgt x y + if c = d then 1 else 0
  | [], [], _ => by simp [rgt]
  | [], _ :: _, h => by simp at h
  | _ :: _, [], h => by simp at h
  | a :: x, b :: y, h => by
    show (if a = b then 1 else 0) + rgt (x ++ [c]) (y ++ [d]) = (if a = b then 1 else 0) + rgt x y + _
    rw [rgt_snoc c d x y (by simpa using h)]
    omega
/-- the answer as the program reckons it, and as the law does -/
def ans (h g : List Int) : List Int := [(rgt h g : Int), (inter h g : Int) - (rgt h g : Int)]
end GC

namespace DL
open PySem PySem.Spec PyProof.Rows L2
abbrev St := L2.St
def kD : Key → PyData
  | .inl i => .int i
  | .inr x => .str x
def scr (ns : List Int) : PyData := .dict [(.none, .list (ns.map .int))]
mutual
def Is (K : PySem.W.Frag) (H : Hp) (x : V) : PyData → Prop
  | .none => x = .non
  | .bool b => x = .bl b
  | .int i => x = .int i
  | .str y => x = .str y
  | .list ds => ∃ a xs, x = .ref a ∧ H a = some (.lst xs) ∧ Are K H xs ds
  | .tuple ds => ∃ a xs, x = .ref a ∧ H a = some (.tup xs) ∧ Are K H xs ds
  | .dict kvs => ∃ a, x = .ref a ∧ ((∃ ns : List Int, kvs = [(.none, .list (ns.map .int))] ∧ SqL K H a (ns.map V.int)) ∨ (∃ m, H a = some (.dT m) ∧ Kvs K H m kvs) ∨ (∃ nm : Str, kvs = [(.bool true, .str nm)] ∧ PySem.W.nsIn K mainGlobals nm = some (some (.ref a))) ∨ ∃ m, H a = some (.dK m) ∧ KvsS K H m kvs)
def Are (K : PySem.W.Frag) (H : Hp) (xs : List V) : List PyData → Prop
  | [] => xs = []
  | d :: ds => ∃ x r, xs = x :: r ∧ Is K H x d ∧ Are K H r ds
def Kvs (K : PySem.W.Frag) (H : Hp) (m : List (List Key × V)) : List (PyData × PyData) → Prop
  | [] => m = []
  | p :: r => ∃ q m', m = q :: m' ∧ Kv K H q p ∧ Kvs K H m' r
def Kv (K : PySem.W.Frag) (H : Hp) (q : List Key × V) : PyData × PyData → Prop
  | (k, d) => k = .tuple (q.1.map kD) ∧ Is K H q.2 d
def KvsS (K : PySem.W.Frag) (H : Hp) (m : List (Key × V)) : List (PyData × PyData) → Prop
  | [] => False
  | p :: r => p = (.none, .none) ∧ KvsI K H m r
def KvsI (K : PySem.W.Frag) (H : Hp) (m : List (Key × V)) : List (PyData × PyData) → Prop
  | [] => m = []
  | p :: r => ∃ q m', m = q :: m' ∧ KvI K H q p ∧ KvsI K H m' r
def KvI (K : PySem.W.Frag) (H : Hp) (q : Key × V) : PyData × PyData → Prop
  | (k, d) => k = kD q.1 ∧ Is K H q.2 d
end
mutual
theorem Is.same {K : PySem.W.Frag} {H H' : Hp} (s : Same H H') : ∀ {x : V} (d : PyData), Is K H x d → Is K H' x d
  | _, .none, h => h
  | _, .bool _, h => h
  | _, .int _, h => h
  | _, .str _, h => h
  | _, .list ds, h => by
    obtain ⟨a, xs, e, q, r⟩ := h
    exact ⟨a, xs, e, s _ _ q, Are.same s ds r⟩
  | _, .tuple ds, h => by
    obtain ⟨a, xs, e, q, r⟩ := h
    exact ⟨a, xs, e, s _ _ q, Are.same s ds r⟩
  | _, .dict kvs, h => by
    obtain ⟨a, e, h⟩ := h
    rcases h with ⟨ns, e1, q⟩ | ⟨m, q, r⟩ | q
    · exact ⟨a, e, .inl ⟨ns, e1, s.seq q⟩⟩
    · exact ⟨a, e, .inr (.inl ⟨m, s _ _ q, Kvs.same s kvs r⟩)⟩
    · rcases q with q | ⟨m, q, r⟩
      · exact ⟨a, e, .inr (.inr (.inl q))⟩
      · exact ⟨a, e, .inr (.inr (.inr ⟨m, s _ _ q, KvsS.same s kvs r⟩))⟩
theorem Are.same {K : PySem.W.Frag} {H H' : Hp} (s : Same H H') : ∀ {xs : List V} (ds : List PyData), Are K H xs ds → Are K H' xs ds
  | _, [], h => h
  | _, d :: ds, h => by
    obtain ⟨x, r, e, q, t⟩ := h
    exact ⟨x, r, e, Is.same s d q, Are.same s ds t⟩
theorem Kvs.same {K : PySem.W.Frag} {H H' : Hp} (s : Same H H') : ∀ {m : List (List Key × V)} (kvs : List (PyData × PyData)), Kvs K H m kvs → Kvs K H' m kvs
  | _, [], h => h
  | _, p :: r, h => by
    obtain ⟨q, m', e, h1, h2⟩ := h
    exact ⟨q, m', e, Kv.same s p h1, Kvs.same s r h2⟩
theorem Kv.same {K : PySem.W.Frag} {H H' : Hp} (s : Same H H') : ∀ {q : List Key × V} (p : PyData × PyData), Kv K H q p → Kv K H' q p
  | _, (k, d), h => ⟨h.1, Is.same s d h.2⟩
theorem KvsS.same {K : PySem.W.Frag} {H H' : Hp} (s : Same H H') : ∀ {m : List (Key × V)} (kvs : List (PyData × PyData)), KvsS K H m kvs → KvsS K H' m kvs
  | _, [], h => h
  | _, p :: r, h => ⟨h.1, KvsI.same s r h.2⟩
theorem KvsI.same {K : PySem.W.Frag} {H H' : Hp} (s : Same H H') : ∀ {m : List (Key × V)} (kvs : List (PyData × PyData)), KvsI K H m kvs → KvsI K H' m kvs
  | _, [], h => h
  | _, p :: r, h => by
    obtain ⟨q, m', e, h1, h2⟩ := h
    exact ⟨q, m', e, KvI.same s p h1, KvsI.same s r h2⟩
theorem KvI.same {K : PySem.W.Frag} {H H' : Hp} (s : Same H H') : ∀ {q : Key × V} (p : PyData × PyData), KvI K H q p → KvI K H' q p
  | _, (k, d), h => ⟨h.1, Is.same s d h.2⟩
end
/-- a dict, its keys tuples or ints and texts -/
def DcO (K : PySem.W.Frag) (F : Hp) (o : HO) (kvs : List (PyData × PyData)) : Prop := (∃ m, o = .dT m ∧ Kvs K F m kvs) ∨ ∃ m, o = .dK m ∧ KvsS K F m kvs
theorem DcO.same {K : PySem.W.Frag} {F F' : Hp} {o : HO} {kvs : List (PyData × PyData)} (s : Same F F') (h : DcO K F o kvs) : DcO K F' o kvs :=
  h.imp (fun ⟨m, e, q⟩ => ⟨m, e, Kvs.same s _ q⟩) fun ⟨m, e, q⟩ => ⟨m, e, KvsS.same s _ q⟩
theorem DcO.ntup {K : PySem.W.Frag} {F : Hp} {o : HO} {kvs : List (PyData × PyData)} (h : DcO K F o kvs) : ∀ xs, o ≠ .tup xs := fun xs z => by
  subst z
  rcases h with ⟨_, e, _⟩ | ⟨_, e, _⟩ <;> cases e
theorem DcO.nlst {K : PySem.W.Frag} {F : Hp} {o : HO} {kvs : List (PyData × PyData)} (h : DcO K F o kvs) : ∀ xs, o ≠ .lst xs := fun xs z => by
  subst z
  rcases h with ⟨_, e, _⟩ | ⟨_, e, _⟩ <;> cases e
theorem DcO.is {K : PySem.W.Frag} {F : Hp} {o : HO} {kvs : List (PyData × PyData)} {a : Addr} (h : DcO K F o kvs) (e : F a = some o) : Is K F (.ref a) (.dict kvs) := by
  rcases h with ⟨m, rfl, q⟩ | ⟨m, rfl, q⟩
  · exact ⟨a, rfl, .inr (.inl ⟨m, e, q⟩)⟩
  · exact ⟨a, rfl, .inr (.inr (.inr ⟨m, e, q⟩))⟩
theorem Are.length {K : PySem.W.Frag} {H : Hp} : ∀ {xs : List V} {ds : List PyData}, Are K H xs ds → xs.length = ds.length
  | _, [], h => by rw [show _ = [] from h]; rfl
  | _, d :: ds, h => by
    obtain ⟨x, r, e, q, t⟩ := h
    rw [e, List.length_cons, List.length_cons, Are.length t]
theorem Are.get {K : PySem.W.Frag} {H : Hp} : ∀ {xs : List V} {ds : List PyData} {i : Nat} {d : PyData}, Are K H xs ds → ds[i]? = some d → ∃ x, xs[i]? = some x ∧ Is K H x d
  | _, [], _, _, _, e => by simp at e
  | _, d :: ds, 0, _, h, e => by
    obtain ⟨x, r, e', q, t⟩ := h
    simp at e; subst e; rw [e']
    exact ⟨x, rfl, q⟩
  | _, d :: ds, i + 1, d', h, e => by
    obtain ⟨x, r, e', q, t⟩ := h
    obtain ⟨y, h1, h2⟩ := Are.get (i := i) (d := d') t (by simpa using e)
    rw [e']
    exact ⟨y, by simpa using h1, h2⟩
theorem Are.append {K : PySem.W.Frag} {H : Hp} : ∀ {xs ys : List V} {ds es : List PyData}, Are K H xs ds → Are K H ys es → Are K H (xs ++ ys) (ds ++ es)
  | _, ys, [], es, h, h' => by rw [show _ = [] from h]; exact h'
  | _, ys, d :: ds, es, h, h' => by
    obtain ⟨x, r, e, q, t⟩ := h
    subst e
    exact ⟨x, r ++ ys, rfl, q, Are.append t h'⟩
theorem Are.one {K : PySem.W.Frag} {H : Hp} {x : V} {d : PyData} (h : Is K H x d) : Are K H [x] [d] := ⟨x, [], rfl, h, rfl⟩
theorem Are.drop {K : PySem.W.Frag} {H : Hp} : ∀ (n : Nat) {xs : List V} {ds : List PyData}, Are K H xs ds → Are K H (xs.drop n) (ds.drop n)
  | 0, _, _, h => h
  | n + 1, _, [], h => by rw [show _ = [] from h]; exact rfl
  | n + 1, _, d :: ds, h => by
    obtain ⟨x, r, e, q, t⟩ := h
    subst e
    exact Are.drop n t
theorem Are.take {K : PySem.W.Frag} {H : Hp} : ∀ (n : Nat) {xs : List V} {ds : List PyData}, Are K H xs ds → Are K H (xs.take n) (ds.take n)
  | 0, _, _, h => rfl
  | n + 1, _, [], h => by rw [show _ = [] from h]; exact rfl
  | n + 1, _, d :: ds, h => by
    obtain ⟨x, r, e, q, t⟩ := h
    subst e
    exact ⟨x, r.take n, rfl, q, Are.take n t⟩
theorem Are.ints {K : PySem.W.Frag} {H : Hp} : ∀ {ns : List Int} {xs : List V}, Are K H xs (ns.map PyData.int) ↔ xs = ns.map V.int
  | [], xs => Iff.rfl
  | n :: ns, xs => by
    constructor
    · intro h
      obtain ⟨x, r, e, q, t⟩ := h
      rw [e, show x = V.int n from q, (Are.ints (ns := ns)).mp t]; rfl
    · intro e
      subst e
      exact ⟨_, _, rfl, rfl, (Are.ints (ns := ns)).mpr rfl⟩
theorem Are.bools {K : PySem.W.Frag} {H : Hp} : ∀ {ns : List Bool} {xs : List V}, Are K H xs (ns.map PyData.bool) ↔ xs = ns.map V.bl
  | [], xs => Iff.rfl
  | n :: ns, xs => by
    constructor
    · intro h
      obtain ⟨x, r, e, q, t⟩ := h
      rw [e, show x = V.bl n from q, (Are.bools (ns := ns)).mp t]; rfl
    · intro e
      subst e
      exact ⟨_, _, rfl, rfl, (Are.bools (ns := ns)).mpr rfl⟩
structure Grow (F H F' H' : Hp) : Prop where
  f : Same F F'
  s : Same F' H'
  h : Same H H'
  o : ∀ a o, H a = some o → (∀ xs, o ≠ .tup xs) → F a = none → F' a = none
theorem Grow.refl {F H : Hp} (s : Same F H) : Grow F H F H := ⟨Same.refl _, s, Same.refl _, fun _ _ _ _ h => h⟩
theorem Grow.trans {F H F1 H1 F2 H2 : Hp} (a : Grow F H F1 H1) (b : Grow F1 H1 F2 H2) : Grow F H F2 H2 :=
  ⟨a.f.trans b.f, b.s, a.h.trans b.h, fun c o e t n => b.o c o (a.h c o e) t (a.o c o e t n)⟩
theorem same_upd {F H : Hp} {p : Addr} {o : HO} (s : Same F H) : Same (upd F p o) (upd H p o) := fun b u e => by
  by_cases hb : b = p
  · subst hb; rw [upd_same] at e ⊢; exact e
  · rw [upd_ne hb] at e ⊢; exact s b u e
theorem Grow.new {F H : Hp} {p : Addr} {o : HO} (s : Same F H) (hp : H p = none) : Grow F H (upd F p o) (upd H p o) :=
  ⟨same_new (s.free hp) o, same_upd s, same_new hp o, fun a u e t n => by rw [upd_ne (ne_of_none e hp)]; exact n⟩
theorem Grow.fresh {F H : Hp} {p : Addr} {o : HO} (s : Same F H) (hp : H p = none) : Grow F H F (upd H p o) :=
  ⟨Same.refl _, s.trans (same_new hp o), same_new hp o, fun _ _ _ _ n => n⟩
/-- an owned thing is frozen -/
theorem Grow.frz {F H F' H' : Hp} {p : Addr} {o : HO} (g : Grow F H F' H') (hp : H p = none) (hf : F' p = none) (hh : H' p = some o) : Grow F H (upd F' p o) H' :=
  ⟨g.f.trans (same_new hf o), fun b u e => by
    by_cases hb : b = p
    · subst hb; rw [upd_same] at e; rw [hh]; exact e
    · rw [upd_ne hb] at e; exact g.s b u e, g.h, fun a u e t n => by rw [upd_ne (ne_of_none e hp)]; exact g.o a u e t n⟩
inductive Sl where
  | fz (d : PyData)
  | ow (ds : List PyData)
  | od (kvs : List (PyData × PyData))
abbrev DSt := List (Option Sl)
structure Rep (K : PySem.W.Frag) (H0 F0 F : Hp) (σ : St) (H : Hp) (δ : DSt) : Prop where
  g : Grow F0 H0 F H
  len : σ.length = δ.length
  fz : ∀ (i : Nat) (d : PyData), δ[i]? = some (some (.fz d)) → ∃ v, σ[i]? = some (some v) ∧ Is K F v d
  ow : ∀ (i : Nat) (ds : List PyData), δ[i]? = some (some (.ow ds)) → ∃ a xs, σ[i]? = some (some (.ref a)) ∧ H a = some (.lst xs) ∧ F a = none ∧ H0 a = none ∧ Are K F xs ds
  ap : ∀ (i j : Nat) (ds es : List PyData) (a : Addr), δ[i]? = some (some (.ow ds)) → δ[j]? = some (some (.ow es)) → σ[i]? = some (some (.ref a)) → σ[j]? = some (some (.ref a)) → i = j
  od : ∀ (i : Nat) (kvs : List (PyData × PyData)), δ[i]? = some (some (.od kvs)) → ∃ a o, σ[i]? = some (some (.ref a)) ∧ H a = some o ∧ F a = none ∧ H0 a = none ∧ DcO K F o kvs
  ad : ∀ (i j : Nat) (ds es : List (PyData × PyData)) (a : Addr), δ[i]? = some (some (.od ds)) → δ[j]? = some (some (.od es)) → σ[i]? = some (some (.ref a)) → σ[j]? = some (some (.ref a)) → i = j
section
variable {K : PySem.W.Frag} {H0 F0 F F' : Hp} {σ : St} {H H' : Hp} {δ : DSt}
theorem Rep.grow (R : Rep K H0 F0 F σ H δ) (g : Grow F H F' H') : Rep K H0 F0 F' σ H' δ where
  g := R.g.trans g
  len := R.len
  fz := fun i d e => let ⟨v, h1, h2⟩ := R.fz i d e; ⟨v, h1, h2.same g.f⟩
  ow := fun i ds e => let ⟨a, xs, h1, h2, h3, h4, h5⟩ := R.ow i ds e; ⟨a, xs, h1, g.h _ _ h2, g.o _ _ h2 (fun _ z => nomatch z) h3, h4, h5.same g.f⟩
  ap := R.ap
  od := fun i ds e => let ⟨a, m, h1, h2, h3, h4, h5⟩ := R.od i ds e; ⟨a, m, h1, g.h _ _ h2, g.o _ _ h2 h5.ntup h3, h4, h5.same g.f⟩
  ad := R.ad
theorem get_set {α : Type} {l : List α} {i j : Nat} {x y : α} (h : (l.set i x)[j]? = some y) : (j = i ∧ y = x) ∨ (j ≠ i ∧ l[j]? = some y) := by
  rw [List.getElem?_set] at h
  split at h
  · rename_i e
    split at h
    · exact .inl ⟨e.symm, (Option.some.inj h).symm⟩
    · cases h
  · rename_i e
    exact .inr ⟨fun z => e z.symm, h⟩
theorem set_get {α : Type} {l : List α} {i : Nat} {x : α} (h : i < l.length) : (l.set i x)[i]? = some x := by
  rw [List.getElem?_set, if_pos rfl, if_pos h]
theorem set_get_ne {α : Type} {l : List α} {i j : Nat} {x : α} (h : j ≠ i) : (l.set i x)[j]? = l[j]? := by
  rw [List.getElem?_set, if_neg (fun z => h z.symm)]
theorem lt_of_get {α : Type} {l : List α} {i : Nat} {x : α} (h : l[i]? = some x) : i < l.length := (List.getElem?_eq_some_iff.mp h).1
/-- a frozen value is stored -/
theorem Rep.set (R : Rep K H0 F0 F σ H δ) {i : Nat} {v : V} {d : PyData} (h : Is K F v d) : Rep K H0 F0 F (σ.set i (some v)) H (δ.set i (some (.fz d))) where
  g := R.g
  len := by rw [List.length_set, List.length_set]; exact R.len
  fz := fun j e q => by
    have hj := lt_of_get q
    rw [List.length_set] at hj
    rcases get_set q with ⟨rfl, z⟩ | ⟨n, q⟩
    · injection z with z
      injection z with z
      subst z
      exact ⟨v, set_get (by rw [R.len]; exact hj), h⟩
    · rw [set_get_ne n]; exact R.fz j e q
  ow := fun j ds q => by
    rcases get_set q with ⟨rfl, z⟩ | ⟨n, q⟩
    · cases z
    · rw [set_get_ne n]; exact R.ow j ds q
  ap := fun j k ds es a q1 q2 q3 q4 => by
    rcases get_set q1 with ⟨rfl, z⟩ | ⟨n1, q1⟩
    · cases z
    · rcases get_set q2 with ⟨rfl, z⟩ | ⟨n2, q2⟩
      · cases z
      · rw [set_get_ne n1] at q3
        rw [set_get_ne n2] at q4
        exact R.ap j k ds es a q1 q2 q3 q4
  od := fun j ds q => by
    rcases get_set q with ⟨rfl, z⟩ | ⟨n, q⟩
    · cases z
    · rw [set_get_ne n]; exact R.od j ds q
  ad := fun j k ds es a q1 q2 q3 q4 => by
    rcases get_set q1 with ⟨rfl, z⟩ | ⟨n1, q1⟩
    · cases z
    · rcases get_set q2 with ⟨rfl, z⟩ | ⟨n2, q2⟩
      · cases z
      · rw [set_get_ne n1] at q3
        rw [set_get_ne n2] at q4
        exact R.ad j k ds es a q1 q2 q3 q4
/-- a new list is stored as owned -/
theorem Rep.setO (R : Rep K H0 F0 F σ H δ) {i : Nat} {a : Addr} {xs : List V} {ds : List PyData} (ha : H a = some (.lst xs)) (hf : F a = none) (h0 : H0 a = none) (h : Are K F xs ds)
    (hn : ∀ j es, j ≠ i → δ[j]? = some (some (.ow es)) → σ[j]? ≠ some (some (.ref a))) : Rep K H0 F0 F (σ.set i (some (.ref a))) H (δ.set i (some (.ow ds))) where
  g := R.g
  len := by rw [List.length_set, List.length_set]; exact R.len
  fz := fun j e q => by
    rcases get_set q with ⟨rfl, z⟩ | ⟨n, q⟩
    · cases z
    · rw [set_get_ne n]; exact R.fz j e q
  ow := fun j es q => by
    have hj := lt_of_get q
    rw [List.length_set] at hj
    rcases get_set q with ⟨rfl, z⟩ | ⟨n, q⟩
    · injection z with z
      injection z with z
      subst z
      exact ⟨a, xs, set_get (by rw [R.len]; exact hj), ha, hf, h0, h⟩
    · rw [set_get_ne n]; exact R.ow j es q
  ap := fun j k ds' es' b q1 q2 q3 q4 => by
    have hj := lt_of_get q1
    have hk := lt_of_get q2
    rw [List.length_set] at hj hk
    rcases get_set q1 with ⟨ej, z⟩ | ⟨n1, p1⟩
    · rcases get_set q2 with ⟨ek, z2⟩ | ⟨n2, p2⟩
      · rw [ej, ek]
      · rw [ej, set_get (by rw [R.len, ← ej]; exact hj)] at q3
        rw [set_get_ne n2] at q4
        cases q3
        exact absurd q4 (hn k es' n2 p2)
    · rcases get_set q2 with ⟨ek, z⟩ | ⟨n2, p2⟩
      · rw [ek, set_get (by rw [R.len, ← ek]; exact hk)] at q4
        rw [set_get_ne n1] at q3
        cases q4
        exact absurd q3 (hn j ds' n1 p1)
      · rw [set_get_ne n1] at q3
        rw [set_get_ne n2] at q4
        exact R.ap j k ds' es' b p1 p2 q3 q4
  od := fun j ds q => by
    rcases get_set q with ⟨rfl, z⟩ | ⟨n, q⟩
    · cases z
    · rw [set_get_ne n]; exact R.od j ds q
  ad := fun j k ds es a q1 q2 q3 q4 => by
    rcases get_set q1 with ⟨rfl, z⟩ | ⟨n1, q1⟩
    · cases z
    · rcases get_set q2 with ⟨rfl, z⟩ | ⟨n2, q2⟩
      · cases z
      · rw [set_get_ne n1] at q3
        rw [set_get_ne n2] at q4
        exact R.ad j k ds es a q1 q2 q3 q4
/-- the owned list at slot i is changed in its place -/
theorem Rep.mut (R : Rep K H0 F0 F σ H δ) {i : Nat} {a : Addr} {xs : List V} {es ds : List PyData} (e : δ[i]? = some (some (.ow es))) (hs : σ[i]? = some (some (.ref a))) (hf : F a = none) (h0 : H0 a = none) (h : Are K F xs ds) :
    Rep K H0 F0 F σ (upd H a (.lst xs)) (δ.set i (some (.ow ds))) where
  g := ⟨R.g.f, fun b u q => by rw [upd_ne (ne_of_none q hf)]; exact R.g.s b u q, fun b u q => by rw [upd_ne (ne_of_none q h0)]; exact R.g.h b u q, R.g.o⟩
  len := by rw [List.length_set]; exact R.len
  fz := fun j d q => by
    rcases get_set q with ⟨rfl, z⟩ | ⟨n, q⟩
    · cases z
    · exact R.fz j d q
  ow := fun j us q => by
    rcases get_set q with ⟨rfl, z⟩ | ⟨n, q⟩
    · injection z with z
      injection z with z
      subst z
      exact ⟨a, xs, hs, upd_same, hf, h0, h⟩
    · obtain ⟨b, ys, q1, q2, q3, q4, q5⟩ := R.ow j us q
      have nb : b ≠ a := fun z => by subst z; exact n (R.ap j i us es b q e q1 hs)
      exact ⟨b, ys, q1, by rw [upd_ne nb]; exact q2, q3, q4, q5⟩
  ap := fun j k ds' es' b q1 q2 q3 q4 => by
    have f : ∀ {m : Nat} {us : List PyData}, (δ.set i (some (Sl.ow ds)))[m]? = some (some (Sl.ow us)) → ∃ us' : List PyData, δ[m]? = some (some (Sl.ow us')) := fun {m us} q => by
      rcases get_set q with ⟨em, z⟩ | ⟨n, q⟩
      · exact ⟨es, by rw [em]; exact e⟩
      · exact ⟨us, q⟩
    obtain ⟨u1, p1⟩ := f q1
    obtain ⟨u2, p2⟩ := f q2
    exact R.ap j k u1 u2 b p1 p2 q3 q4
  od := fun j us q => by
    rcases get_set q with ⟨rfl, z⟩ | ⟨n, q⟩
    · cases z
    · obtain ⟨b, m, q1, q2, q3, q4, q5⟩ := R.od j us q
      have nb : b ≠ a := fun z => by
        subst z
        obtain ⟨b2, ys, w1, w2, _⟩ := R.ow i es e
        rw [hs] at w1
        cases w1
        rw [q2] at w2
        exact q5.nlst _ (Option.some.inj w2)
      exact ⟨b, m, q1, by rw [upd_ne nb]; exact q2, q3, q4, q5⟩
  ad := fun j k ds' es' b q1 q2 q3 q4 => by
    rcases get_set q1 with ⟨rfl, z⟩ | ⟨n1, q1⟩
    · cases z
    · rcases get_set q2 with ⟨rfl, z⟩ | ⟨n2, q2⟩
      · cases z
      · exact R.ad j k ds' es' b q1 q2 q3 q4
/-- slot i is frozen -/
def frz (i : Nat) (δ : DSt) : DSt := match δ[i]? with
  | some (some (.ow ds)) => δ.set i (some (.fz (.list ds)))
  | some (some (.od kvs)) => δ.set i (some (.fz (.dict kvs)))
  | _ => δ
theorem Rep.frz (R : Rep K H0 F0 F σ H δ) (i : Nat) : ∃ F', Same F F' ∧ Rep K H0 F0 F' σ H (frz i δ) := by
  unfold DL.frz
  split
  · rename_i ds e
    obtain ⟨a, xs, q1, q2, q3, q4, q5⟩ := R.ow i ds e
    have g := R.g.frz (p := a) (o := .lst xs) q4 q3 q2
    have sF : Same F (upd F a (.lst xs)) := same_new q3 _
    refine ⟨upd F a (.lst xs), sF, g, by rw [List.length_set]; exact R.len, fun j d q => ?_, fun j us q => ?_, fun j k ds' es' b p1 p2 p3 p4 => ?_, fun j us q => ?_, fun j k ds' es' b p1 p2 p3 p4 => ?_⟩
    · rcases get_set q with ⟨rfl, z⟩ | ⟨n, q⟩
      · injection z with z
        injection z with z
        subst z
        exact ⟨.ref a, q1, a, xs, rfl, upd_same, q5.same sF⟩
      · obtain ⟨v, h1, h2⟩ := R.fz j d q
        exact ⟨v, h1, h2.same sF⟩
    · rcases get_set q with ⟨rfl, z⟩ | ⟨n, q⟩
      · cases z
      · obtain ⟨b, ys, h1, h2, h3, h4, h5⟩ := R.ow j us q
        have nb : b ≠ a := fun z => by subst z; exact n (R.ap j i us ds b q e h1 q1)
        exact ⟨b, ys, h1, h2, by rw [upd_ne nb]; exact h3, h4, h5.same sF⟩
    · rcases get_set p1 with ⟨rfl, z⟩ | ⟨n1, p1⟩
      · cases z
      · rcases get_set p2 with ⟨rfl, z⟩ | ⟨n2, p2⟩
        · cases z
        · exact R.ap j k ds' es' b p1 p2 p3 p4
    · rcases get_set q with ⟨rfl, z⟩ | ⟨n, q⟩
      · cases z
      · obtain ⟨b, m, h1, h2, h3, h4, h5⟩ := R.od j us q
        have nb : b ≠ a := fun z => by
          subst z
          rw [q2] at h2
          exact h5.nlst _ (Option.some.inj h2).symm
        exact ⟨b, m, h1, h2, by rw [upd_ne nb]; exact h3, h4, h5.same sF⟩
    · rcases get_set p1 with ⟨rfl, z⟩ | ⟨n1, p1⟩
      · cases z
      · rcases get_set p2 with ⟨rfl, z⟩ | ⟨n2, p2⟩
        · cases z
        · exact R.ad j k ds' es' b p1 p2 p3 p4
  · rename_i kvs e
    obtain ⟨a, m, q1, q2, q3, q4, q5⟩ := R.od i kvs e
    have g := R.g.frz (p := a) (o := m) q4 q3 q2
    have sF : Same F (upd F a m) := same_new q3 _
    refine ⟨upd F a m, sF, g, by rw [List.length_set]; exact R.len, fun j d q => ?_, fun j us q => ?_, fun j k ds' es' b p1 p2 p3 p4 => ?_, fun j us q => ?_, fun j k ds' es' b p1 p2 p3 p4 => ?_⟩
    · rcases get_set q with ⟨rfl, z⟩ | ⟨n, q⟩
      · injection z with z
        injection z with z
        subst z
        exact ⟨.ref a, q1, (q5.same sF).is upd_same⟩
      · obtain ⟨v, h1, h2⟩ := R.fz j d q
        exact ⟨v, h1, h2.same sF⟩
    · rcases get_set q with ⟨rfl, z⟩ | ⟨n, q⟩
      · cases z
      · obtain ⟨b, ys, h1, h2, h3, h4, h5⟩ := R.ow j us q
        have nb : b ≠ a := fun z => by
          subst z
          rw [q2] at h2
          exact q5.nlst _ (Option.some.inj h2)
        exact ⟨b, ys, h1, h2, by rw [upd_ne nb]; exact h3, h4, h5.same sF⟩
    · rcases get_set p1 with ⟨rfl, z⟩ | ⟨n1, p1⟩
      · cases z
      · rcases get_set p2 with ⟨rfl, z⟩ | ⟨n2, p2⟩
        · cases z
        · exact R.ap j k ds' es' b p1 p2 p3 p4
    · rcases get_set q with ⟨rfl, z⟩ | ⟨n, q⟩
      · cases z
      · obtain ⟨b, m2, h1, h2, h3, h4, h5⟩ := R.od j us q
        have nb : b ≠ a := fun z => by subst z; exact n (R.ad j i us kvs b q e h1 q1)
        exact ⟨b, m2, h1, h2, by rw [upd_ne nb]; exact h3, h4, h5.same sF⟩
    · rcases get_set p1 with ⟨rfl, z⟩ | ⟨n1, p1⟩
      · cases z
      · rcases get_set p2 with ⟨rfl, z⟩ | ⟨n2, p2⟩
        · cases z
        · exact R.ad j k ds' es' b p1 p2 p3 p4
  · exact ⟨F, Same.refl _, R⟩
/-- less may be known -/
theorem Rep.weak (R : Rep K H0 F0 F σ H δ) {δ' : DSt} (l : δ'.length = δ.length) (w : ∀ (i : Nat) s, δ'[i]? = some (some s) → δ[i]? = some (some s)) : Rep K H0 F0 F σ H δ' :=
  ⟨R.g, by rw [R.len, l], fun i d e => R.fz i d (w i _ e), fun i ds e => R.ow i ds (w i _ e), fun i j ds es a q1 q2 => R.ap i j ds es a (w i _ q1) (w j _ q2), fun i ds e => R.od i ds (w i _ e), fun i j ds es a q1 q2 => R.ad i j ds es a (w i _ q1) (w j _ q2)⟩
end
section
variable (K : PySem.W.Frag)
def SE (te : TE) (f : DSt → Option PyData) : Prop := ∀ (H0 F0 F : Hp) (σ : St) (H : Hp) (δ : DSt) (d : PyData) (Q : VK), Rep K H0 F0 F σ H δ → f δ = some d → (∀ v H' F', Grow F H F' H' → Is K F' v d → Q v H') → te σ H Q
def ST (tt : TT) (f : DSt → Option Bool) : Prop := ∀ (H0 F0 F : Hp) (σ : St) (H : Hp) (δ : DSt) (b : Bool) (Q : Bool → Hp → Prop), Rep K H0 F0 F σ H δ → f δ = some b → (∀ H' F', Grow F H F' H' → Q b H') → tt σ H Q
def SA (ta : TA) (f : DSt → Option (List PyData)) : Prop := ∀ (H0 F0 F : Hp) (σ : St) (H : Hp) (δ : DSt) (ds : List PyData) (Q : List V → Hp → Prop), Rep K H0 F0 F σ H δ → f δ = some ds → (∀ vs H' F', Grow F H F' H' → Are K F' vs ds → Q vs H') → ta σ H Q
/-- a new list, whose one owner is who asked for it -/
def SO (te : TE) (f : DSt → Option (List PyData)) : Prop := ∀ (H0 F0 F : Hp) (σ : St) (H : Hp) (δ : DSt) (ds : List PyData) (Q : VK), Rep K H0 F0 F σ H δ → f δ = some ds →
  (∀ a xs H' F', Grow F H F' H' → H a = none → F' a = none → H' a = some (.lst xs) → Are K F' xs ds → Q (.ref a) H') → te σ H Q
def OpD (r : R2) (g : PyData → PyData → Option PyData) : Prop := ∀ (F H : Hp) (x y : V) (dx dy d : PyData) (Q : VK), Same F H → Is K F x dx → Is K F y dy → g dx dy = some d → (∀ v H' F', Grow F H F' H' → Is K F' v d → Q v H') → r x y H Q
def CallD (r : List V → Hp → VK → Prop) (g : List PyData → Option PyData) : Prop := ∀ (F H : Hp) (xs : List V) (ds : List PyData) (d : PyData) (Q : VK), Same F H → Are K F xs ds → g ds = some d → (∀ v H' F', Grow F H F' H' → Is K F' v d → Q v H') → r xs H Q
end
def dVar (i : Nat) (δ : DSt) : Option PyData := match δ[i]? with
  | some (some (.fz d)) => some d
  | _ => none
def dC (d : PyData) (_ : DSt) : Option PyData := some d
def d2 (g : PyData → PyData → Option PyData) (fa fb : DSt → Option PyData) (δ : DSt) : Option PyData := (fa δ).bind fun a => (fb δ).bind fun b => g a b
def dCall (g : List PyData → Option PyData) (fs : DSt → Option (List PyData)) (δ : DSt) : Option PyData := (fs δ).bind g
def dNil (_ : DSt) : Option (List PyData) := some []
def dCons (f : DSt → Option PyData) (fs : DSt → Option (List PyData)) (δ : DSt) : Option (List PyData) := (f δ).bind fun d => (fs δ).bind fun ds => some (d :: ds)
theorem bind_some {α β : Type} {x : Option α} {f : α → Option β} {b : β} (h : x.bind f = some b) : ∃ a, x = some a ∧ f a = some b := by
  cases x with
  | none => cases h
  | some a => exact ⟨a, rfl, h⟩
section
variable {K : PySem.W.Frag} {ta tb te : TE} {fa fb f : DSt → Option PyData}
theorem SO.se {fo : DSt → Option (List PyData)} (h : SO K te fo) : SE K te (fun δ => (fo δ).map PyData.list) := by
  intro H0 F0 F σ H δ d Q R e k
  obtain ⟨ds, e1, e2⟩ := Option.map_eq_some_iff.mp e
  subst e2
  refine h H0 F0 F σ H δ ds Q R e1 fun a xs H' F' g h0 hf ha ar => ?_
  exact k (.ref a) H' _ (g.frz h0 hf ha) ⟨a, xs, rfl, upd_same, ar.same (same_new hf _)⟩
theorem se_var (i : Nat) : SE K (tVar i) (dVar i) := by
  intro H0 F0 F σ H δ d Q R e h
  unfold dVar at e
  split at e
  · rename_i d' q
    cases e
    obtain ⟨v, hv, is⟩ := R.fz i d q
    exact ⟨v, hv, h v H F (Grow.refl R.g.s) is⟩
  · cases e
theorem se_c {v : V} {d : PyData} (h : ∀ H, Is K H v d) : SE K (tC v) (dC d) := fun H0 F0 F σ H δ d' Q R e k => by
  cases e
  exact k v H F (Grow.refl R.g.s) (h F)
theorem se_int {n : Int} : SE K (tC (.int n)) (dC (.int n)) := se_c fun _ => rfl
theorem se_bl {b : Bool} : SE K (tC (.bl b)) (dC (.bool b)) := se_c fun _ => rfl
theorem se_non : SE K (tC .non) (dC .none) := se_c fun _ => rfl
theorem se_str {x : Str} : SE K (tC (.str x)) (dC (.str x)) := se_c fun _ => rfl
theorem se_op {r : R2} {g : PyData → PyData → Option PyData} (o : OpD K r g) (a : SE K ta fa) (b : SE K tb fb) : SE K (tOp r ta tb) (d2 g fa fb) := by
  intro H0 F0 F σ H δ d Q R e h
  obtain ⟨dx, ex, e⟩ := bind_some e
  obtain ⟨dy, ey, e⟩ := bind_some e
  refine a H0 F0 F σ H δ dx _ R ex fun v H1 F1 g1 i1 => b H0 F0 F1 σ H1 δ dy _ (R.grow g1) ey fun w H2 F2 g2 i2 => ?_
  exact o F2 H2 v w dx dy d Q g2.s (i1.same g2.f) i2 e fun v' H3 F3 g3 i3 => h v' H3 F3 (g1.trans (g2.trans g3)) i3
theorem sa_nil : SA K tNil dNil := fun H0 F0 F σ H δ ds Q R e h => by cases e; exact h [] H F (Grow.refl R.g.s) rfl
theorem sa_cons {t : TA} {fs : DSt → Option (List PyData)} (a : SE K te f) (b : SA K t fs) : SA K (tCons te t) (dCons f fs) := by
  intro H0 F0 F σ H δ ds Q R e h
  obtain ⟨dx, ex, e⟩ := bind_some e
  obtain ⟨dy, ey, e⟩ := bind_some e
  cases e
  refine a H0 F0 F σ H δ dx _ R ex fun v H1 F1 g1 i1 => b H0 F0 F1 σ H1 δ dy _ (R.grow g1) ey fun vs H2 F2 g2 i2 => ?_
  exact h (v :: vs) H2 F2 (g1.trans g2) ⟨v, vs, rfl, i1.same g2.f, i2⟩
theorem se_callB {r : List V → Hp → VK → Prop} {g : List PyData → Option PyData} {t : TA} {fs : DSt → Option (List PyData)} (o : CallD K r g) (a : SA K t fs) : SE K (tCB r t) (dCall g fs) := by
  intro H0 F0 F σ H δ d Q R e h
  obtain ⟨ds, ex, e⟩ := bind_some e
  refine a H0 F0 F σ H δ ds _ R ex fun vs H1 F1 g1 i1 => ?_
  exact o F1 H1 vs ds d Q g1.s i1 e fun v H2 F2 g2 i2 => h v H2 F2 (g1.trans g2) i2
def LIM : Nat := 100000
theorem lim_line {n : Nat} (h : n ≤ LIM) : n ≤ sizeLine := Nat.le_trans h (by decide)
theorem lim_lt {n : Nat} (h : n ≤ LIM) : n < sizeLine := Nat.lt_of_le_of_lt h (by decide)
def dTup (fs : DSt → Option (List PyData)) (δ : DSt) : Option PyData := (fs δ).bind fun ds => if ds.length ≤ LIM then some (.tuple ds) else none
def dLstO (fs : DSt → Option (List PyData)) (δ : DSt) : Option (List PyData) := (fs δ).bind fun ds => if ds.length ≤ LIM then some ds else none
def dOwn (fo : DSt → Option (List PyData)) (δ : DSt) : Option PyData := (fo δ).map PyData.list
theorem se_tup {t : TA} {fs : DSt → Option (List PyData)} (a : SA K t fs) : SE K (tTup t) (dTup fs) := by
  intro H0 F0 F σ H δ d Q R e h
  obtain ⟨ds, ex, e⟩ := bind_some e
  split at e
  · rename_i hl
    cases e
    refine a H0 F0 F σ H δ ds _ R ex fun vs H1 F1 g1 i1 => ⟨by rw [i1.length]; exact lim_line hl, fun p hp => ?_⟩
    refine h (.ref p) _ _ (g1.trans (Grow.new g1.s hp)) ⟨p, vs, rfl, upd_same, i1.same (same_new (g1.s.free hp) _)⟩
  · cases e
theorem so_lst {t : TA} {fs : DSt → Option (List PyData)} (a : SA K t fs) : SO K (tLst t) (dLstO fs) := by
  intro H0 F0 F σ H δ d Q R e h
  obtain ⟨ds, ex, e⟩ := bind_some e
  split at e
  · rename_i hl
    cases e
    refine a H0 F0 F σ H δ d _ R ex fun vs H1 F1 g1 i1 => ⟨by rw [i1.length]; exact lim_line hl, fun p hp => ?_⟩
    have hp0 : H p = none := g1.h.free hp
    exact h p vs _ F1 (g1.trans (Grow.fresh g1.s hp)) hp0 (g1.s.free hp) upd_same i1
  · cases e
theorem se_own {fo : DSt → Option (List PyData)} (h : SO K te fo) : SE K te (dOwn fo) := h.se
def dB (f : DSt → Option PyData) (δ : DSt) : Option Bool := (f δ).bind fun d => match d with
  | .bool b => some b
  | _ => none
def truD : PyData → Option Bool
  | .none => some false
  | .bool b => some b
  | .int i => some (i != 0)
  | .str y => if y.length ≤ LIM then some ((y.length : Int) != 0) else none
  | .list ds => some (!ds.isEmpty)
  | .tuple ds => some (!ds.isEmpty)
  | .dict _ => none
def dTru (f : DSt → Option PyData) (δ : DSt) : Option Bool := (f δ).bind truD
def dNotT (f : DSt → Option Bool) (δ : DSt) : Option Bool := (f δ).map (!·)
def dAndT (f g : DSt → Option Bool) (δ : DSt) : Option Bool := (f δ).bind fun b => if b = true then g δ else some false
def dOrT (f g : DSt → Option Bool) (δ : DSt) : Option Bool := (f δ).bind fun b => if b = true then some true else g δ
def dAndV (f g : DSt → Option PyData) (δ : DSt) : Option PyData := (dB f δ).bind fun b => if b = true then g δ else some (.bool false)
def dOrV (f g : DSt → Option PyData) (δ : DSt) : Option PyData := (dB f δ).bind fun b => if b = true then some (.bool true) else g δ
def dNotV (f : DSt → Option PyData) (δ : DSt) : Option PyData := (dB f δ).map fun b => .bool (!b)
def dIfE (c : DSt → Option Bool) (f g : DSt → Option PyData) (δ : DSt) : Option PyData := (c δ).bind fun b => if b = true then f δ else g δ
theorem dB_some {f : DSt → Option PyData} {δ : DSt} {b : Bool} (h : dB f δ = some b) : f δ = some (.bool b) := by
  obtain ⟨d, e, h⟩ := bind_some h
  cases d <;> simp at h
  subst h
  exact e
theorem st_test (a : SE K ta fa) : ST K (tTest ta) (dB fa) := fun H0 F0 F σ H δ b Q R e h =>
  a H0 F0 F σ H δ (.bool b) _ R (dB_some e) fun v H1 F1 g1 i1 => ⟨b, i1, h H1 F1 g1⟩
theorem isEmpty_len {α β : Type} {xs : List α} {ys : List β} (h : xs.length = ys.length) : (!xs.isEmpty) = !ys.isEmpty := by
  cases xs <;> cases ys <;> simp at h <;> rfl
theorem truV_of {F H : Hp} {v : V} {d : PyData} {b : Bool} (s : Same F H) (i : Is K F v d) (e : truD d = some b) : TruV K v H b := by
  cases d with
  | none => rw [show v = .non from i]; cases e; rfl
  | bool c => rw [show v = .bl c from i]; cases e; rfl
  | int c => rw [show v = .int c from i]; cases e; rfl
  | str c =>
    rw [show v = .str c from i]
    have e' : (if c.length ≤ LIM then some ((c.length : Int) != 0) else none) = some b := e
    split at e'
    · rename_i hl
      cases e'
      exact ⟨lim_line hl, rfl⟩
    · cases e'
  | list ds =>
    obtain ⟨a, xs, rfl, h1, h2⟩ := i
    cases e
    exact .inl ⟨xs, SqL.of (s _ _ h1), (isEmpty_len h2.length).symm⟩
  | tuple ds =>
    obtain ⟨a, xs, rfl, h1, h2⟩ := i
    cases e
    exact .inr (.inl ⟨xs, SqT.of (s _ _ h1), (isEmpty_len h2.length).symm⟩)
  | dict _ => cases e
theorem st_tru (a : SE K ta fa) : ST K (tTru K ta) (dTru fa) := fun H0 F0 F σ H δ b Q R e h => by
  obtain ⟨d, e1, e2⟩ := bind_some e
  exact a H0 F0 F σ H δ d _ R e1 fun v H1 F1 g1 i1 => ⟨b, truV_of g1.s i1 e2, h H1 F1 g1⟩
variable {t u : TT} {c c' : DSt → Option Bool}
theorem st_not (a : ST K t c) : ST K (tNot t) (dNotT c) := fun H0 F0 F σ H δ b Q R e h => by
  obtain ⟨d, e1, e2⟩ := Option.map_eq_some_iff.mp e
  subst e2
  exact a H0 F0 F σ H δ d _ R e1 fun H1 F1 g1 => h H1 F1 g1
theorem st_or (a : ST K t c) (b : ST K u c') : ST K (tOr t u) (dOrT c c') := fun H0 F0 F σ H δ b' Q R e h => by
  obtain ⟨d, e1, e2⟩ := bind_some e
  refine a H0 F0 F σ H δ d _ R e1 fun H1 F1 g1 => ?_
  cases d with
  | true => cases e2; exact iteT (h H1 F1 g1)
  | false => exact iteF (b H0 F0 F1 σ H1 δ b' _ (R.grow g1) e2 fun H2 F2 g2 => h H2 F2 (g1.trans g2))
theorem se_and (a : SE K ta fa) (b : SE K tb fb) : SE K (tAndV ta tb) (dAndV fa fb) := fun H0 F0 F σ H δ d Q R e h => by
  obtain ⟨b', e1, e2⟩ := bind_some e
  refine a H0 F0 F σ H δ _ _ R (dB_some e1) fun v H1 F1 g1 i1 => ⟨b', i1, ?_⟩
  cases b' with
  | true => exact iteT (b H0 F0 F1 σ H1 δ d _ (R.grow g1) e2 fun v2 H2 F2 g2 i2 => h v2 H2 F2 (g1.trans g2) i2)
  | false => cases e2; exact iteF (h _ H1 F1 g1 rfl)
theorem se_not (a : SE K ta fa) : SE K (tNotV ta) (dNotV fa) := fun H0 F0 F σ H δ d Q R e h => by
  obtain ⟨b', e1, e2⟩ := Option.map_eq_some_iff.mp e
  subst e2
  exact a H0 F0 F σ H δ _ _ R (dB_some e1) fun v H1 F1 g1 i1 => ⟨b', i1, h _ H1 F1 g1 rfl⟩
end
end DL

namespace DL
open PySem PySem.Spec PyProof.Rows L2
inductive DFlow where
  | nx (δ : DSt)
  | rt (d : PyData)
  | ro (ds : List PyData)
  | bk (δ : DSt)
  | ct (δ : DSt)
/-- what is wanted behind it; F: what is frozen ahead of it -/
def Lands (K : PySem.W.Frag) (H0 F0 F : Hp) (D : Ends) : DFlow → Prop
  | .nx δ => ∀ F' σ H, Rep K H0 F0 F' σ H δ → Same F F' → D.nx σ H
  | .rt d => ∀ F' v H, Grow F0 H0 F' H → Is K F' v d → D.rt v H
  | .ro ds => ∀ F' a xs H, Grow F0 H0 F' H → H0 a = none → F' a = none → H a = some (.lst xs) → Are K F' xs ds → D.rt (.ref a) H
  | .bk δ => ∀ F' σ H, Rep K H0 F0 F' σ H δ → Same F F' → D.bk σ H
  | .ct δ => ∀ F' σ H, Rep K H0 F0 F' σ H δ → Same F F' → D.ct σ H
theorem Lands.up {K : PySem.W.Frag} {H0 F0 F F1 : Hp} {D : Ends} (s : Same F F1) : ∀ {r : DFlow}, Lands K H0 F0 F D r → Lands K H0 F0 F1 D r
  | .nx δ, h => fun F' σ H R q => h F' σ H R (s.trans q)
  | .rt d, h => h
  | .ro ds, h => h
  | .bk δ, h => fun F' σ H R q => h F' σ H R (s.trans q)
  | .ct δ, h => fun F' σ H R q => h F' σ H R (s.trans q)
def SS (K : PySem.W.Frag) (ts : TS) (f : DSt → Option DFlow) : Prop := ∀ (H0 F0 F : Hp) (σ : St) (H : Hp) (δ : DSt) (r : DFlow) (D : Ends), Rep K H0 F0 F σ H δ → f δ = some r → Lands K H0 F0 F D r → ts D σ H
def dNext (δ : DSt) : Option DFlow := some (.nx δ)
def dSeq (f g : DSt → Option DFlow) (δ : DSt) : Option DFlow := (f δ).bind fun r => match r with
  | .nx δ' => g δ'
  | r => some r
def dIf (c : DSt → Option Bool) (f g : DSt → Option DFlow) (δ : DSt) : Option DFlow := (c δ).bind fun b => if b = true then f δ else g δ
def dSet (i : Nat) (f : DSt → Option PyData) (δ : DSt) : Option DFlow := (f δ).map fun d => .nx (δ.set i (some (.fz d)))
def dSetO (i : Nat) (f : DSt → Option (List PyData)) (δ : DSt) : Option DFlow := (f δ).map fun ds => .nx (δ.set i (some (.ow ds)))
def dAug (i : Nat) (g : PyData → PyData → Option PyData) (f : DSt → Option PyData) (δ : DSt) : Option DFlow := (dVar i δ).bind fun x => (f δ).bind fun y => (g x y).map fun z => .nx (δ.set i (some (.fz z)))
def dRet (f : DSt → Option PyData) (δ : DSt) : Option DFlow := (f δ).map .rt
def dRetN (_ : DSt) : Option DFlow := some (.rt .none)
def dRetO (i : Nat) (δ : DSt) : Option DFlow := match δ[i]? with
  | some (some (.ow ds)) => some (.ro ds)
  | _ => none
def dDrop (f : DSt → Option PyData) (δ : DSt) : Option DFlow := (f δ).map fun _ => .nx δ
def dNever (_ : DSt) : Option DFlow := none
def dFrz (i : Nat) (f : DSt → Option DFlow) (δ : DSt) : Option DFlow := f (frz i δ)
def dAppend (i : Nat) (f : DSt → Option PyData) (δ : DSt) : Option DFlow := match δ[i]? with
  | some (some (.ow ds)) => (f δ).bind fun d => if ds.length < LIM then some (.nx (δ.set i (some (.ow (ds ++ [d]))))) else none
  | _ => none
def dExtend (i : Nat) (f : DSt → Option PyData) (δ : DSt) : Option DFlow := match δ[i]? with
  | some (some (.ow ds)) => (f δ).bind fun d => match d with
    | .list es => if ds.length + es.length ≤ LIM then some (.nx (δ.set i (some (.ow (ds ++ es))))) else none
    | _ => none
  | _ => none
def intsD : List PyData → Option (List Int)
  | [] => some []
  | .int n :: r => (intsD r).map (n :: ·)
  | _ :: _ => none
theorem intsD_some : ∀ {ds : List PyData} {ns : List Int}, intsD ds = some ns → ds = ns.map PyData.int
  | [], ns, h => by cases h; rfl
  | .int n :: r, ns, h => by
    obtain ⟨ms, e1, e2⟩ := Option.map_eq_some_iff.mp h
    subst e2
    rw [intsD_some e1]; rfl
  | .none :: r, ns, h => by cases h
  | .bool _ :: r, ns, h => by cases h
  | .str _ :: r, ns, h => by cases h
  | .list _ :: r, ns, h => by cases h
  | .tuple _ :: r, ns, h => by cases h
  | .dict _ :: r, ns, h => by cases h
theorem intsD_map : ∀ ns : List Int, intsD (ns.map PyData.int) = some ns
  | [] => rfl
  | n :: r => by
    show (intsD (r.map PyData.int)).map (n :: ·) = _
    rw [intsD_map r]; rfl
def dRemove (i : Nat) (f : DSt → Option PyData) (δ : DSt) : Option DFlow := match δ[i]? with
  | some (some (.ow ds)) => (f δ).bind fun d => match d with
    | .int n => (intsD ds).bind fun ns => if n ∈ ns then some (.nx (δ.set i (some (.ow ((ns.erase n).map PyData.int))))) else none
    | _ => none
  | _ => none
section
variable {K : PySem.W.Frag} {t u : TS} {f g : DSt → Option DFlow} {te ta tb : TE} {fe fa fb : DSt → Option PyData} {c : TT} {fc : DSt → Option Bool}
theorem ss_next : SS K tNext dNext := fun H0 F0 F σ H δ r D R e h => by cases e; exact h F σ H R (Same.refl _)
theorem ss_seq (a : SS K t f) (b : SS K u g) : SS K (tSeq t u) (dSeq f g) := by
  intro H0 F0 F σ H δ r D R e h
  obtain ⟨r1, e1, e2⟩ := bind_some e
  refine a H0 F0 F σ H δ r1 { D with nx := u D } R e1 ?_
  cases r1 with
  | nx δ1 => exact fun F' σ' H' R' s' => b H0 F0 F' σ' H' δ1 r D R' e2 (h.up s')
  | rt d => cases e2; exact h
  | ro d => cases e2; exact h
  | bk d => cases e2; exact h
  | ct d => cases e2; exact h
theorem ss_if (cc : ST K c fc) (a : SS K t f) (b : SS K u g) : SS K (tIfS c t u) (dIf fc f g) := by
  intro H0 F0 F σ H δ r D R e h
  obtain ⟨b', e1, e2⟩ := bind_some e
  refine cc H0 F0 F σ H δ b' _ R e1 fun H1 F1 g1 => ?_
  cases b' with
  | true => exact iteT (a H0 F0 F1 σ H1 δ r D (R.grow g1) e2 (h.up g1.f))
  | false => exact iteF (b H0 F0 F1 σ H1 δ r D (R.grow g1) e2 (h.up g1.f))
theorem ss_set (i : Nat) (a : SE K te fe) : SS K (tAsg te (gName i)) (dSet i fe) := by
  intro H0 F0 F σ H δ r D R e h
  obtain ⟨d, e1, e2⟩ := Option.map_eq_some_iff.mp e
  subst e2
  exact a H0 F0 F σ H δ d _ R e1 fun v H1 F1 g1 i1 => h F1 _ H1 ((R.grow g1).set i1) g1.f
theorem ss_setO (i : Nat) {fo : DSt → Option (List PyData)} (a : SO K te fo) : SS K (tAsg te (gName i)) (dSetO i fo) := by
  intro H0 F0 F σ H δ r D R e h
  obtain ⟨d, e1, e2⟩ := Option.map_eq_some_iff.mp e
  subst e2
  refine a H0 F0 F σ H δ d _ R e1 fun p xs H1 F1 g1 hn hf hp ar => h F1 _ H1 ((R.grow g1).setO hp hf (R.g.h.free hn) ar fun j es nj ej => ?_) g1.f
  obtain ⟨b, ys, q1, q2, _⟩ := R.ow j es ej
  rw [q1]
  intro z
  cases z
  rw [q2] at hn
  cases hn
theorem ss_aug (i : Nat) {r : R2} {gg : PyData → PyData → Option PyData} (o : OpD K r gg) (a : SE K te fe) : SS K (tAug i te r) (dAug i gg fe) := by
  intro H0 F0 F σ H δ r' D R e h
  obtain ⟨x, e1, e⟩ := bind_some e
  obtain ⟨y, e2, e⟩ := bind_some e
  obtain ⟨z, e3, e4⟩ := Option.map_eq_some_iff.mp e
  subst e4
  unfold dVar at e1
  split at e1
  · rename_i d' q
    cases e1
    obtain ⟨v, hv, is⟩ := R.fz i x q
    refine ⟨v, hv, a H0 F0 F σ H δ y _ R e2 fun w H1 F1 g1 i1 => o F1 H1 v w x y z _ g1.s (is.same g1.f) i1 e3 fun v2 H2 F2 g2 i2 => ?_⟩
    exact h F2 _ H2 ((R.grow (g1.trans g2)).set i2) (g1.trans g2).f
  · cases e1
theorem ss_ret (a : SE K te fe) : SS K (tRet te) (dRet fe) := by
  intro H0 F0 F σ H δ r D R e h
  obtain ⟨d, e1, e2⟩ := Option.map_eq_some_iff.mp e
  subst e2
  exact a H0 F0 F σ H δ d _ R e1 fun v H1 F1 g1 i1 => h F1 v H1 (R.g.trans g1) i1
theorem ss_drop (a : SE K te fe) : SS K (tDrop te) (dDrop fe) := by
  intro H0 F0 F σ H δ r D R e h
  obtain ⟨d, e1, e2⟩ := Option.map_eq_some_iff.mp e
  subst e2
  exact a H0 F0 F σ H δ d _ R e1 fun v H1 F1 g1 i1 => h F1 σ H1 (R.grow g1) g1.f
theorem ss_never : SS K tNever dNever := fun H0 F0 F σ H δ r D R e h => by cases e
theorem ss_frz (i : Nat) (a : SS K t f) : SS K t (dFrz i f) := by
  intro H0 F0 F σ H δ r D R e h
  obtain ⟨F', s, R'⟩ := R.frz i
  exact a H0 F0 F' σ H _ r D R' e (h.up s)
theorem ss_append (i : Nat) (a : SE K te fe) : SS K (tDrop (tBM K "list" rAppend (tVar i) (tCons te tNil))) (dAppend i fe) := by
  intro H0 F0 F σ H δ r D R e h
  unfold dAppend at e
  split at e
  · rename_i ds q
    obtain ⟨d, e1, e2⟩ := bind_some e
    split at e2
    · rename_i hl
      cases e2
      obtain ⟨p, xs, q1, q2, q3, q4, q5⟩ := R.ow i ds q
      refine ⟨.ref p, q1, .inl ⟨rfl, xs, SqL.of q2⟩, a H0 F0 F σ H δ d _ R e1 fun v H1 F1 g1 i1 => ⟨p, xs, v, rfl, rfl, g1.h _ _ q2, ?_, ?_⟩⟩
      · rw [q5.length]; exact lim_lt (Nat.le_of_lt hl)
      · exact h F1 σ _ ((R.grow g1).mut q q1 (g1.o _ _ q2 (fun _ z => nomatch z) q3) q4 ((q5.same g1.f).append (Are.one i1))) g1.f
    · cases e2
  · cases e
theorem ss_extend (i : Nat) (a : SE K te fe) : SS K (tDrop (tBM K "list" rExtend (tVar i) (tCons te tNil))) (dExtend i fe) := by
  intro H0 F0 F σ H δ r D R e h
  unfold dExtend at e
  split at e
  · rename_i ds q
    obtain ⟨d, e1, e2⟩ := bind_some e
    split at e2
    · rename_i es
      split at e2
      · rename_i hl
        cases e2
        obtain ⟨p, xs, q1, q2, q3, q4, q5⟩ := R.ow i ds q
        refine ⟨.ref p, q1, .inl ⟨rfl, xs, SqL.of q2⟩, a H0 F0 F σ H δ _ _ R e1 fun v H1 F1 g1 i1 => ?_⟩
        obtain ⟨b, zs, rfl, hb, ab⟩ := i1
        refine ⟨p, b, xs, zs, rfl, rfl, g1.h _ _ q2, g1.s _ _ hb, ?_, ?_⟩
        · rw [q5.length, ab.length]; exact lim_line hl
        · exact h F1 σ _ ((R.grow g1).mut q q1 (g1.o _ _ q2 (fun _ z => nomatch z) q3) q4 ((q5.same g1.f).append ab)) g1.f
      · cases e2
    · cases e2
  · cases e
theorem ss_remove (i : Nat) (a : SE K te fe) : SS K (tDrop (tBM K "list" rRemove (tVar i) (tCons te tNil))) (dRemove i fe) := by
  intro H0 F0 F σ H δ r D R e h
  unfold dRemove at e
  split at e
  · rename_i ds q
    obtain ⟨d, e1, e2⟩ := bind_some e
    split at e2
    · rename_i n
      obtain ⟨ns, e3, e4⟩ := bind_some e2
      split at e4
      · rename_i hm
        cases e4
        obtain ⟨p, xs, q1, q2, q3, q4, q5⟩ := R.ow i ds q
        have ed := intsD_some e3
        subst ed
        have ex := Are.ints.mp q5
        subst ex
        refine ⟨.ref p, q1, .inl ⟨rfl, _, SqL.of q2⟩, a H0 F0 F σ H δ _ _ R e1 fun v H1 F1 g1 i1 => ?_⟩
        refine ⟨p, ns, n, rfl, by rw [show v = .int n from i1], g1.h _ _ q2, hm, ?_⟩
        exact h F1 σ _ ((R.grow g1).mut q q1 (g1.o _ _ q2 (fun _ z => nomatch z) q3) q4 (Are.ints.mpr rfl)) g1.f
      · cases e4
    · cases e2
  · cases e
end
structure IterD (K : PySem.W.Frag) (F : Hp) (J : It) (ds : List PyData) : Prop where
  go : ∀ (i : Nat) (F2 H2 : Hp), i < ds.length → Same F F2 → Same F2 H2 → J.go i H2
  stop : ∀ F2 H2 : Hp, Same F F2 → Same F2 H2 → J.stop ds.length H2
  yld : ∀ (i : Nat) (d : PyData) (F2 H2 : Hp) (x : V) (H3 : Hp), ds[i]? = some d → Same F F2 → Same F2 H2 → J.yld i H2 x H3 → ∃ F3, Grow F2 H2 F3 H3 ∧ Is K F3 x d
def SI (K : PySem.W.Frag) (wi : TI) (fi : DSt → Option (List PyData)) : Prop := ∀ (H0 F0 F : Hp) (σ : St) (H : Hp) (δ : DSt) (ds : List PyData) (R : It → Hp → Prop), Rep K H0 F0 F σ H δ → fi δ = some ds →
  (∀ J H' F', Grow F H F' H' → IterD K F' J ds → R J H') → wi σ H R
def SG (K : PySem.W.Frag) (g : TG) (fg : PyData → DSt → Option DSt) : Prop := ∀ (H0 F0 F : Hp) (σ : St) (H : Hp) (δ δ' : DSt) (v : V) (d : PyData) (Q : St → Hp → Prop), Rep K H0 F0 F σ H δ → Is K F v d → fg d δ = some δ' →
  (∀ σ', Rep K H0 F0 F σ' H δ' → Q σ' H) → g v σ H Q
def SGs (K : PySem.W.Frag) (g : TGs) (fg : List PyData → DSt → Option DSt) : Prop := ∀ (H0 F0 F : Hp) (σ : St) (H : Hp) (δ δ' : DSt) (vs : List V) (ds : List PyData) (Q : St → Hp → Prop), Rep K H0 F0 F σ H δ → Are K F vs ds → fg ds δ = some δ' →
  (∀ σ', Rep K H0 F0 F σ' H δ' → Q σ' H) → g vs σ H Q
def gN (i : Nat) (d : PyData) (δ : DSt) : Option DSt := some (δ.set i (some (.fz d)))
def gT (n : Nat) (fg : List PyData → DSt → Option DSt) (d : PyData) (δ : DSt) : Option DSt := match d with
  | .tuple ds => if ds.length = n then fg ds δ else none
  | _ => none
def gZ (ds : List PyData) (δ : DSt) : Option DSt := match ds with
  | [] => some δ
  | _ :: _ => none
def gC (f : PyData → DSt → Option DSt) (g : List PyData → DSt → Option DSt) (ds : List PyData) (δ : DSt) : Option DSt := match ds with
  | [] => none
  | d :: r => (f d δ).bind (g r)
section
variable {K : PySem.W.Frag}
theorem sg_name (i : Nat) : SG K (gName i) (gN i) := fun H0 F0 F σ H δ δ' v d Q R h e k => by cases e; exact k _ (R.set h)
theorem sgs_nil : SGs K gNil gZ := fun H0 F0 F σ H δ δ' vs ds Q R h e k => by
  cases ds with
  | nil => cases e; exact ⟨h, k σ R⟩
  | cons _ _ => cases e
theorem sgs_cons {t : TG} {u : TGs} {f : PyData → DSt → Option DSt} {g : List PyData → DSt → Option DSt} (a : SG K t f) (b : SGs K u g) : SGs K (gCons t u) (gC f g) := fun H0 F0 F σ H δ δ' vs ds Q R h e k => by
  cases ds with
  | nil => cases e
  | cons d r =>
    obtain ⟨v, vr, rfl, i1, i2⟩ := h
    obtain ⟨δ1, e1, e2⟩ := bind_some e
    exact ⟨v, vr, rfl, a H0 F0 F σ H δ δ1 v d _ R i1 e1 fun σ1 R1 => b H0 F0 F σ1 H δ1 δ' vr r Q R1 i2 e2 k⟩
theorem sg_tup {n : Nat} {t : TGs} {g : List PyData → DSt → Option DSt} (b : SGs K t g) : SG K (gTup K n t) (gT n g) := fun H0 F0 F σ H δ δ' v d Q R h e k => by
  unfold gT at e
  split at e
  · rename_i ds
    split at e
    · rename_i hl
      obtain ⟨a, xs, rfl, q, ar⟩ := h
      exact ⟨a, xs, rfl, SqT.of (R.g.s _ _ q), by rw [ar.length, hl], b H0 F0 F σ H δ δ' xs ds Q R ar e k⟩
    · cases e
  · cases e
def smallI (i : Int) : Bool := decide (-1000000000 ≤ i) && decide (i ≤ 1000000000)
def rangeD (lo : Int) (n : Nat) : List PyData := (List.range n).map fun k : Nat => PyData.int (lo + (k : Int))
def dRng1 (fs : DSt → Option (List PyData)) (δ : DSt) : Option (List PyData) := (fs δ).bind fun ds => match ds with
  | [.int j] => if smallI j = true then some (rangeD 0 j.toNat) else none
  | _ => none
def dRng2 (fs : DSt → Option (List PyData)) (δ : DSt) : Option (List PyData) := (fs δ).bind fun ds => match ds with
  | [.int i, .int j] => if (smallI i && smallI j) = true then some (rangeD i (j - i).toNat) else none
  | _ => none
theorem iter_rng (F : Hp) (lo : Int) (n : Nat) : IterD K F (Itr lo n) (rangeD lo n) where
  go := fun i F2 H2 h _ _ => by
    have : i < n := by simpa [rangeD] using h
    exact this
  stop := fun F2 H2 _ _ => by show n ≤ (rangeD lo n).length; simp [rangeD]
  yld := fun i d F2 H2 x H3 e _ s2 y => by
    obtain ⟨y1, y2⟩ := y
    subst y1 y2
    refine ⟨F2, Grow.refl s2, ?_⟩
    unfold rangeD at e
    rw [List.getElem?_map] at e
    obtain ⟨k, e1, e2⟩ := Option.map_eq_some_iff.mp e
    have hi := lt_of_get e1
    rw [List.getElem?_eq_getElem hi] at e1
    have : k = i := by simpa using e1.symm
    subst this
    subst e2
    rfl
theorem si_rng1 {ta : TA} {fs : DSt → Option (List PyData)} (a : SA K ta fs) : SI K (iRng1 ta) (dRng1 fs) := fun H0 F0 F σ H δ ds R RR e k => by
  obtain ⟨es, e1, e2⟩ := bind_some e
  split at e2
  · rename_i j
    split at e2
    · rename_i hs
      cases e2
      unfold smallI at hs
      rw [Bool.and_eq_true, decide_eq_true_eq, decide_eq_true_eq] at hs
      refine a H0 F0 F σ H δ _ _ RR e1 fun vs H1 F1 g1 ar => ?_
      obtain ⟨x, r, rfl, hx, hr⟩ := ar
      rw [show r = [] from hr, show x = .int j from hx]
      exact ⟨j, rfl, by omega, by omega, k _ H1 F1 g1 (iter_rng F1 0 j.toNat)⟩
    · cases e2
  · cases e2
end
end DL

namespace DL
open PySem PySem.Spec PyProof.Rows L2
def iSeq (K : PySem.W.Frag) (tl : TE) : TI := fun σ H R => tl σ H fun x H1 => ∃ a, x = .ref a ∧ (((∃ xs, SqL K H1 a xs) ∧ R (Itl K a) H1) ∨ ((∃ xs, SqT K H1 a xs) ∧ R (Itt K a) H1))
section
variable {X : Cx} {tg : Expr}
theorem pi_seq {l : Expr} {tl : TE} (hl : PE X l tl) : PI X tg l (iSeq X.K tl) := by
  intro pins s σ H R I h
  refine thn (hl pins s σ H _ I h) fun v s1 ⟨x, H1, I1, r1, q1⟩ => ?_
  obtain ⟨a, e, q⟩ := q1
  subst e
  cases r1
  rcases q with ⟨⟨xs, hq⟩, q⟩ | ⟨⟨xs, hq⟩, q⟩
  · obtain ⟨its, rv, p, hz⟩ := I1.list hq
    refine wpAny_pyIter_list p.isList ?_
    refine ⟨s1.heap.objs.size, [s1.heap.objs.size], _, _, H1, rfl, I1.kept (t' := s1.toks) fun b o e => Heap.get?_push_of_some _ e, turn_list a _, ⟨_, Heap.get?_push_size _ rfl, rfl, rfl⟩, fun b hb => ?_, q⟩
    have e : b = s1.heap.objs.size := by simpa using hb
    subst e
    exact I1.fpOk (Nat.le_refl _) (I1.hok.fresh (Nat.le_refl _))
  · obtain ⟨its, rv, p, hz⟩ := I1.tuple hq
    refine wpAny_pyIter_tuple (show s1.heap.IsTuple a its.toArray from p) ?_
    refine ⟨s1.heap.objs.size, [s1.heap.objs.size], _, _, H1, rfl, I1.kept (t' := s1.toks) fun b o e => Heap.get?_push_of_some _ e, turn_tuple a _, ⟨_, Heap.get?_push_size _ rfl, rfl, rfl⟩, fun b hb => ?_, q⟩
    have e : b = s1.heap.objs.size := by simpa using hb
    subst e
    exact I1.fpOk (Nat.le_refl _) (I1.hok.fresh (Nat.le_refl _))
theorem kx_seq {l : Expr} {tl : TE} (K : PySem.W.Frag) (hl : PE X l tl) (h : X.K = K := by rfl) : PI X tg l (iSeq K tl) := h ▸ pi_seq hl
def iEn (K : PySem.W.Frag) (ta : TA) : TI := fun σ H R => ta σ H fun vs H1 => ∃ a, vs = [.ref a] ∧ (((∃ xs, SqT K H1 a xs) ∧ R (Ite fun H xs => SqT K H a xs) H1) ∨ ((∃ xs, SqL K H1 a xs) ∧ R (Ite fun H xs => SqL K H a xs) H1))
theorem pi_en {es : List Expr} {k1 : Nat} {tp : Pos} {a : Expr} {ta : TA} {p pos : Pos} (hg : Gl X "enumerate") (hm : X.mg "enumerate" = none) (ha : PA X [a] ta) (hs : starEach [a] X.env = [(false, eval a X.env)] := by rfl) : PI X (.Tuple es k1 tp) (.Call (.Name "enumerate" p) [a] [] pos) (iEn X.K ta) := by
  intro pins s σ H R I h
  refine Call_ (ld_blt I hg hm boot_enumerate (PyProof.Rows.callWith_type1 (thn (ha pos pins s σ H _ I h) fun us s1 ⟨vs, H1, I1, r1, q1⟩ => ?_) hs rfl))
  obtain ⟨b, e, q1⟩ := q1
  subst e
  cases r1 with
  | cons r rr =>
    cases rr
    cases r
    rcases q1 with ⟨⟨xs, hq⟩, q⟩ | ⟨⟨xs, hq⟩, q⟩
    · obtain ⟨its, rv, pt, hz⟩ := I1.tuple hq
      refine call_enT (show s1.heap.IsTuple b its.toArray from pt) fun h' he hi hz' hk => ?_
      refine wpAny_pyIter_enum he ⟨_, [_, _], _, _, H1, rfl, I1.kept (t' := s1.toks) hk, turn_enum (srcT b s1.heap.objs.size), ⟨⟨_, he⟩, hi⟩, fun c hc => ?_, q⟩
      have hc' : c = s1.heap.objs.size + 1 ∨ c = s1.heap.objs.size := by simpa using hc
      have hle : s1.heap.objs.size ≤ c := by rcases hc' with z | z <;> rw [z]; exact Nat.le_succ _; exact Nat.le_refl _
      exact I1.fpOk hle (I1.hok.fresh hle)
    · obtain ⟨its, rv, pt, hz⟩ := I1.list hq
      refine call_enumerate_list pt.isList fun h' he hi hz' hk => ?_
      refine wpAny_pyIter_enum he ⟨_, [_, _], _, _, H1, rfl, I1.kept (t' := s1.toks) hk, turn_enum (srcL b s1.heap.objs.size), ⟨⟨_, he⟩, hi⟩, fun c hc => ?_, q⟩
      have hc' : c = s1.heap.objs.size + 1 ∨ c = s1.heap.objs.size := by simpa using hc
      have hle : s1.heap.objs.size ≤ c := by rcases hc' with z | z <;> rw [z]; exact Nat.le_succ _; exact Nat.le_refl _
      exact I1.fpOk hle (I1.hok.fresh hle)
theorem kx_en {es : List Expr} {k1 : Nat} {tp : Pos} {a : Expr} {ta : TA} {p pos : Pos} (K : PySem.W.Frag) (hm : X.mg "enumerate" = none) (ha : PA X [a] ta) (h : X.K = K := by rfl) (hg : Gl X "enumerate" := by rfl) (hs : starEach [a] X.env = [(false, eval a X.env)] := by rfl) :
    PI X (.Tuple es k1 tp) (.Call (.Name "enumerate" p) [a] [] pos) (iEn K ta) := h ▸ pi_en hg hm ha hs
end
section
variable {K : PySem.W.Frag}
theorem iter_lst {F : Hp} {a : Addr} {xs : List V} {ds : List PyData} (h : F a = some (.lst xs)) (ar : Are K F xs ds) : IterD K F (Itl K a) ds where
  go := fun i F2 H2 hi s1 s2 => by
    obtain ⟨x, e, _⟩ := ar.get (List.getElem?_eq_getElem hi)
    exact ⟨xs, x, SqL.of (s2 _ _ (s1 _ _ h)), e⟩
  stop := fun F2 H2 s1 s2 => ⟨xs, SqL.of (s2 _ _ (s1 _ _ h)), Nat.le_of_eq ar.length⟩
  yld := fun i d F2 H2 x H3 e s1 s2 y => by
    obtain ⟨rfl, y⟩ := y
    have q := y xs (SqL.of (s2 _ _ (s1 _ _ h)))
    obtain ⟨x', e', i'⟩ := ar.get e
    rw [q] at e'
    cases e'
    exact ⟨F2, Grow.refl s2, i'.same s1⟩
theorem iter_tup {F : Hp} {a : Addr} {xs : List V} {ds : List PyData} (h : F a = some (.tup xs)) (ar : Are K F xs ds) : IterD K F (Itt K a) ds where
  go := fun i F2 H2 hi s1 s2 => by
    obtain ⟨x, e, _⟩ := ar.get (List.getElem?_eq_getElem hi)
    exact ⟨xs, x, SqT.of (s2 _ _ (s1 _ _ h)), e⟩
  stop := fun F2 H2 s1 s2 => ⟨xs, SqT.of (s2 _ _ (s1 _ _ h)), Nat.le_of_eq ar.length⟩
  yld := fun i d F2 H2 x H3 e s1 s2 y => by
    obtain ⟨rfl, y⟩ := y
    have q := y xs (SqT.of (s2 _ _ (s1 _ _ h)))
    obtain ⟨x', e', i'⟩ := ar.get e
    rw [q] at e'
    cases e'
    exact ⟨F2, Grow.refl s2, i'.same s1⟩
def seqD : PyData → Option (List PyData)
  | .list ds => some ds
  | .tuple ds => some ds
  | _ => none
def dIter (f : DSt → Option PyData) (δ : DSt) : Option (List PyData) := (f δ).bind seqD
theorem si_seq {tl : TE} {f : DSt → Option PyData} (a : SE K tl f) : SI K (iSeq K tl) (dIter f) := fun H0 F0 F σ H δ ds R RR e k => by
  obtain ⟨d, e1, e2⟩ := bind_some e
  refine a H0 F0 F σ H δ d _ RR e1 fun v H1 F1 g1 is => ?_
  cases d with
  | list es =>
    cases e2
    obtain ⟨p, xs, rfl, q, ar⟩ := is
    exact ⟨p, rfl, .inl ⟨⟨xs, SqL.of (g1.s _ _ q)⟩, k _ H1 F1 g1 (iter_lst q ar)⟩⟩
  | tuple es =>
    cases e2
    obtain ⟨p, xs, rfl, q, ar⟩ := is
    exact ⟨p, rfl, .inr ⟨⟨xs, SqT.of (g1.s _ _ q)⟩, k _ H1 F1 g1 (iter_tup q ar)⟩⟩
  | _ => cases e2
def enumD (ds : List PyData) : List PyData := ds.zipIdx.map fun p => PyData.tuple [.int (p.2 : Nat), p.1]
theorem enumD_get {ds : List PyData} {i : Nat} {d : PyData} (h : (enumD ds)[i]? = some d) : ∃ e, ds[i]? = some e ∧ d = .tuple [.int (i : Nat), e] := by
  unfold enumD at h
  rw [List.getElem?_map, List.getElem?_zipIdx] at h
  obtain ⟨p, h1, h2⟩ := Option.map_eq_some_iff.mp h
  obtain ⟨e, h3, h4⟩ := Option.map_eq_some_iff.mp h1
  subst h4
  subst h2
  exact ⟨e, h3, by simp⟩
theorem enumD_len (ds : List PyData) : (enumD ds).length = ds.length := by simp [enumD]
theorem iter_en {F : Hp} {S : Hp → List V → Prop} {xs : List V} {ds : List PyData} (h : ∀ F2 H2, Same F F2 → Same F2 H2 → S H2 xs) (ar : Are K F xs ds) : IterD K F (Ite S) (enumD ds) where
  go := fun i F2 H2 hi s1 s2 => by
    rw [enumD_len] at hi
    obtain ⟨x, e, _⟩ := ar.get (List.getElem?_eq_getElem hi)
    exact ⟨xs, x, h F2 H2 s1 s2, e⟩
  stop := fun F2 H2 s1 s2 => ⟨xs, h F2 H2 s1 s2, by rw [enumD_len]; exact ar.length⟩
  yld := fun i d F2 H2 x H3 e s1 s2 y => by
    obtain ⟨p, v, hp, rfl, rfl, y⟩ := y
    have q := y xs (h F2 H2 s1 s2)
    obtain ⟨d', h1, rfl⟩ := enumD_get e
    obtain ⟨x', e', i'⟩ := ar.get h1
    rw [q] at e'
    cases e'
    exact ⟨_, Grow.new s2 hp, p, _, rfl, upd_same, .int (i : Nat), [v], rfl, rfl, v, [], rfl, (i'.same s1).same (same_new (s2.free hp) _), rfl⟩
def dEn (fs : DSt → Option (List PyData)) (δ : DSt) : Option (List PyData) := (fs δ).bind fun ds => match ds with
  | [d] => (seqD d).map enumD
  | _ => none
theorem si_en {ta : TA} {fs : DSt → Option (List PyData)} (a : SA K ta fs) : SI K (iEn K ta) (dEn fs) := fun H0 F0 F σ H δ ds R RR e k => by
  obtain ⟨es, e1, e2⟩ := bind_some e
  split at e2
  · rename_i d
    obtain ⟨us, e3, e4⟩ := Option.map_eq_some_iff.mp e2
    subst e4
    refine a H0 F0 F σ H δ _ _ RR e1 fun vs H1 F1 g1 ar => ?_
    obtain ⟨x, r, rfl, hx, hr⟩ := ar
    rw [show r = [] from hr]
    cases d with
    | list es =>
      cases e3
      obtain ⟨p, xs, rfl, q, ar⟩ := hx
      exact ⟨p, rfl, .inr ⟨⟨xs, SqL.of (g1.s _ _ q)⟩, k _ H1 F1 g1 (iter_en (fun F2 H2 s1 s2 => SqL.of (s2 _ _ (s1 _ _ q))) ar)⟩⟩
    | tuple es =>
      cases e3
      obtain ⟨p, xs, rfl, q, ar⟩ := hx
      exact ⟨p, rfl, .inl ⟨⟨xs, SqT.of (g1.s _ _ q)⟩, k _ H1 F1 g1 (iter_en (fun F2 H2 s1 s2 => SqT.of (s2 _ _ (s1 _ _ q))) ar)⟩⟩
    | _ => cases e3
  · cases e2
def zipD (ds es : List PyData) : List PyData := (ds.zip es).map fun p => PyData.tuple [p.1, p.2]
def dZip (fs : DSt → Option (List PyData)) (δ : DSt) : Option (List PyData) := (fs δ).bind fun ds => match ds with
  | [.tuple xs, .tuple ys] => if xs.length = ys.length then some (zipD xs ys) else none
  | _ => none
end
def loopD (fg : PyData → DSt → Option DSt) (fb : DSt → Option DFlow) : List PyData → DSt → Option DFlow
  | [], δ => some (.nx δ)
  | d :: r, δ => (fg d δ).bind fun δ1 => (fb δ1).bind fun fl => match fl with
    | .nx δ2 => loopD fg fb r δ2
    | .ct δ2 => loopD fg fb r δ2
    | .bk δ2 => some (.nx δ2)
    | .rt v => some (.rt v)
    | .ro v => some (.ro v)
def dFor (fi : DSt → Option (List PyData)) (fg : PyData → DSt → Option DSt) (fb : DSt → Option DFlow) (δ : DSt) : Option DFlow := (fi δ).bind fun ds => loopD fg fb ds δ
section
variable {K : PySem.W.Frag}
theorem ss_for {wi : TI} {g : TG} {tb : TS} {fi : DSt → Option (List PyData)} {fg : PyData → DSt → Option DSt} {fb : DSt → Option DFlow} (hi : SI K wi fi) (hg : SG K g fg) (hb : SS K tb fb) : SS K (tFor wi g tb) (dFor fi fg fb) := by
  intro H0 F0 F σ H δ r D R e h
  obtain ⟨ds, e1, e2⟩ := bind_some e
  refine hi H0 F0 F σ H δ ds _ R e1 fun J H1 F1 g1 it => ?_
  refine ⟨fun i m σ H => m = ds.length - i ∧ i ≤ ds.length ∧ ∃ F' δ', Rep K H0 F0 F' σ H δ' ∧ Same F1 F' ∧ loopD fg fb (ds.drop i) δ' = some r, ⟨ds.length, by simp, Nat.zero_le _, F1, δ, R.grow g1, Same.refl _, e2⟩, ?_⟩
  rintro i m σ' H' ⟨rfl, hle, F', δ', R', s', e'⟩
  by_cases hlt : i < ds.length
  · refine .inr ⟨it.go i F' H' hlt s' R'.g.s, fun σ H => i + 1 ≤ ds.length ∧ ∃ F' δ', Rep K H0 F0 F' σ H δ' ∧ Same F1 F' ∧ loopD fg fb (ds.drop (i + 1)) δ' = some r, fun σ2 H2 q => ⟨ds.length - (i + 1), by omega, rfl, q⟩, fun x H2 y => ?_⟩
    have hd : ds[i]? = some ds[i] := List.getElem?_eq_getElem hlt
    obtain ⟨F2, g2, is⟩ := it.yld i _ F' H' x H2 hd s' R'.g.s y
    rw [List.drop_eq_getElem_cons hlt] at e'
    obtain ⟨δ1, q1, q2⟩ := bind_some e'
    obtain ⟨fl, q3, q4⟩ := bind_some q2
    refine hg H0 F0 F2 σ' H2 δ' δ1 x ds[i] _ (R'.grow g2) is q1 fun σ3 R3 => ?_
    refine hb H0 F0 F2 σ3 H2 δ1 fl _ R3 q3 ?_
    have up : Same F1 F2 := s'.trans g2.f
    cases fl with
    | nx δ2 => exact fun F3 σ4 H4 R4 s4 => ⟨hlt, F3, δ2, R4, up.trans s4, q4⟩
    | ct δ2 => exact fun F3 σ4 H4 R4 s4 => ⟨hlt, F3, δ2, R4, up.trans s4, q4⟩
    | bk δ2 =>
      cases q4
      exact fun F3 σ4 H4 R4 s4 => h F3 σ4 H4 R4 (g1.f.trans (up.trans s4))
    | rt d => cases q4; exact h
    | ro d => cases q4; exact h
  · have e3 : i = ds.length := by omega
    subst e3
    rw [List.drop_length] at e'
    cases e'
    exact .inl ⟨it.stop F' H' s' R'.g.s, h F' σ' H' R' (g1.f.trans s')⟩
end
def st0D (n : Nat) (fr : List (Str × Nat)) (δ : DSt) : DSt := List.replicate n none ++ fr.map fun p => match δ[p.2]? with
  | some (some (.fz d)) => some (.fz d)
  | _ => none
def mapM' (f : PyData → Option (Option PyData)) : List PyData → Option (List PyData)
  | [] => some []
  | d :: r => (f d).bind fun o => match o with
    | some y => (mapM' f r).map (y :: ·)
    | none => mapM' f r
def dYes (_ : DSt) : Option Bool := some true
def dCompO (n : Nat) (fr : List (Str × Nat)) (fi : DSt → Option (List PyData)) (fg : PyData → DSt → Option DSt) (fc : DSt → Option Bool) (fe : DSt → Option PyData) (δ : DSt) : Option (List PyData) :=
  (fi δ).bind fun ds => if ds.length ≤ LIM then mapM' (fun d => (fg d (st0D n fr δ)).bind fun δ1 => (fc δ1).bind fun b => if b = true then (fe δ1).map some else some none) ds else none
/-- only the first n slots are turned by a target -/
def Low (n : Nat) (fg : PyData → DSt → Option DSt) : Prop := ∀ d δ δ1, fg d δ = some δ1 → δ1.length = δ.length ∧ ∀ i, n ≤ i → δ1[i]? = δ[i]?
theorem low_name {n i : Nat} (h : i < n := by decide) : Low n (gN i) := fun d δ δ1 e => by
  cases e
  exact ⟨List.length_set .., fun j hj => set_get_ne (by omega)⟩
section
variable {K : PySem.W.Frag}
theorem rep0 {H0 F0 F : Hp} {σ : St} {H : Hp} {δ : DSt} (R : Rep K H0 F0 F σ H δ) (n : Nat) (fr : List (Str × Nat)) (H' : Hp) (F1 : Hp) (g : Grow F1 H' F H) : Rep K H' F1 F (st0 n fr σ) H (st0D n fr δ) where
  g := g
  len := by simp [st0, st0D]
  fz := fun i d e => by
    unfold st0D at e
    unfold st0
    by_cases hi : i < n
    · rw [List.getElem?_append_left (by simpa using hi), List.getElem?_replicate, if_pos hi] at e
      cases e
    · rw [List.getElem?_append_right (by simpa using hi), List.length_replicate, List.getElem?_map] at e ⊢
      cases q : fr[i - n]? with
      | none => rw [q] at e; cases e
      | some p =>
        rw [q] at e
        have e' : (match δ[p.2]? with | some (some (.fz d)) => some (Sl.fz d) | _ => none) = some (.fz d) := Option.some.inj e
        split at e'
        · rename_i d' q'
          cases e'
          obtain ⟨v, h1, h2⟩ := R.fz p.2 d q'
          refine ⟨v, ?_, h2⟩
          show some ((σ[p.2]?).join) = some (some v)
          rw [h1]
          rfl
        · cases e'
  ow := fun i ds e => by
    exfalso
    unfold st0D at e
    by_cases hi : i < n
    · rw [List.getElem?_append_left (by simpa using hi), List.getElem?_replicate, if_pos hi] at e
      cases e
    · rw [List.getElem?_append_right (by simpa using hi), List.length_replicate, List.getElem?_map] at e
      cases q : fr[i - n]? with
      | none => rw [q] at e; cases e
      | some p =>
        rw [q] at e
        have e' : (match δ[p.2]? with | some (some (.fz d)) => some (Sl.fz d) | _ => none) = some (.ow ds) := Option.some.inj e
        split at e' <;> cases e'
  ap := fun i j ds es a e1 e2 e3 e4 => by
    exfalso
    unfold st0D at e1
    by_cases hi : i < n
    · rw [List.getElem?_append_left (by simpa using hi), List.getElem?_replicate, if_pos hi] at e1
      cases e1
    · rw [List.getElem?_append_right (by simpa using hi), List.length_replicate, List.getElem?_map] at e1
      cases q : fr[i - n]? with
      | none => rw [q] at e1; cases e1
      | some p =>
        rw [q] at e1
        have e' : (match δ[p.2]? with | some (some (.fz d)) => some (Sl.fz d) | _ => none) = some (.ow ds) := Option.some.inj e1
        split at e' <;> cases e'
  od := fun i ds e => by
    exfalso
    unfold st0D at e
    by_cases hi : i < n
    · rw [List.getElem?_append_left (by simpa using hi), List.getElem?_replicate, if_pos hi] at e
      cases e
    · rw [List.getElem?_append_right (by simpa using hi), List.length_replicate, List.getElem?_map] at e
      cases q : fr[i - n]? with
      | none => rw [q] at e; cases e
      | some p =>
        rw [q] at e
        have e' : (match δ[p.2]? with | some (some (.fz d)) => some (Sl.fz d) | _ => none) = some (.od ds) := Option.some.inj e
        split at e' <;> cases e'
  ad := fun i j ds es a e1 e2 e3 e4 => by
    exfalso
    unfold st0D at e1
    by_cases hi : i < n
    · rw [List.getElem?_append_left (by simpa using hi), List.getElem?_replicate, if_pos hi] at e1
      cases e1
    · rw [List.getElem?_append_right (by simpa using hi), List.length_replicate, List.getElem?_map] at e1
      cases q : fr[i - n]? with
      | none => rw [q] at e1; cases e1
      | some p =>
        rw [q] at e1
        have e' : (match δ[p.2]? with | some (some (.fz d)) => some (Sl.fz d) | _ => none) = some (.od ds) := Option.some.inj e1
        split at e' <;> cases e'
theorem st_yes : ST K tYes dYes := fun H0 F0 F σ H δ b Q R e h => by cases e; exact h H F (Grow.refl R.g.s)
theorem so_comp {n : Nat} {fr : List (Str × Nat)} {wi : TI} {g : TG} {tc : TT} {te : TE} {fi : DSt → Option (List PyData)} {fg : PyData → DSt → Option DSt} {fc : DSt → Option Bool} {fe : DSt → Option PyData}
    (hi : SI K wi fi) (hg : SG K g fg) (hl : Low n fg) (hc : ST K tc fc) (he : SE K te fe) : SO K (tComp n fr wi g tc te) (dCompO n fr fi fg fc fe) := by
  intro H0 F0 F σ H δ rs Q R e h
  obtain ⟨ds, e1, e2⟩ := bind_some e
  split at e2
  · rename_i lim
    refine hi H0 F0 F σ H δ ds _ R e1 fun J H1 F1 g1 it acc hacc => ?_
    have hF1 : F1 acc = none := g1.s.free hacc
    have h0 : H acc = none := g1.h.free hacc
    have R1 := R.grow g1
    let f : PyData → Option (Option PyData) := fun d => (fg d (st0D n fr δ)).bind fun δ1 => (fc δ1).bind fun b => if b = true then (fe δ1).map some else some none
    have e2' : mapM' f ds = some rs := e2
    refine ⟨fun i m σ' H' => m = ds.length - i ∧ i ≤ ds.length ∧ ∃ F' xs us vs, Rep K H1 F1 F' σ' H' (st0D n fr δ) ∧ F' acc = none ∧ H' acc = some (.lst xs) ∧ Are K F' xs us ∧ us.length ≤ i ∧ mapM' f (ds.drop i) = some vs ∧ rs = us ++ vs, ⟨ds.length, by simp, Nat.zero_le _, F1, [], [], rs, ?_, hF1, upd_same, rfl, Nat.le_refl _, e2', rfl⟩, ?_⟩
    · exact (rep0 R1 n fr H1 F1 (Grow.refl g1.s)).grow (Grow.fresh g1.s hacc)
    rintro i m σ' H' ⟨rfl, hle, F', xs, us, vs, R', hF', ha, ar, hu, em, er⟩
    have s' : Same F1 F' := R'.g.f
    by_cases hlt : i < ds.length
    · refine .inr ⟨it.go i F' H' hlt s' R'.g.s, fun σ' H' => i + 1 ≤ ds.length ∧ ∃ F' xs us vs, Rep K H1 F1 F' σ' H' (st0D n fr δ) ∧ F' acc = none ∧ H' acc = some (.lst xs) ∧ Are K F' xs us ∧ us.length ≤ i + 1 ∧ mapM' f (ds.drop (i + 1)) = some vs ∧ rs = us ++ vs, fun σ2 H2 q => ⟨ds.length - (i + 1), by omega, rfl, q⟩, fun x H2 y => ?_⟩
      have hd : ds[i]? = some ds[i] := List.getElem?_eq_getElem hlt
      obtain ⟨F2, g2, is⟩ := it.yld i _ F' H' x H2 hd s' R'.g.s y
      rw [List.drop_eq_getElem_cons hlt] at em
      obtain ⟨o, q1, q2⟩ := bind_some em
      obtain ⟨δ1, q3, q4⟩ := bind_some q1
      obtain ⟨b, q5, q6⟩ := bind_some q4
      obtain ⟨ll, lh⟩ := hl _ _ _ q3
      have weak : ∀ {Fx : Hp} {σx : St} {Hx : Hp}, Rep K H1 F1 Fx σx Hx δ1 → Rep K H1 F1 Fx σx Hx (st0D n fr δ) := fun {Fx σx Hx} RR => RR.weak ll.symm fun j s es => by
        by_cases hj : j < n
        · unfold st0D at es
          rw [List.getElem?_append_left (by simpa using hj), List.getElem?_replicate, if_pos hj] at es
          cases es
        · rw [lh j (by omega)]; exact es
      have ha2 : H2 acc = some (.lst xs) := g2.h _ _ ha
      have hF2 : F2 acc = none := g2.o _ _ ha (fun _ z => nomatch z) hF'
      refine hg H1 F1 F2 σ' H2 _ δ1 x ds[i] _ (R'.grow g2) is q3 fun σ3 R3 => ?_
      refine hc H1 F1 F2 σ3 H2 δ1 b _ R3 q5 fun H4 F4 g4 => ?_
      have ha4 : H4 acc = some (.lst xs) := g4.h _ _ ha2
      have hF4 : F4 acc = none := g4.o _ _ ha2 (fun _ z => nomatch z) hF2
      cases b with
      | false =>
        have q6' : (some none : Option (Option PyData)) = some o := q6
        cases q6'
        refine iteF ⟨hlt, F4, xs, us, vs, weak (R3.grow g4), hF4, ha4, (ar.same g2.f).same g4.f, by omega, q2, er⟩
      | true =>
        have q6' : (fe δ1).map some = some o := q6
        obtain ⟨yd, q7, q8⟩ := Option.map_eq_some_iff.mp q6'
        subst q8
        obtain ⟨ws, q9, q10⟩ := Option.map_eq_some_iff.mp q2
        subst q10
        refine iteT (he H1 F1 F4 σ3 H4 δ1 yd _ (R3.grow g4) q7 fun v H5 F5 g5 i5 => ?_)
        have ha5 : H5 acc = some (.lst xs) := g5.h _ _ ha4
        have hF5 : F5 acc = none := g5.o _ _ ha4 (fun _ z => nomatch z) hF4
        have ar5 : Are K F5 xs us := ((ar.same g2.f).same g4.f).same g5.f
        refine ⟨xs, ha5, ?_, hlt, F5, xs ++ [v], us ++ [yd], ws, ?_, hF5, upd_same, ar5.append (Are.one i5), ?_, q9, by rw [er]; simp⟩
        · rw [ar5.length]
          exact lim_lt (by omega)
        · have R5 := weak ((R3.grow g4).grow g5)
          exact ⟨⟨R5.g.f, fun b u q => by rw [upd_ne (ne_of_none q hF5)]; exact R5.g.s b u q, fun b u q => by rw [upd_ne (ne_of_none q hacc)]; exact R5.g.h b u q, R5.g.o⟩, R5.len, R5.fz, fun j es q => by
            exfalso
            unfold st0D at q
            by_cases hj : j < n
            · rw [List.getElem?_append_left (by simpa using hj), List.getElem?_replicate, if_pos hj] at q
              cases q
            · rw [List.getElem?_append_right (by simpa using hj), List.length_replicate, List.getElem?_map] at q
              cases z : fr[j - n]? with
              | none => rw [z] at q; cases q
              | some p =>
                rw [z] at q
                have e' : (match δ[p.2]? with | some (some (.fz d)) => some (Sl.fz d) | _ => none) = some (.ow es) := Option.some.inj q
                (split at e' <;> cases e'), R5.ap, fun j es q => by
            exfalso
            unfold st0D at q
            by_cases hj : j < n
            · rw [List.getElem?_append_left (by simpa using hj), List.getElem?_replicate, if_pos hj] at q
              cases q
            · rw [List.getElem?_append_right (by simpa using hj), List.length_replicate, List.getElem?_map] at q
              cases z : fr[j - n]? with
              | none => rw [z] at q; cases q
              | some p =>
                rw [z] at q
                have e' : (match δ[p.2]? with | some (some (.fz d)) => some (Sl.fz d) | _ => none) = some (.od es) := Option.some.inj q
                (split at e' <;> cases e'), R5.ad⟩
        · rw [List.length_append, List.length_singleton]
          omega
    · have e3 : i = ds.length := by omega
      subst e3
      rw [List.drop_length] at em
      cases em
      rw [List.append_nil] at er
      subst er
      refine .inl ⟨it.stop F' H' s' R'.g.s, ?_⟩
      refine h acc xs H' F' ?_ h0 hF' ha ar
      exact g1.trans R'.g
  · cases e2
end
def resOf : DFlow → Option PyData
  | .nx _ => some .none
  | .rt d => some d
  | .ro ds => some (.list ds)
  | _ => none
def stD (n : Nat) (ds : List PyData) : DSt := ds.map (fun d => some (.fz d)) ++ List.replicate (n - ds.length) none
def runD (n : Nat) (fb : DSt → Option DFlow) (ds : List PyData) : Option PyData := (fb (stD n ds)).bind resOf
def runO (n : Nat) (fb : DSt → Option DFlow) (ds : List PyData) : Option (List PyData) := (fb (stD n ds)).bind fun r => match r with
  | .ro ds => some ds
  | _ => none
def spD (K : PySem.W.Frag) (n : Nat) (f : List PyData → Option PyData) : Sp := fun vs H Q _ => ∃ F ds d, Same F H ∧ vs.length = n ∧ Are K F vs ds ∧ f ds = some d ∧ ∀ v H' F', Grow F H F' H' → Is K F' v d → Q v H'
theorem repStart {K : PySem.W.Frag} {F H : Hp} {N : List Str} {vs : List V} {ds : List PyData} (s : Same F H) (ar : Are K F vs ds) : Rep K H F F (L2.start N vs) H (stD N.length ds) where
  g := Grow.refl s
  len := by
    have := ar.length
    simp [L2.start, stD, this]
  fz := fun i d e => by
    have hl := ar.length
    unfold stD at e
    unfold L2.start
    by_cases hi : i < ds.length
    · rw [List.getElem?_append_left (by simpa using hi), List.getElem?_map] at e
      obtain ⟨d', e1, e2⟩ := Option.map_eq_some_iff.mp e
      cases e2
      obtain ⟨x, h1, h2⟩ := ar.get e1
      refine ⟨x, ?_, h2⟩
      rw [List.getElem?_append_left (by rw [List.length_map]; omega), List.getElem?_map, h1]
      rfl
    · rw [List.getElem?_append_right (by simpa using hi), List.getElem?_replicate] at e
      split at e <;> cases e
  ow := fun i es e => by
    exfalso
    unfold stD at e
    by_cases hi : i < ds.length
    · rw [List.getElem?_append_left (by simpa using hi), List.getElem?_map] at e
      obtain ⟨d', e1, e2⟩ := Option.map_eq_some_iff.mp e
      cases e2
    · rw [List.getElem?_append_right (by simpa using hi), List.getElem?_replicate] at e
      split at e <;> cases e
  ap := fun i j es us a e => by
    exfalso
    unfold stD at e
    by_cases hi : i < ds.length
    · rw [List.getElem?_append_left (by simpa using hi), List.getElem?_map] at e
      obtain ⟨d', e1, e2⟩ := Option.map_eq_some_iff.mp e
      cases e2
    · rw [List.getElem?_append_right (by simpa using hi), List.getElem?_replicate] at e
      split at e <;> cases e
  od := fun i es e => by
    exfalso
    unfold stD at e
    by_cases hi : i < ds.length
    · rw [List.getElem?_append_left (by simpa using hi), List.getElem?_map] at e
      obtain ⟨d', e1, e2⟩ := Option.map_eq_some_iff.mp e
      cases e2
    · rw [List.getElem?_append_right (by simpa using hi), List.getElem?_replicate] at e
      split at e <;> cases e
  ad := fun i j es us a e => by
    exfalso
    unfold stD at e
    by_cases hi : i < ds.length
    · rw [List.getElem?_append_left (by simpa using hi), List.getElem?_map] at e
      obtain ⟨d', e1, e2⟩ := Option.map_eq_some_iff.mp e
      cases e2
    · rw [List.getElem?_append_right (by simpa using hi), List.getElem?_replicate] at e
      split at e <;> cases e
section
variable {P : Program} {w : World} {K : PySem.W.Frag} {mg : Str → Option Value} {base : Heap}
theorem fun_okD {x qual : Str} {st : Stmt} {f : Addr} {fd : FuncData} {N ps : List Str} {k n m : Nat} {fb : DSt → Option DFlow} (F : Fun K x qual st f fd) (S : FnScope N ps (defScope st)) (hN : N.length = n) (hm : ps.length = m)
    (hbody : ∀ (cdv : Value) (A : Around) (outer : List Env) (s : Shared) (H : Hp) (E : XK), Room k (A.deeper (envOfC qual (defScope st) s.heap.objs.size f cdv)) →
      ∃ t, PSs (cxOf CX0 P w K mg base N qual (defScope st) f cdv A outer s H E).nox (defBody st) t ∧ SS K t fb) : FnOk P w K mg base CX0 (k + 1) f fd ps (spD K m (runD n fb)) := by
  subst hN hm
  refine F.ok S (fun vs H Q E h => ?_) (fun cdv A outer s H vs Q E hr h => ?_)
  · obtain ⟨F', ds, d, _, hl, _⟩ := h
    exact hl
  · obtain ⟨F', ds, d, sF, hl, ar, e, q⟩ := h
    obtain ⟨t, ht, hs⟩ := hbody cdv A outer s H E hr
    obtain ⟨r, e1, e2⟩ := bind_some e
    refine ⟨t, ht, hs H F' F' (L2.start N vs) H (stD N.length ds) r _ (repStart sF ar) e1 ?_⟩
    cases r with
    | nx δ => cases e2; exact fun F2 σ2 H2 R2 _ => q .non H2 F2 R2.g rfl
    | rt d' => cases e2; exact fun F2 v H2 g2 i2 => q v H2 F2 g2 i2
    | ro es =>
      cases e2
      exact fun F2 a xs H2 g2 h0 hf ha ar2 => q (.ref a) H2 _ (g2.frz h0 hf ha) ⟨a, xs, rfl, upd_same, ar2.same (same_new hf _)⟩
    | bk _ => cases e2
    | ct _ => cases e2
end
section
variable {K : PySem.W.Frag}
def dOwnCall (n : Nat) (g : List PyData → Option PyData) (fs : DSt → Option (List PyData)) (δ : DSt) : Option PyData := (fs δ).bind fun ds => if ds.length = n then g ds else none
def dOwnCallO (n : Nat) (g : List PyData → Option (List PyData)) (fs : DSt → Option (List PyData)) (δ : DSt) : Option (List PyData) := (fs δ).bind fun ds => if ds.length = n then g ds else none
theorem se_call {n : Nat} {g : List PyData → Option PyData} {t : TA} {fs : DSt → Option (List PyData)} (a : SA K t fs) : SE K (tCall (spD K n g) [] E0 t) (dOwnCall n g fs) := by
  intro H0 F0 F σ H δ d Q R e h
  obtain ⟨ds, e1, e2⟩ := bind_some e
  split at e2
  · rename_i hl
    refine a H0 F0 F σ H δ ds _ R e1 fun vs H1 F1 g1 ar => ⟨F1, ds, d, g1.s, ?_, ?_, e2, fun v H2 F2 g2 i2 => h v H2 F2 (g1.trans g2) i2⟩
    · rw [List.append_nil, ar.length, hl]
    · rw [List.append_nil]; exact ar
  · cases e2
end
end DL

namespace DL
open PySem PySem.Spec PyProof.Rows L2
section
variable {K : PySem.W.Frag}
def iiD (g : Int → Int → Option PyData) : PyData → PyData → Option PyData
  | .int a, .int b => g a b
  | _, _ => none
theorem iiD_some {g : Int → Int → Option PyData} {x y d : PyData} (h : iiD g x y = some d) : ∃ i j, x = .int i ∧ y = .int j ∧ g i j = some d := by
  unfold iiD at h
  split at h
  · exact ⟨_, _, rfl, rfl, h⟩
  · cases h
theorem od_i0 {g : Int → Int → V} {g' : Int → Int → PyData} (hg : ∀ i j H, Is K H (g i j) (g' i j)) : OpD K (rI0 g) (iiD fun i j => some (g' i j)) := fun F H x y dx dy d Q s hx hy e k => by
  obtain ⟨i, j, rfl, rfl, e⟩ := iiD_some e
  cases e
  exact ⟨i, j, hx, hy, k _ H F (Grow.refl s) (hg i j F)⟩
theorem od_i {C : Int → Int → Prop} {c : Int → Int → Bool} {g : Int → Int → V} {g' : Int → Int → PyData} (hc : ∀ i j, c i j = true → C i j) (hg : ∀ i j H, Is K H (g i j) (g' i j)) : OpD K (rI C g) (iiD fun i j => if c i j = true then some (g' i j) else none) := fun F H x y dx dy d Q s hx hy e k => by
  obtain ⟨i, j, rfl, rfl, e1⟩ := iiD_some e
  split at e1
  · rename_i h
    cases e1
    exact ⟨i, j, hx, hy, hc i j h, k _ H F (Grow.refl s) (hg i j F)⟩
  · cases e1
def subD := iiD fun i j => some (.int (i - j))
def ltD := iiD fun i j => some (.bool (decide (i < j)))
def leD := iiD fun i j => some (.bool (decide (i ≤ j)))
def gtD := iiD fun i j => some (.bool (decide (j < i)))
def geD := iiD fun i j => some (.bool (decide (j ≤ i)))
def iaddD := iiD fun i j => some (.int (i + j))
def cMul (i j : Int) : Bool := (decide (-1000000000000 ≤ i) && decide (i ≤ 1000000000000)) || (decide (-1000000000000 ≤ j) && decide (j ≤ 1000000000000))
def mulI := iiD fun i j => if cMul i j = true then some (.int (i * j)) else none
def cMod (_ j : Int) : Bool := decide (0 < j)
def modD := iiD fun i j => if cMod i j = true then some (.int (i % j)) else none
def cDiv (_ j : Int) : Bool := decide (0 < j) && decide (j < 1073741824)
def fdivD := iiD fun i j => if cDiv i j = true then some (.int (i / j)) else none
theorem od_sub : OpD K (rI0 fun i j => .int (i - j)) subD := od_i0 fun _ _ _ => rfl
theorem od_lt : OpD K (rI0 fun i j => .bl (decide (i < j))) ltD := od_i0 fun _ _ _ => rfl
theorem od_le : OpD K (rI0 fun i j => .bl (decide (i ≤ j))) leD := od_i0 fun _ _ _ => rfl
theorem od_gt : OpD K (rI0 fun i j => .bl (decide (j < i))) gtD := od_i0 fun _ _ _ => rfl
theorem od_iadd : OpD K (rI0 fun i j => .int (i + j)) iaddD := od_i0 fun _ _ _ => rfl
theorem cMul_ok {i j : Int} (h : cMul i j = true) : CMul i j := by
  unfold cMul at h
  simp only [Bool.or_eq_true, Bool.and_eq_true, decide_eq_true_eq] at h
  unfold CMul
  omega
theorem od_mul : OpD K (rI CMul fun i j => .int (i * j)) mulI := od_i (fun _ _ h => cMul_ok h) fun _ _ _ => rfl
theorem od_mod : OpD K (rI (fun _ j => 0 < j) fun i j => .int (i % j)) modD := od_i (fun _ _ h => by simpa [cMod] using h) fun _ _ _ => rfl
def rCatD (K : PySem.W.Frag) : R2 := fun x y H Q => ∃ a b xs ys, x = .ref a ∧ y = .ref b ∧ H a = some (.tup xs) ∧ H b = some (.tup ys) ∧ xs.length + ys.length ≤ sizeLine ∧ (ys = [] → Q (.ref a) H) ∧ (xs = [] → Q (.ref b) H) ∧ ∀ p, H p = none → Q (.ref p) (upd H p (.tup (xs ++ ys)))
theorem op_catD {X : Cx} : OpR X (binaryOp .Add) (rCatD X.K) := by
  intro pins s σ H x y v u Q I rx ry h
  obtain ⟨a, b, xs, ys, rfl, rfl, ha, hb, hz, q1, q2, q3⟩ := h
  by_cases hx : xs = []
  · cases rx
    cases ry
    obtain ⟨its, r1, p1, _⟩ := I.tuple (SqT.of ha)
    obtain ⟨its2, r2, p2, _⟩ := I.tuple (SqT.of hb)
    exact cat_nil p1 p2 (r1.nil_iff.mpr hx) ⟨.ref b, H, I, rfl, q2 hx⟩
  · exact op_catT pins s σ H _ _ v u Q I rx ry ⟨a, b, xs, ys, rfl, rfl, SqT.of ha, SqT.of hb, hx, hz, q1, fun _ p hp => q3 p hp⟩
def rAddS : R2 := fun x y H Q => ∃ i j, x = .str i ∧ y = .str j ∧ i.length + j.length ≤ sizeLine ∧ Q (.str (i ++ j)) H
def rAddA (K : PySem.W.Frag) : R2 := fun x y H Q => (rI0 fun i j => .int (i + j)) x y H Q ∨ (rCatD K x y H Q ∨ (rCat x y H Q ∨ rAddS x y H Q))
theorem kx_add {X : Cx} (K : PySem.W.Frag) (h : X.K = K := by rfl) : OpR X (binaryOp .Add) (rAddA K) := op_add.or ((h ▸ op_catD).or (op_cat.or op_add_str))
def addD : PyData → PyData → Option PyData
  | .int a, .int b => some (.int (a + b))
  | .tuple a, .tuple b => if a.length + b.length ≤ LIM then some (.tuple (a ++ b)) else none
  | .list a, .list b => if a.length + b.length ≤ LIM then some (.list (a ++ b)) else none
  | .str a, .str b => if a.length + b.length ≤ LIM then some (.str (a ++ b)) else none
  | _, _ => none
theorem od_add : OpD K (rAddA K) addD := fun F H x y dx dy d Q s hx hy e k => by
  unfold addD at e
  split at e
  · cases e
    exact .inl ⟨_, _, hx, hy, k _ H F (Grow.refl s) rfl⟩
  · rename_i a b
    split at e
    · rename_i hl
      cases e
      obtain ⟨p, xs, rfl, q, ar⟩ := hx
      obtain ⟨p', ys, rfl, q', ar'⟩ := hy
      refine .inr (.inl ⟨p, p', xs, ys, rfl, rfl, s _ _ q, s _ _ q', by rw [ar.length, ar'.length]; exact lim_line hl, fun z => ?_, fun z => ?_, fun t ht => ?_⟩)
      · refine k _ H F (Grow.refl s) ⟨p, xs, rfl, q, ?_⟩
        have := ar'.length
        rw [z] at this
        have : b = [] := List.eq_nil_of_length_eq_zero this.symm
        subst this
        rw [List.append_nil]
        exact ar
      · refine k _ H F (Grow.refl s) ⟨p', ys, rfl, q', ?_⟩
        have := ar.length
        rw [z] at this
        have : a = [] := List.eq_nil_of_length_eq_zero this.symm
        subst this
        exact ar'
      · have sn : Same F (upd F t (.tup (xs ++ ys))) := same_new (s.free ht) _
        exact k _ _ _ (Grow.new s ht) ⟨t, _, rfl, upd_same, (ar.append ar').same sn⟩
    · cases e
  · rename_i a b
    split at e
    · rename_i hl
      cases e
      obtain ⟨p, xs, rfl, q, ar⟩ := hx
      obtain ⟨p', ys, rfl, q', ar'⟩ := hy
      refine .inr (.inr (.inl ⟨p, p', xs, ys, rfl, rfl, s _ _ q, s _ _ q', by rw [ar.length, ar'.length]; exact lim_line hl, fun t ht => ?_⟩))
      have sn : Same F (upd F t (.lst (xs ++ ys))) := same_new (s.free ht) _
      exact k _ _ _ (Grow.new s ht) ⟨t, _, rfl, upd_same, (ar.append ar').same sn⟩
    · cases e
  · rename_i a b
    split at e
    · rename_i hl
      cases e
      exact .inr (.inr (.inr ⟨a, b, hx, hy, lim_line hl, k _ H F (Grow.refl s) rfl⟩))
    · cases e
  · cases e
theorem atI_are {F : Hp} {xs : List V} {ds : List PyData} {i : Int} {d : PyData} (ar : Are K F xs ds) (e : atI ds i = some d) : ∃ v, atI xs i = some v ∧ Is K F v d := by
  unfold atI at e ⊢
  rw [← ar.length] at e
  obtain ⟨j, e1, e2⟩ := bind_some e
  rw [e1]
  exact ar.get e2
def scrD : PyData → Option (List Int)
  | .dict [(.none, .list ds)] => intsD ds
  | _ => none
theorem scr_of {F : Hp} {x : V} {d : PyData} {ns : List Int} (e : scrD d = some ns) (h : Is K F x d) : ∃ a, x = .ref a ∧ SqL K F a (ns.map V.int) := by
  unfold scrD at e
  split at e
  · rename_i ds
    have ed := intsD_some e
    subst ed
    obtain ⟨a, rfl, h⟩ := h
    rcases h with ⟨ms, e1, q⟩ | ⟨m, _, q⟩ | ⟨nm, z, _⟩ | ⟨m, _, q⟩
    · have : ns = ms := by
        injection e1 with e1 _
        injection e1 with _ e1
        injection e1 with e1
        have := congrArg intsD e1
        rw [intsD_map, intsD_map] at this
        exact Option.some.inj this
      subst this
      exact ⟨a, rfl, q⟩
    · obtain ⟨z, m', _, q, _⟩ := q
      have := q.1
      cases this
    · cases z
    · cases q.1
  · cases e
def ixD : PyData → PyData → Option PyData
  | .tuple ds, .int i => atI ds i
  | .list ds, .int i => atI ds i
  | .str z, .int i => if z.length ≤ LIM then (atI z.cps.toList i).map fun c => .str ⟨#[c]⟩ else none
  | d, .int i => (scrD d).bind fun ns => (atI ns i).map PyData.int
  | _, _ => none
theorem kx_ix {X : Cx} (K : PySem.W.Frag) (h : X.K = K := by rfl) : IxR X (rIx K) := h ▸ ix_seq
theorem atI_map {α β : Type} (f : α → β) (l : List α) (i : Int) : atI (l.map f) i = (atI l i).map f := by
  unfold atI
  rw [List.length_map]
  cases ixN l.length i with
  | none => rfl
  | some j => simp
theorem od_ix : OpD K (rIx K) ixD := fun F H x y dx dy d Q s hx hy e k => by
  unfold ixD at e
  split at e
  · obtain ⟨p, xs, rfl, q, ar⟩ := hx
    obtain ⟨v, e1, i1⟩ := atI_are ar e
    exact .inr (.inl ⟨p, xs, _, v, rfl, hy, SqT.of (s _ _ q), e1, k v H F (Grow.refl s) i1⟩)
  · obtain ⟨p, xs, rfl, q, ar⟩ := hx
    obtain ⟨v, e1, i1⟩ := atI_are ar e
    exact .inl ⟨p, xs, _, v, rfl, hy, SqL.of (s _ _ q), e1, k v H F (Grow.refl s) i1⟩
  · rename_i z i
    split at e
    · rename_i hl
      obtain ⟨c, e1, e2⟩ := Option.map_eq_some_iff.mp e
      subst e2
      exact .inr (.inr ⟨z, i, c, hx, hy, lim_line hl, e1, k _ H F (Grow.refl s) rfl⟩)
    · cases e
  · rename_i i _ _ _
    obtain ⟨ns, e1, e2⟩ := bind_some e
    obtain ⟨n, e3, e4⟩ := Option.map_eq_some_iff.mp e2
    subst e4
    obtain ⟨a, rfl, q⟩ := scr_of e1 hx
    exact .inl ⟨a, _, i, .int n, rfl, hy, s.seq q, by rw [atI_map, e3]; rfl, k _ H F (Grow.refl s) rfl⟩
  · cases e
def lenD : PyData → Option Nat
  | .tuple ds => some ds.length
  | .list ds => some ds.length
  | .str z => if z.length ≤ LIM then some z.length else none
  | d => (scrD d).map List.length
def rLenA (K : PySem.W.Frag) : List V → Hp → VK → Prop := fun xs H Q => ∃ x n, xs = [x] ∧ LenV K x H n ∧ Q (.int (n : Nat)) H
theorem kx_lenA {X : Cx} (K : PySem.W.Frag) (h : X.K = K := by rfl) : CallR X (.builtin "len") (rLenA K) := h ▸ call_len
def lenC : List PyData → Option PyData
  | [d] => (lenD d).map fun n : Nat => .int (n : Nat)
  | _ => none
theorem lenV_of {F H : Hp} {x : V} {d : PyData} {n : Nat} (s : Same F H) (h : Is K F x d) (e : lenD d = some n) : LenV K x H n := by
  unfold lenD at e
  split at e
  · cases e
    obtain ⟨p, xs, rfl, q, ar⟩ := h
    exact .inr ⟨xs, SqT.of (s _ _ q), ar.length.symm⟩
  · cases e
    obtain ⟨p, xs, rfl, q, ar⟩ := h
    exact .inl ⟨xs, SqL.of (s _ _ q), ar.length.symm⟩
  · rename_i z
    split at e
    · rename_i hl
      cases e
      rw [show x = .str z from h]
      exact ⟨lim_line hl, rfl⟩
    · cases e
  · obtain ⟨ns, e1, e2⟩ := Option.map_eq_some_iff.mp e
    subst e2
    obtain ⟨a, rfl, q⟩ := scr_of e1 h
    exact .inl ⟨_, s.seq q, by rw [List.length_map]⟩
theorem cd_len : CallD K (rLenA K) lenC := fun F H xs ds d Q s ar e k => by
  unfold lenC at e
  split at e
  · obtain ⟨n, e1, e2⟩ := Option.map_eq_some_iff.mp e
    subst e2
    obtain ⟨x, r, rfl, hx, hr⟩ := ar
    rw [show r = [] from hr]
    exact ⟨x, n, rfl, lenV_of s hx e1, k _ H F (Grow.refl s) rfl⟩
  · cases e
/-- slices -/
def cutD {α : Type} (xs : List α) (lo hi : Option Int) : List α := (xs.drop (HT.sIx xs.length 0 lo)).take (HT.sIx xs.length xs.length hi - HT.sIx xs.length 0 lo)
def rSlA (K : PySem.W.Frag) : V → Option Int → Option Int → Hp → VK → Prop := fun x lo hi H Q => (rSlW K x lo hi H Q ∨ rSlT K x lo hi H Q) ∨ rSlL K x lo hi H Q
theorem kx_slA {X : Cx} (K : PySem.W.Frag) (h : X.K = K := by rfl) : SlR X (rSlA K) := h ▸ (sl_tupW.or sl_tup).or sl_list
def SlD (K : PySem.W.Frag) (r : V → Option Int → Option Int → Hp → VK → Prop) (g : PyData → Option Int → Option Int → Option PyData) : Prop := ∀ (F H : Hp) (x : V) (lo hi : Option Int) (dx d : PyData) (Q : VK), Same F H → Is K F x dx → g dx lo hi = some d → (∀ v H' F', Grow F H F' H' → Is K F' v d → Q v H') → r x lo hi H Q
def slD : PyData → Option Int → Option Int → Option PyData
  | .tuple ds, lo, hi => some (.tuple (cutD ds lo hi))
  | .list ds, lo, hi => some (.list (cutD ds lo hi))
  | _, _, _ => none
theorem are_cut {F : Hp} {xs : List V} {ds : List PyData} (ar : Are K F xs ds) (lo hi : Option Int) : Are K F (cutV xs lo hi) (cutD ds lo hi) := by
  unfold cutV cutD
  rw [ar.length]
  exact (ar.drop _).take _
theorem sd_sl : SlD K (rSlA K) slD := fun F H x lo hi dx d Q s hx e k => by
  unfold slD at e
  split at e
  · cases e
    obtain ⟨p, xs, rfl, q, ar⟩ := hx
    by_cases hw : HT.sIx xs.length 0 lo = 0 ∧ HT.sIx xs.length xs.length hi = xs.length
    · refine .inl (.inl ⟨p, xs, rfl, SqT.of (s _ _ q), hw.1, hw.2, k _ H F (Grow.refl s) ⟨p, xs, rfl, q, ?_⟩⟩)
      unfold cutD
      rw [← ar.length, hw.1, hw.2, List.drop_zero, Nat.sub_zero, ar.length, List.take_length]
      exact ar
    · refine .inl (.inr ⟨p, xs, rfl, SqT.of (s _ _ q), hw, fun t ht => ?_⟩)
      exact k _ _ _ (Grow.new s ht) ⟨t, _, rfl, upd_same, (are_cut ar lo hi).same (same_new (s.free ht) _)⟩
  · cases e
    obtain ⟨p, xs, rfl, q, ar⟩ := hx
    refine .inr ⟨p, xs, rfl, SqL.of (s _ _ q), fun t ht => ?_⟩
    exact k _ _ _ (Grow.new s ht) ⟨t, _, rfl, upd_same, (are_cut ar lo hi).same (same_new (s.free ht) _)⟩
  · cases e
def STo (K : PySem.W.Frag) (to : TO) (f : DSt → Option (Option Int)) : Prop := ∀ (H0 F0 F : Hp) (σ : St) (H : Hp) (δ : DSt) (o : Option Int) (Q : Option Int → Hp → Prop), Rep K H0 F0 F σ H δ → f δ = some o → (∀ H' F', Grow F H F' H' → Q o H') → to σ H Q
def dNoPart (_ : DSt) : Option (Option Int) := some none
def dPart (f : DSt → Option PyData) (δ : DSt) : Option (Option Int) := (f δ).bind fun d => match d with
  | .int i => some (some i)
  | _ => none
theorem so_none : STo K tNoPart dNoPart := fun H0 F0 F σ H δ o Q R e h => by cases e; exact h H F (Grow.refl R.g.s)
theorem so_part {te : TE} {f : DSt → Option PyData} (a : SE K te f) : STo K (tPart te) (dPart f) := fun H0 F0 F σ H δ o Q R e h => by
  obtain ⟨d, e1, e2⟩ := bind_some e
  split at e2
  · rename_i i
    cases e2
    exact a H0 F0 F σ H δ _ _ R e1 fun v H1 F1 g1 i1 => ⟨i, i1, h H1 F1 g1⟩
  · cases e2
def dSl (f : DSt → Option PyData) (l h : DSt → Option (Option Int)) (δ : DSt) : Option PyData := (f δ).bind fun d => (l δ).bind fun lo => (h δ).bind fun hi => slD d lo hi
theorem se_sl {te : TE} {tl th : TO} {f : DSt → Option PyData} {l u : DSt → Option (Option Int)} (a : SE K te f) (b : STo K tl l) (c : STo K th u) : SE K (tSl (rSlA K) te tl th) (dSl f l u) := fun H0 F0 F σ H δ d Q R e h => by
  obtain ⟨dx, e1, e⟩ := bind_some e
  obtain ⟨lo, e2, e⟩ := bind_some e
  obtain ⟨hi, e3, e⟩ := bind_some e
  refine a H0 F0 F σ H δ dx _ R e1 fun v H1 F1 g1 i1 => b H0 F0 F1 σ H1 δ lo _ (R.grow g1) e2 fun H2 F2 g2 => c H0 F0 F2 σ H2 δ hi _ ((R.grow g1).grow g2) e3 fun H3 F3 g3 => ?_
  exact sd_sl F3 H3 v lo hi dx d Q g3.s ((i1.same g2.f).same g3.f) e fun v' H4 F4 g4 i4 => h v' H4 F4 (g1.trans (g2.trans (g3.trans g4))) i4
mutual
theorem toD {H : Hp} : ∀ {x : V} (d : PyData), d.canLay0 = true → Is K H x d → L2.IsD K H x d
  | _, .none, _, h => h
  | _, .bool _, _, h => h
  | _, .int _, _, h => h
  | _, .str _, _, h => h
  | _, .list ds, c, h => by
    obtain ⟨a, xs, e, q, r⟩ := h
    exact ⟨a, xs, e, SqL.of q, toDs ds (by simpa [PyData.canLay0] using c) r⟩
  | _, .tuple ds, c, h => by
    obtain ⟨a, xs, e, q, r⟩ := h
    exact ⟨a, xs, e, SqT.of q, toDs ds (by simpa [PyData.canLay0] using c) r⟩
  | _, .dict _, c, h => by simp [PyData.canLay0] at c
theorem toDs {H : Hp} : ∀ {xs : List V} (ds : List PyData), PyData.canLayAll0 ds = true → Are K H xs ds → L2.AllD K H xs ds
  | _, [], _, h => h
  | _, d :: ds, c, h => by
    obtain ⟨x, r, e, q, t⟩ := h
    simp only [PyData.canLayAll0, Bool.and_eq_true] at c
    exact ⟨x, r, e, toD d c.1 q, toDs ds c.2 t⟩
end
def okD (d : PyData) : Bool := d.canLay0 && decide (d.depth ≤ 60)
theorem okD_cmp {d : PyData} (h : okD d = true) : cmpOk d := by
  unfold okD at h
  rw [Bool.and_eq_true, decide_eq_true_eq] at h
  exact h
def eqD (a b : PyData) : Option PyData := if (okD a && okD b) = true then some (.bool (PyData.eqv a b)) else none
def neD (a b : PyData) : Option PyData := if (okD a && okD b) = true then some (.bool (!PyData.eqv a b)) else none
theorem od_eq : OpD K (rEqD K false) eqD := fun F H x y dx dy d Q s hx hy e k => by
  unfold eqD at e
  split at e
  · rename_i c
    rw [Bool.and_eq_true] at c
    cases e
    exact ⟨dx, dy, toD dx (okD_cmp c.1).1 (hx.same s), toD dy (okD_cmp c.2).1 (hy.same s), okD_cmp c.1, okD_cmp c.2, k _ H F (Grow.refl s) rfl⟩
  · cases e
theorem od_ne : OpD K (rEqD K true) neD := fun F H x y dx dy d Q s hx hy e k => by
  unfold neD at e
  split at e
  · rename_i c
    rw [Bool.and_eq_true] at c
    cases e
    exact ⟨dx, dy, toD dx (okD_cmp c.1).1 (hx.same s), toD dy (okD_cmp c.2).1 (hy.same s), okD_cmp c.1, okD_cmp c.2, k _ H F (Grow.refl s) rfl⟩
  · cases e
def isNo : PyData → Bool
  | .none => true
  | _ => false
def isND (a b : PyData) : Option PyData := match b with
  | .none => some (.bool (isNo a))
  | _ => none
def notND (a b : PyData) : Option PyData := match b with
  | .none => some (.bool (!isNo a))
  | _ => none
def dChain (g g' : PyData → PyData → Option PyData) (fa fb fc : DSt → Option PyData) (δ : DSt) : Option PyData := (fa δ).bind fun a => (fb δ).bind fun b => (g a b).bind fun r => match r with
  | .bool true => (fc δ).bind fun c => g' b c
  | .bool false => some (.bool false)
  | _ => none
theorem se_chain {r r' : R2} {g g' : PyData → PyData → Option PyData} {ta tb tc : TE} {fa fb fc : DSt → Option PyData} (o : OpD K r g) (o' : OpD K r' g') (a : SE K ta fa) (b : SE K tb fb) (c : SE K tc fc) : SE K (tChain r r' ta tb tc) (dChain g g' fa fb fc) := fun H0 F0 F σ H δ d Q R e h => by
  obtain ⟨dx, ex, e⟩ := bind_some e
  obtain ⟨dy, ey, e⟩ := bind_some e
  obtain ⟨dz, ez, e⟩ := bind_some e
  refine a H0 F0 F σ H δ dx _ R ex fun v H1 F1 g1 i1 => b H0 F0 F1 σ H1 δ dy _ (R.grow g1) ey fun w H2 F2 g2 i2 => ?_
  refine o F2 H2 v w dx dy dz _ g2.s (i1.same g2.f) i2 ez fun v' H3 F3 g3 i3 => ?_
  split at e
  · refine ⟨true, i3, iteT ?_⟩
    obtain ⟨du, eu, e⟩ := bind_some e
    refine c H0 F0 F3 σ H3 δ du _ ((R.grow (g1.trans g2)).grow g3) eu fun u H4 F4 g4 i4 => ?_
    exact o' F4 H4 w u dy du d Q g4.s ((i2.same g3.f).same g4.f) i4 e fun v5 H5 F5 g5 i5 => h v5 H5 F5 (g1.trans (g2.trans (g3.trans (g4.trans g5)))) i5
  · cases e
    exact ⟨false, i3, iteF (h _ H3 F3 (g1.trans (g2.trans g3)) rfl)⟩
  · cases e
def dNeg (f : DSt → Option PyData) (δ : DSt) : Option PyData := (f δ).bind fun d => match d with
  | .int i => some (.int (-i))
  | _ => none
theorem se_neg {te : TE} {f : DSt → Option PyData} (a : SE K te f) : SE K (tUn (rU fun i => .int (-i)) te) (dNeg f) := fun H0 F0 F σ H δ d Q R e h => by
  obtain ⟨dx, e1, e2⟩ := bind_some e
  split at e2
  · rename_i i
    cases e2
    exact a H0 F0 F σ H δ _ _ R e1 fun v H1 F1 g1 i1 => ⟨i, i1, h _ H1 F1 g1 rfl⟩
  · cases e2
def tyD : PyData → String
  | .none => "NoneType"
  | .bool _ => "bool"
  | .int _ => "int"
  | .str _ => "str"
  | .list _ => "list"
  | .tuple _ => "tuple"
  | .dict _ => "dict"
def isiN (d : PyData) (n : String) : Bool := tyD d == n || (tyD d == "bool" && n == "int")
def rIsiD (K : PySem.W.Frag) : List V → Hp → VK → Prop := fun xs H Q => ∃ x n d, xs = [x, .ty n] ∧ Is K H x d ∧ (d matches .dict _) = false ∧ n ∈ ["int", "bool", "str", "list", "tuple"] ∧ Q (.bl (isiN d n)) H
end
section
variable {X : Cx}
theorem kitT {K : PySem.W.Frag} (d : PyData) (hd : (d matches .dict _) = false) (n : String) (hn : n ∈ ["int", "bool", "str", "list", "tuple"]) : PySem.W.kitOne K (.type (tyD d)) (.type n) = some (isiN d n) := by
  have go : ∀ t ∈ ["NoneType", "bool", "int", "str", "list", "tuple"], ∀ n ∈ ["int", "bool", "str", "list", "tuple"],
      (if (Value.type t == Value.type n) = true then some true else if PySem.W.kitMeta n = true then (fastBuiltinMro t).map (·.contains (.type n)) else none) = some (t == n || (t == "bool" && n == "int")) := by decide +kernel
  have ht : tyD d ∈ ["NoneType", "bool", "int", "str", "list", "tuple"] := by
    cases d <;> simp [tyD] at hd ⊢
  exact go _ ht n hn
theorem call_isiD : CallR X (.builtin "isinstance") (rIsiD X.K) := by
  intro pins s σ H xs us Q I rv h
  obtain ⟨x, n, d, rfl, hx, hd, hn, q⟩ := h
  obtain ⟨u, w', rfl, r1, r2⟩ := rv.two
  cases r2
  have e := kitT (K := X.K) d hd n hn
  have fin : ∀ tk, EP X pins σ Q (.bool (isiN d n)) { s with toks := tk } := fun tk => ⟨.bl _, H, I.tok tk, rfl, q⟩
  cases d with
  | none => exact isinst_ok I r1 (by rw [show x = .non from hx]; exact TyOf.non) e fin
  | bool b => exact isinst_ok I r1 (by rw [show x = .bl b from hx]; exact TyOf.bl b) e fin
  | int b => exact isinst_ok I r1 (by rw [show x = .int b from hx]; exact TyOf.int b) e fin
  | str b => exact isinst_ok I r1 (by rw [show x = .str b from hx]; exact TyOf.str b) e fin
  | list ds =>
    obtain ⟨a, ys, rfl, q', _⟩ := hx
    exact isinst_ok I r1 (TyOf.lst q') e fin
  | tuple ds =>
    obtain ⟨a, ys, rfl, q', _⟩ := hx
    exact isinst_ok I r1 (TyOf.tup q') e fin
  | dict _ => cases hd
theorem kx_isiD (K : PySem.W.Frag) (h : X.K = K := by rfl) : CallR X (.builtin "isinstance") (rIsiD K) := h ▸ call_isiD
end
section
variable {K : PySem.W.Frag}
/-- isinstance(e, T): the second argument is a type's name, no data -/
def dIsi (n : String) (f : DSt → Option PyData) (δ : DSt) : Option PyData := (f δ).bind fun d => match d with
  | .dict _ => none
  | d => some (.bool (isiN d n))
theorem se_isi {te : TE} {n : String} {f : DSt → Option PyData} (a : SE K te f) (hn : n ∈ ["int", "bool", "str", "list", "tuple"] := by decide) : SE K (tCB (rIsiD K) (tCons te (tCons (tC (.ty n)) tNil))) (dIsi n f) := fun H0 F0 F σ H δ d Q R e h => by
  obtain ⟨dx, e1, e2⟩ := bind_some e
  refine a H0 F0 F σ H δ dx _ R e1 fun v H1 F1 g1 i1 => ?_
  cases dx with
  | dict _ => cases e2
  | none => cases e2; exact ⟨v, n, _, rfl, i1.same g1.s, rfl, hn, h _ H1 F1 g1 rfl⟩
  | bool _ => cases e2; exact ⟨v, n, _, rfl, i1.same g1.s, rfl, hn, h _ H1 F1 g1 rfl⟩
  | int _ => cases e2; exact ⟨v, n, _, rfl, i1.same g1.s, rfl, hn, h _ H1 F1 g1 rfl⟩
  | str _ => cases e2; exact ⟨v, n, _, rfl, i1.same g1.s, rfl, hn, h _ H1 F1 g1 rfl⟩
  | list _ => cases e2; exact ⟨v, n, _, rfl, i1.same g1.s, rfl, hn, h _ H1 F1 g1 rfl⟩
  | tuple _ => cases e2; exact ⟨v, n, _, rfl, i1.same g1.s, rfl, hn, h _ H1 F1 g1 rfl⟩
def boolsD : List PyData → Option (List Bool)
  | [] => some []
  | .bool n :: r => (boolsD r).map (n :: ·)
  | _ :: _ => none
theorem boolsD_some : ∀ {ds : List PyData} {ns : List Bool}, boolsD ds = some ns → ds = ns.map PyData.bool
  | [], ns, h => by cases h; rfl
  | .bool n :: r, ns, h => by
    obtain ⟨ms, e1, e2⟩ := Option.map_eq_some_iff.mp h
    subst e2
    rw [boolsD_some e1]; rfl
  | .none :: r, ns, h => by cases h
  | .int _ :: r, ns, h => by cases h
  | .str _ :: r, ns, h => by cases h
  | .list _ :: r, ns, h => by cases h
  | .tuple _ :: r, ns, h => by cases h
  | .dict _ :: r, ns, h => by cases h
theorem boolsD_map : ∀ ns : List Bool, boolsD (ns.map PyData.bool) = some ns
  | [] => rfl
  | n :: r => by
    show (boolsD (r.map PyData.bool)).map (n :: ·) = _
    rw [boolsD_map r]; rfl
def allC : List PyData → Option PyData
  | [.list ds] => (boolsD ds).map fun bs => .bool (bs.all id)
  | _ => none
theorem cd_all : CallD K (rAll K) allC := fun F H xs ds d Q s ar e k => by
  unfold allC at e
  split at e
  · obtain ⟨bs, e1, e2⟩ := Option.map_eq_some_iff.mp e
    subst e2
    obtain ⟨x, r, rfl, hx, hr⟩ := ar
    rw [show r = [] from hr]
    obtain ⟨p, ys, rfl, q, ar⟩ := hx
    have := boolsD_some e1
    subst this
    have := Are.bools.mp ar
    subst this
    exact ⟨p, bs, rfl, SqL.of (s _ _ q), k _ H F (Grow.refl s) rfl⟩
  · cases e
def tupC : List PyData → Option PyData
  | [.list ds] => some (.tuple ds)
  | [.tuple ds] => some (.tuple ds)
  | _ => none
theorem cd_tup : CallD K (rTupleOf K) tupC := fun F H xs ds d Q s ar e k => by
  unfold tupC at e
  split at e
  · cases e
    obtain ⟨x, r, rfl, hx, hr⟩ := ar
    rw [show r = [] from hr]
    obtain ⟨p, ys, rfl, q, ar⟩ := hx
    exact ⟨p, ys, rfl, .inl ⟨SqL.of (s _ _ q), fun t ht => k _ _ _ (Grow.new s ht) ⟨t, _, rfl, upd_same, ar.same (same_new (s.free ht) _)⟩⟩⟩
  · cases e
    obtain ⟨x, r, rfl, hx, hr⟩ := ar
    rw [show r = [] from hr]
    obtain ⟨p, ys, rfl, q, ar⟩ := hx
    exact ⟨p, ys, rfl, .inr ⟨SqT.of (s _ _ q), k _ H F (Grow.refl s) ⟨p, ys, rfl, q, ar⟩⟩⟩
  · cases e
/-- list(e): a new list -/
def dListO (fs : DSt → Option (List PyData)) (δ : DSt) : Option (List PyData) := (fs δ).bind fun ds => match ds with
  | [d] => seqD d
  | _ => none
theorem so_listOf {t : TA} {fs : DSt → Option (List PyData)} (a : SA K t fs) : SO K (tCB (rListOf K) t) (dListO fs) := fun H0 F0 F σ H δ es Q R e h => by
  obtain ⟨ds, e1, e2⟩ := bind_some e
  refine a H0 F0 F σ H δ ds _ R e1 fun vs H1 F1 g1 ar => ?_
  split at e2
  · rename_i d
    obtain ⟨x, r, rfl, hx, hr⟩ := ar
    rw [show r = [] from hr]
    cases d with
    | list us =>
      cases e2
      obtain ⟨p, ys, rfl, q, ar⟩ := hx
      exact ⟨p, ys, rfl, .inl (SqL.of (g1.s _ _ q)), fun l hl => h l ys _ F1 (g1.trans (Grow.fresh g1.s hl)) (g1.h.free hl) (g1.s.free hl) upd_same ar⟩
    | tuple us =>
      cases e2
      obtain ⟨p, ys, rfl, q, ar⟩ := hx
      exact ⟨p, ys, rfl, .inr (SqT.of (g1.s _ _ q)), fun l hl => h l ys _ F1 (g1.trans (Grow.fresh g1.s hl)) (g1.h.free hl) (g1.s.free hl) upd_same ar⟩
    | _ => cases e2
  · cases e2
def dInO (neg : Bool) (i : Nat) (f : DSt → Option PyData) (δ : DSt) : Option PyData := match δ[i]? with
  | some (some (.ow ds)) => (f δ).bind fun d => match d with
    | .int n => (intsD ds).bind fun ns => some (.bool (if neg = true then !decide (n ∈ ns) else decide (n ∈ ns)))
    | _ => none
  | _ => none
theorem se_inO {te : TE} {f : DSt → Option PyData} (neg : Bool) (i : Nat) (a : SE K te f) : SE K (tOp (rIn K neg) te (tVar i)) (dInO neg i f) := fun H0 F0 F σ H δ d Q R e h => by
  unfold dInO at e
  split at e
  · rename_i ds q
    obtain ⟨dx, e1, e2⟩ := bind_some e
    split at e2
    · rename_i n
      obtain ⟨ns, e3, e4⟩ := bind_some e2
      cases e4
      obtain ⟨p, xs, q1, q2, q3, q4, q5⟩ := R.ow i ds q
      have ed := intsD_some e3
      subst ed
      have ex := Are.ints.mp q5
      subst ex
      refine a H0 F0 F σ H δ _ _ R e1 fun v H1 F1 g1 i1 => ⟨.ref p, q1, p, _, rfl, .inl (SqL.of (g1.h _ _ q2)), ?_, flat_ints _, ?_⟩
      · rw [show v = .int n from i1]; rfl
      · rw [show v = .int n from i1, inV_int]
        exact h _ H1 F1 g1 (by cases neg <;> rfl)
    · cases e2
  · cases e
end
end DL

namespace DL
open PySem PySem.Spec PyProof.Rows L2
section
variable {X : Cx}
end
section
variable {K : PySem.W.Frag}
theorem canLays {ds : List PyData} (h : ∀ d ∈ ds, d.canLay0 = true) : PyData.canLayAll0 ds = true := by
  induction ds with
  | nil => simp [PyData.canLayAll0]
  | cons d r ih => simp [PyData.canLayAll0, h d List.mem_cons_self, ih fun x hx => h x (List.mem_cons_of_mem _ hx)]
def dAsg (f : DSt → Option PyData) (fg : PyData → DSt → Option DSt) (δ : DSt) : Option DFlow := (f δ).bind fun d => (fg d δ).map .nx
end
theorem law_spec {K : PySem.W.Frag} {f : List PyData → Option PyData} {H : Hp} {a : Addr} {ns : List Int} (h : f [scr ns] = some (.bool true)) (q : SqL K H a (ns.map V.int)) : spD K 1 f [.ref a] H (fun v _ => v = .bl true) fun _ _ _ => False :=
  ⟨H, [scr ns], .bool true, Same.refl _, rfl, ⟨.ref a, [], rfl, ⟨a, rfl, .inl ⟨ns, rfl, q⟩⟩, rfl⟩, h, fun v H' F' _ i => i⟩
end DL

namespace DL
open PySem L2
theorem loopD_of {fg : PyData → DSt → Option DSt} {fb : DSt → Option DFlow} : ∀ {ds : List PyData} (P : Nat → DSt → Prop) {δ : DSt}, P 0 δ →
    (∀ (i : Nat) (hi : i < ds.length) (δ : DSt), P i δ → ∃ δ1 δ2, fg ds[i] δ = some δ1 ∧ fb δ1 = some (.nx δ2) ∧ P (i + 1) δ2) → ∃ δ', loopD fg fb ds δ = some (.nx δ') ∧ P ds.length δ'
  | [], P, δ, h0, _ => ⟨δ, rfl, h0⟩
  | d :: r, P, δ, h0, h => by
    obtain ⟨δ1, δ2, e1, e2, h1⟩ := h 0 (by simp) δ h0
    obtain ⟨δ', e3, h3⟩ := loopD_of (ds := r) (fun i => P (i + 1)) h1 fun i hi δ hp => by
      have := h (i + 1) (by simpa using hi) δ hp
      simpa using this
    refine ⟨δ', ?_, h3⟩
    have e1' : fg d δ = some δ1 := e1
    show ((fg d δ).bind fun δ1 => (fb δ1).bind fun fl => match fl with
      | .nx δ2 => loopD fg fb r δ2
      | .ct δ2 => loopD fg fb r δ2
      | .bk δ2 => some (.nx δ2)
      | .rt v => some (.rt v)
      | .ro v => some (.ro v)) = _
    rw [e1']
    show ((fb δ1).bind fun fl => match fl with
      | .nx δ2 => loopD fg fb r δ2
      | .ct δ2 => loopD fg fb r δ2
      | .bk δ2 => some (.nx δ2)
      | .rt v => some (.rt v)
      | .ro v => some (.ro v)) = _
    rw [e2]
    exact e3
theorem mapM'_map {f : PyData → Option (Option PyData)} {g : PyData → PyData} : ∀ {ds : List PyData}, (∀ d ∈ ds, f d = some (some (g d))) → mapM' f ds = some (ds.map g)
  | [], _ => rfl
  | d :: r, h => by
    show ((f d).bind fun o => match o with
      | some y => (mapM' f r).map (y :: ·)
      | none => mapM' f r) = _
    rw [h d List.mem_cons_self]
    show (mapM' f r).map (g d :: ·) = _
    rw [mapM'_map fun x hx => h x (List.mem_cons_of_mem _ hx)]
    rfl
theorem mapM'_filter {f : PyData → Option (Option PyData)} {p : PyData → Bool} {g : PyData → PyData} : ∀ {ds : List PyData}, (∀ d ∈ ds, f d = some (if p d = true then some (g d) else none)) → mapM' f ds = some ((ds.filter p).map g)
  | [], _ => rfl
  | d :: r, h => by
    have ih := mapM'_filter (ds := r) (f := f) (p := p) (g := g) fun x hx => h x (List.mem_cons_of_mem _ hx)
    show ((f d).bind fun o => match o with
      | some y => (mapM' f r).map (y :: ·)
      | none => mapM' f r) = _
    rw [h d List.mem_cons_self]
    cases e : p d with
    | true =>
      show (mapM' f r).map (g d :: ·) = _
      rw [ih, List.filter_cons, e]
      rfl
    | false =>
      show mapM' f r = _
      rw [ih, List.filter_cons, e]
      rfl
theorem dCompO_map {n : Nat} {fr : List (Str × Nat)} {fi : DSt → Option (List PyData)} {fg : PyData → DSt → Option DSt} {fc : DSt → Option Bool} {fe : DSt → Option PyData} {δ : DSt} {ds : List PyData} (g : PyData → PyData) (h1 : fi δ = some ds) (hl : ds.length ≤ LIM)
    (h : ∀ d ∈ ds, ((fg d (st0D n fr δ)).bind fun δ1 => (fc δ1).bind fun b => if b = true then (fe δ1).map some else some none) = some (some (g d))) : dCompO n fr fi fg fc fe δ = some (ds.map g) := by
  unfold dCompO
  rw [h1]
  show (if ds.length ≤ LIM then _ else none) = _
  rw [if_pos hl]
  exact mapM'_map h
theorem dCompO_filter {n : Nat} {fr : List (Str × Nat)} {fi : DSt → Option (List PyData)} {fg : PyData → DSt → Option DSt} {fc : DSt → Option Bool} {fe : DSt → Option PyData} {δ : DSt} {ds : List PyData} (p : PyData → Bool) (g : PyData → PyData) (h1 : fi δ = some ds) (hl : ds.length ≤ LIM)
    (h : ∀ d ∈ ds, ((fg d (st0D n fr δ)).bind fun δ1 => (fc δ1).bind fun b => if b = true then (fe δ1).map some else some none) = some (if p d = true then some (g d) else none)) : dCompO n fr fi fg fc fe δ = some ((ds.filter p).map g) := by
  unfold dCompO
  rw [h1]
  show (if ds.length ≤ LIM then _ else none) = _
  rw [if_pos hl]
  exact mapM'_filter h
def tupI (c : List Int) : PyData := .tuple (c.map PyData.int)
mutual
def nb : PyData → Bool
  | .none => true
  | .bool _ => false
  | .int _ => true
  | .str _ => true
  | .list ds => nbs ds
  | .tuple ds => nbs ds
  | .dict _ => false
def nbs : List PyData → Bool
  | [] => true
  | d :: r => nb d && nbs r
end
mutual
theorem eqv_iff : ∀ (a b : PyData), nb a = true → nb b = true → (PyData.eqv a b = true ↔ a = b)
  | .none, b, _, hb => by cases b <;> simp [PyData.eqv, nb] at hb ⊢
  | .bool _, _, ha, _ => by simp [nb] at ha
  | .int i, b, _, hb => by cases b <;> simp [PyData.eqv, nb] at hb ⊢
  | .str i, b, _, hb => by cases b <;> simp [PyData.eqv, nb] at hb ⊢
  | .list xs, b, ha, hb => by
    cases b with
    | list ys =>
      have := eqvs_iff xs ys (by simpa [nb] using ha) (by simpa [nb] using hb)
      simp [PyData.eqv, this]
    | _ => simp [PyData.eqv, nb] at hb ⊢
  | .tuple xs, b, ha, hb => by
    cases b with
    | tuple ys =>
      have := eqvs_iff xs ys (by simpa [nb] using ha) (by simpa [nb] using hb)
      simp [PyData.eqv, this]
    | _ => simp [PyData.eqv, nb] at hb ⊢
  | .dict _, _, ha, _ => by simp [nb] at ha
theorem eqvs_iff : ∀ (a b : List PyData), nbs a = true → nbs b = true → (PyData.eqvAll a b = true ↔ a = b)
  | [], [], _, _ => by simp [PyData.eqvAll]
  | [], _ :: _, _, _ => by simp [PyData.eqvAll]
  | _ :: _, [], _, _ => by simp [PyData.eqvAll]
  | x :: xs, y :: ys, ha, hb => by
    simp only [nbs, Bool.and_eq_true] at ha hb
    have h1 := eqv_iff x y ha.1 hb.1
    have h2 := eqvs_iff xs ys ha.2 hb.2
    simp [PyData.eqvAll, h1, h2]
end
theorem nbs_all {ds : List PyData} : nbs ds = true ↔ ∀ d ∈ ds, nb d = true := by
  induction ds with
  | nil => simp [nbs]
  | cons d r ih => simp [nbs, ih]
theorem nb_list {ds : List PyData} (h : ∀ d ∈ ds, nb d = true) : nb (.list ds) = true := by simpa [nb] using nbs_all.mpr h
theorem nb_tup {ds : List PyData} (h : ∀ d ∈ ds, nb d = true) : nb (.tuple ds) = true := by simpa [nb] using nbs_all.mpr h
theorem nb_tupI (c : List Int) : nb (tupI c) = true := nb_tup fun d hd => by
  obtain ⟨n, _, rfl⟩ := List.mem_map.mp hd
  rfl
/-- depth at most n, and it may be compared -/
def okN (n : Nat) (d : PyData) : Prop := d.canLay0 = true ∧ d.depth ≤ n
theorem okN.ok {n : Nat} {d : PyData} (h : okN n d) (hn : n ≤ 60 := by decide) : okD d = true := by
  unfold okD
  rw [Bool.and_eq_true, decide_eq_true_eq]
  exact ⟨h.1, Nat.le_trans h.2 hn⟩
theorem okN.mono {n m : Nat} {d : PyData} (h : okN n d) (hn : n ≤ m) : okN m d := ⟨h.1, Nat.le_trans h.2 hn⟩
theorem okN_int (i : Int) : okN 0 (.int i) := ⟨by simp [PyData.canLay0], by simp [PyData.depth]⟩
theorem depths {ds : List PyData} {n : Nat} (h : ∀ d ∈ ds, d.depth ≤ n) : PyData.depthAll ds ≤ n := by
  induction ds with
  | nil => simp [PyData.depthAll]
  | cons d r ih =>
    have h1 := h d List.mem_cons_self
    have h2 := ih fun x hx => h x (List.mem_cons_of_mem _ hx)
    simp only [PyData.depthAll]
    omega
theorem okN_list {ds : List PyData} {n : Nat} (h : ∀ d ∈ ds, okN n d) : okN (n + 1) (.list ds) := by
  refine ⟨?_, ?_⟩
  · simp only [PyData.canLay0]; exact canLays fun d hd => (h d hd).1
  · simp only [PyData.depth]; have := depths fun d hd => (h d hd).2; omega
theorem okN_tup {ds : List PyData} {n : Nat} (h : ∀ d ∈ ds, okN n d) : okN (n + 1) (.tuple ds) := by
  refine ⟨?_, ?_⟩
  · simp only [PyData.canLay0]; exact canLays fun d hd => (h d hd).1
  · simp only [PyData.depth]; have := depths fun d hd => (h d hd).2; omega
theorem okN_tupI (c : List Int) : okN 1 (tupI c) := okN_tup fun d hd => by
  obtain ⟨n, _, rfl⟩ := List.mem_map.mp hd
  exact okN_int n
theorem tupI_inj {a b : List Int} (h : tupI a = tupI b) : a = b := by
  unfold tupI at h
  injection h with h
  have := congrArg intsD h
  rw [intsD_map, intsD_map] at this
  exact Option.some.inj this
theorem eqv_tupI (a b : List Int) : PyData.eqv (tupI a) (tupI b) = decide (a = b) := by
  rw [Bool.eq_iff_iff, eqv_iff _ _ (nb_tupI a) (nb_tupI b), decide_eq_true_eq]
  exact ⟨tupI_inj, fun h => by rw [h]⟩
theorem eqv_int (i j : Int) : PyData.eqv (.int i) (.int j) = decide (i = j) := by
  rw [PyData.eqv]
  rfl
theorem eqD_of {a b : PyData} (ha : okD a = true) (hb : okD b = true) : eqD a b = some (.bool (PyData.eqv a b)) := by
  unfold eqD; rw [ha, hb]; rfl
theorem neD_of {a b : PyData} (ha : okD a = true) (hb : okD b = true) : neD a b = some (.bool (!PyData.eqv a b)) := by
  unfold neD; rw [ha, hb]; rfl
theorem eqD_int (i j : Int) : eqD (.int i) (.int j) = some (.bool (decide (i = j))) := by rw [eqD_of (okN_int i).ok (okN_int j).ok, eqv_int]
theorem neD_int (i j : Int) : neD (.int i) (.int j) = some (.bool (!decide (i = j))) := by rw [neD_of (okN_int i).ok (okN_int j).ok, eqv_int]
theorem eqD_tupI (a b : List Int) : eqD (tupI a) (tupI b) = some (.bool (decide (a = b))) := by rw [eqD_of (okN_tupI a).ok (okN_tupI b).ok, eqv_tupI]
theorem neD_tupI (a b : List Int) : neD (tupI a) (tupI b) = some (.bool (!decide (a = b))) := by rw [neD_of (okN_tupI a).ok (okN_tupI b).ok, eqv_tupI]
theorem isi_ii (i : Int) : isiN (.int i) "int" = true := by simp [isiN, tyD]
theorem isi_ib (i : Int) : isiN (.int i) "bool" = false := by simp [isiN, tyD]
theorem isi_tt (ds : List PyData) : isiN (.tuple ds) "tuple" = true := by simp [isiN, tyD]
theorem isi_tl (ds : List PyData) : isiN (.tuple ds) "list" = false := by simp [isiN, tyD]
theorem isi_ll (ds : List PyData) : isiN (.list ds) "list" = true := by simp [isiN, tyD]
theorem isi_lt (ds : List PyData) : isiN (.list ds) "tuple" = false := by simp [isiN, tyD]
theorem isi_nt : isiN .none "tuple" = false := by decide
theorem add_ii (i j : Int) : addD (.int i) (.int j) = some (.int (i + j)) := rfl
theorem sub_ii (i j : Int) : subD (.int i) (.int j) = some (.int (i - j)) := rfl
theorem lt_ii (i j : Int) : ltD (.int i) (.int j) = some (.bool (decide (i < j))) := rfl
theorem le_ii (i j : Int) : leD (.int i) (.int j) = some (.bool (decide (i ≤ j))) := rfl
theorem gt_ii (i j : Int) : gtD (.int i) (.int j) = some (.bool (decide (j < i))) := rfl
theorem ge_ii (i j : Int) : geD (.int i) (.int j) = some (.bool (decide (j ≤ i))) := rfl
theorem iadd_ii (i j : Int) : iaddD (.int i) (.int j) = some (.int (i + j)) := rfl
theorem mul_ii (i j : Int) : mulI (.int i) (.int j) = if cMul i j = true then some (.int (i * j)) else none := rfl
theorem mod_ii (i j : Int) : modD (.int i) (.int j) = if cMod i j = true then some (.int (i % j)) else none := rfl
theorem fdiv_ii (i j : Int) : fdivD (.int i) (.int j) = if cDiv i j = true then some (.int (i / j)) else none := rfl
theorem len_t (ds : List PyData) : lenD (.tuple ds) = some ds.length := rfl
theorem len_l (ds : List PyData) : lenD (.list ds) = some ds.length := rfl
theorem scrD_scr (ns : List Int) : scrD (scr ns) = some ns := intsD_map ns
theorem lenD_scr (ns : List Int) : lenD (scr ns) = some ns.length := by
  show (scrD (scr ns)).map List.length = _
  rw [scrD_scr]; rfl
theorem ixD_scr (ns : List Int) (i : Int) : ixD (scr ns) (.int i) = (atI ns i).map PyData.int := by
  show ((scrD (scr ns)).bind fun ns => (atI ns i).map PyData.int) = _
  rw [scrD_scr]; rfl
theorem atI_nat' {α : Type} {xs : List α} {j : Nat} (h : j < xs.length) : atI xs (j : Int) = some xs[j] := atI_nat (List.getElem?_eq_getElem h)
end DL

namespace DL
open PySem PySem.Spec PyProof.Rows L2
def lits (f : Expr → Option PyData) : List Expr → Option (List PyData)
  | [] => some []
  | e :: r => (f e).bind fun d => (lits f r).map (d :: ·)
def lit : Nat → Expr → Option PyData
  | 0, _ => none
  | n + 1, e => match e with
    | .Constant (.int i) _ _ => some (.int i)
    | .Constant (.bool b) _ _ => some (.bool b)
    | .Constant .none _ _ => some .none
    | .Constant (.str x) _ _ => some (.str x)
    | .Tuple es _ _ => (lits (lit n) es).map .tuple
    | .List es _ => (lits (lit n) es).map .list
    | _ => none
mutual
def tOf : PyData → TE
  | .none => tC .non
  | .bool b => tC (.bl b)
  | .int i => tC (.int i)
  | .str x => tC (.str x)
  | .tuple ds => tTup (tOfs ds)
  | .list ds => tLst (tOfs ds)
  | .dict _ => fun _ _ _ => False
def tOfs : List PyData → TA
  | [] => tNil
  | d :: r => tCons (tOf d) (tOfs r)
end
mutual
def litOk : PyData → Bool
  | .none => true
  | .bool _ => true
  | .int _ => true
  | .str _ => true
  | .tuple ds => decide (ds.length ≤ LIM) && litsOk ds
  | .list ds => decide (ds.length ≤ LIM) && litsOk ds
  | .dict _ => false
def litsOk : List PyData → Bool
  | [] => true
  | d :: r => litOk d && litsOk r
end
section
variable {X : Cx}
theorem star_lit {n : Nat} {e : Expr} {d : PyData} {es : List Expr} (h : lit n e = some d) : starEach (e :: es) X.env = (false, eval e X.env) :: starEach es X.env := by
  cases n with
  | zero => cases h
  | succ n => cases e <;> first | rfl | (simp [lit] at h)
theorem pa_litsF {f : Expr → Option PyData} (hf : ∀ e d, f e = some d → PE X e (tOf d) ∧ ∀ es, starEach (e :: es) X.env = (false, eval e X.env) :: starEach es X.env) : ∀ {es : List Expr} {ds : List PyData}, lits f es = some ds → PA X es (tOfs ds)
  | [], ds, h => by cases h; exact pa_nil
  | e :: r, ds, h => by
    obtain ⟨d, e1, e2⟩ := bind_some h
    obtain ⟨us, e3, e4⟩ := Option.map_eq_some_iff.mp e2
    subst e4
    exact pa_cons (hf e d e1).1 (pa_litsF hf e3) ((hf e d e1).2 r)
theorem pe_lit : ∀ (n : Nat) (e : Expr) (d : PyData), lit n e = some d → PE X e (tOf d)
  | 0, _, _, h => by cases h
  | n + 1, e, d, h => by
    unfold lit at h
    split at h
    · cases h; exact pe_int
    · cases h; exact pe_bl
    · cases h; exact pe_non
    · cases h; exact pe_str
    · obtain ⟨us, e3, e4⟩ := Option.map_eq_some_iff.mp h
      subst e4
      exact pe_tup (pa_litsF (fun e d q => ⟨pe_lit n e d q, fun es => star_lit q⟩) e3)
    · obtain ⟨us, e3, e4⟩ := Option.map_eq_some_iff.mp h
      subst e4
      exact pe_lst (pa_litsF (fun e d q => ⟨pe_lit n e d q, fun es => star_lit q⟩) e3)
    · cases h
@[irreducible] def tLits (ds : List PyData) : TA := tOfs ds
theorem pa_lits {es : List Expr} (ds : List PyData) (h : lits (lit 4) es = some ds) : PA X es (tLits ds) := by
  unfold tLits
  exact pa_litsF (fun e d q => ⟨pe_lit 4 e d q, fun es => star_lit q⟩) h
theorem ps_lits {i : Nat} {x : Str} {es : List Expr} {p1 p2 pos : Pos} (ds : List PyData) (hN : X.N.Nodup) (hi : X.N[i]? = some x) (hx : Loc X.env.scope x) (h : lits (lit 4) es = some ds) (hs : swapsWith (.List es p2) (some (.Name x p1)) pos.line X.env = pure false) (hf : X.fn x = true ∨ X.env.scope.names.lookup x = some .local) :
    PS X (.Assign [.Name x p1] (.List es p2) pos) (tAsg (tLst (tLits ds)) (gName i)) := ps_set hN hi hx (pe_lst (pa_lits ds h)) hs hf
theorem pss_lits {st : Stmt} {rest : List Stmt} {t u : TS} (h1 : PS X st t) (h2 : PSs X rest u) : PSs X (st :: rest) (tSeq t u) := pss_cons h1 h2
end
section
variable {K : PySem.W.Frag}
def dLits (ds : List PyData) (_ : DSt) : Option (List PyData) := some ds
mutual
theorem se_lit : ∀ (d : PyData), litOk d = true → SE K (tOf d) (dC d)
  | .none, _ => se_non
  | .bool _, _ => se_bl
  | .int _, _ => se_int
  | .str _, _ => se_str
  | .tuple ds, h => by
    simp only [litOk, Bool.and_eq_true, decide_eq_true_eq] at h
    have q := se_tup (sa_litsF ds h.2)
    intro H0 F0 F σ H δ d Q R e k
    refine q H0 F0 F σ H δ d Q R ?_ k
    cases e
    show ((some ds).bind fun ds => if ds.length ≤ LIM then some (PyData.tuple ds) else none) = _
    simp [h.1]
  | .list ds, h => by
    simp only [litOk, Bool.and_eq_true, decide_eq_true_eq] at h
    have q := se_own (so_lst (sa_litsF ds h.2))
    intro H0 F0 F σ H δ d Q R e k
    refine q H0 F0 F σ H δ d Q R ?_ k
    cases e
    show (((some ds).bind fun ds => if ds.length ≤ LIM then some ds else none).map PyData.list) = _
    simp [h.1]
  | .dict _, h => by simp [litOk] at h
theorem sa_litsF : ∀ (ds : List PyData), litsOk ds = true → SA K (tOfs ds) (dLits ds)
  | [], _ => sa_nil
  | d :: r, h => by
    simp only [litsOk, Bool.and_eq_true] at h
    have q := sa_cons (se_lit d h.1) (sa_litsF r h.2)
    intro H0 F0 F σ H δ ds Q R e k
    refine q H0 F0 F σ H δ ds Q R ?_ k
    cases e
    rfl
end
theorem sa_lits (ds : List PyData) (h : litsOk ds = true) : SA K (tLits ds) (dLits ds) := by
  unfold tLits
  exact sa_litsF ds h
end
end DL

namespace DL
open PySem PySem.Spec PyProof.Rows L2
section
variable {X : Cx}
end
section
variable {K : PySem.W.Frag}
def dListRng (f : DSt → Option PyData) (δ : DSt) : Option (List PyData) := (f δ).bind fun d => match d with
  | .int j => if (decide (0 ≤ j) && decide (j ≤ 100000)) = true then some (rangeD 0 j.toNat) else none
  | _ => none
end
section
variable {X : Cx}
end
section
variable {K : PySem.W.Frag}
def slD' (i : Nat) (δ : DSt) : Option PyData := match δ[i]? with
  | some (some (.fz d)) => some d
  | some (some (.ow ds)) => some (.list ds)
  | _ => none
def dTruE (i : Nat) (δ : DSt) : Option Bool := (slD' i δ).bind truD
def dLenE (i : Nat) (δ : DSt) : Option PyData := (slD' i δ).bind fun d => lenC [d]
def dIxE (i : Nat) (f : DSt → Option PyData) (δ : DSt) : Option PyData := (slD' i δ).bind fun a => (f δ).bind fun b => ixD a b
end
end DL

namespace DL
open PySem L2 PyProof.Rows
section
variable {K : PySem.W.Frag}
/-- a def that raises an exception of the class at C where g says so -/
def spX (K : PySem.W.Frag) (n : Nat) (C : Addr) (g : List PyData → Bool) : Sp := fun vs H _ E => ∃ F ds, Same F H ∧ vs.length = n ∧ Are K F vs ds ∧ g ds = true ∧ ∀ ea F' H', Grow F H F' H' → E (.ref ea) (some C) H'
def SX (K : PySem.W.Frag) (E : XK) (C : Addr) (ts : TS) (fx : DSt → Bool) : Prop := ∀ (H0 F0 F : Hp) (σ : St) (H : Hp) (δ : DSt) (D : Ends), Rep K H0 F0 F σ H δ → fx δ = true → (∀ ea F' H', Grow F0 H0 F' H' → E (.ref ea) (some C) H') → ts D σ H
def SXE (K : PySem.W.Frag) (E : XK) (C : Addr) (te : TE) (fx : DSt → Bool) : Prop := ∀ (H0 F0 F : Hp) (σ : St) (H : Hp) (δ : DSt) (Q : VK), Rep K H0 F0 F σ H δ → fx δ = true → (∀ ea F' H', Grow F H F' H' → E (.ref ea) (some C) H') → te σ H Q
variable {E : XK} {C : Addr}
def xRaise (fs : DSt → Option (List PyData)) (δ : DSt) : Bool := match fs δ with
  | some ds => decide (ds.length ≤ 1000)
  | none => false
theorem are_len {F : Hp} : ∀ {xs : List V} {ds : List PyData}, Are K F xs ds → xs.length = ds.length
  | _, [], h => by cases h; rfl
  | _, d :: ds, h => by
    obtain ⟨x, r, rfl, _, h⟩ := h
    rw [List.length_cons, List.length_cons, are_len h]
theorem sx_raise {ta : TA} {fs : DSt → Option (List PyData)} (a : SA K ta fs) : SX K E C (tRaise C E ta) (xRaise fs) := fun H0 F0 F σ H δ D R e k => by
  unfold xRaise at e
  split at e
  · rename_i ds q
    exact a H0 F0 F σ H δ ds _ R q fun vs H' F' g ar => ⟨by rw [are_len ar]; exact small (of_decide_eq_true e), fun ea => k ea F' H' (R.g.trans g)⟩
  · cases e
theorem sx_seq1 {t u : TS} {fx : DSt → Bool} (b : SX K E C t fx) : SX K E C (tSeq t u) fx := fun H0 F0 F σ H δ D R e k => b H0 F0 F σ H δ _ R e k
def xCall (n : Nat) (g : List PyData → Bool) (fs : DSt → Option (List PyData)) (δ : DSt) : Bool := match fs δ with
  | some ds => decide (ds.length = n) && g ds
  | none => false
theorem sxe_call {n : Nat} {g : List PyData → Bool} {t : TA} {fs : DSt → Option (List PyData)} (a : SA K t fs) : SXE K E C (tCall (spX K n C g) [] E t) (xCall n g fs) := fun H0 F0 F σ H δ Q R e k => by
  unfold xCall at e
  split at e
  · rename_i ds q
    obtain ⟨e1, e2⟩ := Bool.and_eq_true_iff.mp e
    refine a H0 F0 F σ H δ ds _ R q fun vs H' F' g' ar => ?_
    show spX K n C g (vs ++ []) H' Q E
    rw [List.append_nil]
    exact ⟨F', ds, g'.s, by rw [are_len ar]; exact of_decide_eq_true e1, ar, e2, fun ea F2 H2 g2 => k ea F2 H2 (g'.trans g2)⟩
  · cases e
theorem sx_asg {te : TE} {g : TG} {fx : DSt → Bool} (a : SXE K E C te fx) : SX K E C (tAsg te g) fx := fun H0 F0 F σ H δ D R e k => a H0 F0 F σ H δ _ R e fun ea F' H' g' => k ea F' H' (R.g.trans g')
theorem sx_ret {te : TE} {fx : DSt → Bool} (a : SXE K E C te fx) : SX K E C (tRet te) fx := fun H0 F0 F σ H δ D R e k => a H0 F0 F σ H δ _ R e fun ea F' H' g' => k ea F' H' (R.g.trans g')
end
section
variable {P : Program} {w : World} {K : PySem.W.Frag} {mg : Str → Option Value} {base : Heap}
def runX (n : Nat) (fx : DSt → Bool) (ds : List PyData) : Bool := fx (stD n ds)
theorem fun_okX {x qual : Str} {st : Stmt} {f : Addr} {fd : FuncData} {N ps : List Str} {k n m : Nat} {C : Addr} {fx : DSt → Bool} (F : Fun K x qual st f fd) (S : FnScope N ps (defScope st)) (hN : N.length = n) (hm : ps.length = m)
    (hbody : ∀ (cdv : Value) (A : Around) (outer : List Env) (s : Shared) (H : Hp) (E : XK), Room k (A.deeper (envOfC qual (defScope st) s.heap.objs.size f cdv)) →
      ∃ t, PSs (cxOf (CXF P w) P w K mg base N qual (defScope st) f cdv A outer s H E) (defBody st) t ∧ SX K E C t fx) : FnOk P w K mg base (CXF P w) (k + 1) f fd ps (spX K m C (runX n fx)) := by
  subst hN hm
  obtain ⟨oc, od, kV, doc, pm, an, cdv, ct, osl, rfl, lk, hcd⟩ := F.ex
  refine fn_of lk hcd S (fun vs H Q E h => ?_) (fun A outer s H vs Q E hr h => ?_)
  · obtain ⟨F', ds, _, hl, _⟩ := h
    exact hl
  · obtain ⟨F', ds, sF, hl, ar, e, q⟩ := h
    obtain ⟨t, ht, hs⟩ := hbody cdv A outer s H E hr
    exact ⟨t, ht, hs H F' F' (L2.start N vs) H (stD N.length ds) _ (repStart sF ar) e q⟩
end
section
variable {K : PySem.W.Frag}
/-- ahead of the raising statement one that goes on -/
def xSeq (f : DSt → Option DFlow) (fx : DSt → Bool) (δ : DSt) : Bool := match f δ with
  | some (.nx δ') => fx δ'
  | _ => false
theorem sx_seq2 {E : XK} {C : Addr} {t u : TS} {f : DSt → Option DFlow} {fx : DSt → Bool} (a : SS K t f) (b : SX K E C u fx) : SX K E C (tSeq t u) (xSeq f fx) := fun H0 F0 F σ H δ D R e k => by
  unfold xSeq at e
  split at e
  · rename_i δ' q
    exact a H0 F0 F σ H δ (.nx δ') _ R q fun F' σ' H' R' _ => b H0 F0 F' σ' H' δ' D R' e k
  · cases e
theorem sx_drop {E : XK} {C : Addr} {te : TE} {fx : DSt → Bool} (a : SXE K E C te fx) : SX K E C (tDrop te) fx := fun H0 F0 F σ H δ D R e k => a H0 F0 F σ H δ _ R e fun ea F' H' g' => k ea F' H' (R.g.trans g')
/-- an argument raises -/
def SXA (K : PySem.W.Frag) (E : XK) (C : Addr) (ta : TA) (fx : DSt → Bool) : Prop := ∀ (H0 F0 F : Hp) (σ : St) (H : Hp) (δ : DSt) (Q : List V → Hp → Prop), Rep K H0 F0 F σ H δ → fx δ = true → (∀ ea F' H', Grow F H F' H' → E (.ref ea) (some C) H') → ta σ H Q
theorem sxa_here {E : XK} {C : Addr} {te : TE} {tr : TA} {fx : DSt → Bool} (a : SXE K E C te fx) : SXA K E C (tCons te tr) fx := fun H0 F0 F σ H δ Q R e k => a H0 F0 F σ H δ _ R e k
def xNext (f : DSt → Option PyData) (fx : DSt → Bool) (δ : DSt) : Bool := (f δ).isSome && fx δ
theorem sxa_next {E : XK} {C : Addr} {te : TE} {tr : TA} {f : DSt → Option PyData} {fx : DSt → Bool} (a : SE K te f) (b : SXA K E C tr fx) : SXA K E C (tCons te tr) (xNext f fx) := fun H0 F0 F σ H δ Q R e k => by
  obtain ⟨e1, e2⟩ := Bool.and_eq_true_iff.mp e
  obtain ⟨d, e1⟩ := Option.isSome_iff_exists.mp e1
  exact a H0 F0 F σ H δ d _ R e1 fun v H' F' g _ => b H0 F0 F' σ H' δ _ (R.grow g) e2 fun ea F2 H2 g2 => k ea F2 H2 (g.trans g2)
theorem sxe_arg {E E' : XK} {C : Addr} {sp : Sp} {dvs : List V} {ta : TA} {fx : DSt → Bool} (a : SXA K E C ta fx) : SXE K E C (tCall sp dvs E' ta) fx := fun H0 F0 F σ H δ Q R e k => a H0 F0 F σ H δ _ R e k
end
structure OwnX (P : Program) (w : World) (K : PySem.W.Frag) (mg : Str → Option Value) (base : Heap) (k : Nat) (x : Str) (ps : List Str) (sp : Sp) : Prop where
  ex : ∃ (f : Addr) (fd : FuncData), FnOk P w K mg base (CXF P w) k f fd ps sp ∧ mg x = some (.ref f) ∧ PySem.W.keepIn K (.ref f) = true ∧ Binds K fd ps []
section
variable {X : Cx}
theorem pe_ownX {k n : Nat} {x : Str} {ps : List Str} {sp : Sp} {p pos : Pos} {e : Expr} {es : List Expr} {t : TA} {E : XK} (O : OwnX X.prog X.w X.K X.mg X.base k x ps sp) (hr : Room n X.A) (hx : Passes (CXF X.prog X.w) X E) (ha : PA X (e :: es) t) (hkn : k ≤ n := by decide) (hg : Gl X x := by rfl)
    (hdb : (x == ("__debug__" : Str)) = false := by decide) (he : starEach (e :: es) X.env = (false, eval e X.env) :: starEach es X.env := by rfl) (hpl : (backTo pos (starEach es X.env)).any (·.1) = false := by rfl) :
    PE X (.Call (.Name x p) (e :: es) [] pos) (tCall sp [] E t) := by
  obtain ⟨f, fd, F, m, kp, b⟩ := O.ex
  exact pe_call F (hr.mono hkn) hg m kp b .nil hx ha hdb he hpl
end
end DL

namespace DL
open PySem PySem.Spec PyProof.Rows L2
/-- a def of the text as data: by its name -/
def fnD (nm : Str) : PyData := .dict [(.bool true, .str nm)]
structure OwnN (P : Program) (w : World) (K : PySem.W.Frag) (mg : Str → Option Value) (base : Heap) (k : Nat) (x : Str) (ps : List Str) (sp : Sp) : Prop where
  ex : ∃ (f : Addr) (fd : FuncData), FnOk P w K mg base CX0 k f fd ps sp ∧ PySem.W.nsIn K mainGlobals x = some (some (.ref f)) ∧ PySem.W.keepIn K (.ref f) = true ∧ Binds K fd ps []
def tCallV (K : PySem.W.Frag) (i : Nat) (nm : Str) (sp : Sp) (t : TA) : TE := fun σ H Q => ∃ f, σ[i]? = some (some (.ref f)) ∧ PySem.W.nsIn K mainGlobals nm = some (some (.ref f)) ∧ t σ H fun vs H1 => sp (vs ++ []) H1 Q E0
theorem pe_ownV {X : Cx} {k n i : Nat} {x nm : Str} {ps : List Str} {sp : Sp} {p pos : Pos} {e : Expr} {es : List Expr} {t : TA} (O : OwnN X.prog X.w X.K X.mg X.base k nm ps sp) (hr : Room n X.A) (hv : PE X (.Name x p) (tVar i)) (ha : PA X (e :: es) t) (hkn : k ≤ n := by decide)
    (he : starEach (e :: es) X.env = (false, eval e X.env) :: starEach es X.env := by rfl) (hpl : (backTo pos (starEach es X.env)).any (·.1) = false := by rfl) :
    PE X (.Call (.Name x p) (e :: es) [] pos) (tCallV X.K i nm sp t) := by
  intro pins s σ H Q I h
  obtain ⟨f, hs, hn, h⟩ := h
  obtain ⟨f', fd, F, m, kp, b⟩ := O.ex
  rw [hn] at m
  cases m
  refine wpAny_Call_Name_kw (thn (hv pins s σ H (fun v H1 => v = .ref f ∧ H1 = H) I ⟨_, hs, rfl, rfl⟩) fun u s1 ⟨v, H1, I1, r, q⟩ => ?_)
  obtain ⟨rfl, rfl⟩ := q
  obtain rfl : u = .ref f := r
  refine PySem.W.callWith_K (h₀ := X.base) I1.ok.mod.kin kp (thn (ha pos pins s1 σ _ _ I1 h) fun us s2 ⟨vs, H2, I2, r2, q2⟩ => ⟨I2.kIn, ?_⟩) he hpl
  exact run_fn F (hr.mono hkn) b .nil pass0 I2 r2 q2
theorem pe_either {X : Cx} {e : Expr} {t u : TE} (a : PE X e t) (b : PE X e u) : PE X e (fun σ H Q => t σ H Q ∨ u σ H Q) := fun pins s σ H Q I h => h.elim (a pins s σ H Q I) (b pins s σ H Q I)
section
variable {K : PySem.W.Frag}
theorem se_fn {a : Addr} {nm : Str} (h : PySem.W.nsIn K mainGlobals nm = some (some (.ref a))) : SE K (tC (.ref a)) (dC (fnD nm)) := by
  intro H0 F0 F σ H δ d Q R e k
  cases e
  exact k (.ref a) H F (Grow.refl R.g.s) ⟨a, rfl, .inr (.inr (.inl ⟨nm, rfl, h⟩))⟩
def isFn (nm : Str) : PyData → Bool
  | .dict [(.bool true, .str x)] => x == nm
  | _ => false
theorem isFn_self (nm : Str) : isFn nm (fnD nm) = true := by
  show (nm == nm) = true
  simp
def dCallV (i : Nat) (nm : Str) (n : Nat) (g : List PyData → Option PyData) (fs : DSt → Option (List PyData)) (δ : DSt) : Option PyData := (dVar i δ).bind fun d => if isFn nm d = true then dOwnCall n g fs δ else none
theorem se_callV {i n : Nat} {nm : Str} {g : List PyData → Option PyData} {t : TA} {fs : DSt → Option (List PyData)} (a : SA K t fs) : SE K (tCallV K i nm (spD K n g) t) (dCallV i nm n g fs) := by
  intro H0 F0 F σ H δ d Q R e h
  obtain ⟨d0, e1, e2⟩ := bind_some e
  split at e2
  · rename_i hd
    have hf : d0 = fnD nm := by
      unfold isFn at hd
      split at hd
      · rw [show _ = nm from eq_of_beq hd]; rfl
      · cases hd
    subst hf
    unfold dVar at e1
    split at e1
    · rename_i d1 e0
      cases e1
      obtain ⟨v, hv, a0, rfl, hh⟩ := R.fz i _ e0
      rcases hh with ⟨ns, z, _⟩ | ⟨m, z, kv⟩ | ⟨nm', z, hn⟩ | ⟨m, z, kv⟩
      · cases z
      · obtain ⟨q, m', _, q2, _⟩ := kv
        cases q2.1
      · cases z
        exact ⟨a0, hv, hn, se_call (K := K) a H0 F0 F σ H δ d Q R e2 h⟩
      · cases kv.1
    · cases e1
  · cases e2
def dEither (f g : DSt → Option PyData) (δ : DSt) : Option PyData := match f δ with
  | some d => some d
  | none => g δ
theorem se_either {t u : TE} {f g : DSt → Option PyData} (a : SE K t f) (b : SE K u g) : SE K (fun σ H Q => t σ H Q ∨ u σ H Q) (dEither f g) := by
  intro H0 F0 F σ H δ d Q R e h
  unfold dEither at e
  split at e
  · rename_i d' e'
    cases e
    exact .inl (a H0 F0 F σ H δ d Q R e' h)
  · exact .inr (b H0 F0 F σ H δ d Q R e h)
end
end DL

namespace SRT
open PySem PySem.W PyProof.Rows

def g (p : Array Nat) (i : Nat) : Nat := (p[i]?).getD 0
structure Ord (lt : Nat → Nat → Bool) (n : Nat) : Prop where
  tr : ∀ a b c, lt a b = true → lt b c = true → lt a c = true
  to : ∀ a b, a < n → b < n → a ≠ b → lt a b = false → lt b a = true
section
variable {lt : Nat → Nat → Bool} {n : Nat} (O : Ord lt n)
include O
end
end SRT

namespace L2
open PySem PySem.Spec PyProof.Rows PySem.W Att

section
variable {prog : Program} {w : World} {A : Around} {E : Value → Shared → Prop} {s : Shared} {b : Bool} {Q : Bool → Shared → Prop}
end
section
variable {prog : Program} {w : World} {A : Around} {E : Value → Shared → Prop} {s : Shared}
end
end L2

namespace L2
open PySem PySem.Spec PyProof.Rows PySem.W

def Raw (h : Heap) (d : Addr) (es : Array DictEntry) (ep : Nat) : Prop := ∃ ob, h.get? d = some ob ∧ ob.ExactDict ∧ ob.data = .dict es ep
theorem Raw.ty {s : Shared} {d : Addr} {es : Array DictEntry} {ep : Nat} (x : Raw s.heap d es ep) : s.TypeIs (.ref d) "dict" := let ⟨ob, e, c, _⟩ := x; ⟨ob, e, c.1⟩
theorem Raw.lt {h : Heap} {d : Addr} {es : Array DictEntry} {ep : Nat} (x : Raw h d es ep) : d < h.objs.size := let ⟨_, e, _⟩ := x; Heap.lt_size e
theorem Raw.stay {h h' : Heap} {d : Addr} {es : Array DictEntry} {ep : Nat} (x : Raw h d es ep) (k : ∀ o, h.get? d = some o → h'.get? d = some o) : Raw h' d es ep := let ⟨ob, e, r⟩ := x; ⟨ob, k _ e, r⟩
section
variable {prog : Program} {w : World} {A : Around} {E : Value → Shared → Prop} {s : Shared} {d it : Addr} {es : Array DictEntry} {ep : Nat}
end
end L2

namespace L2
open PySem PySem.Spec PyProof.Rows PySem.W Att

end L2

namespace DL
open PySem L2
end DL

namespace DL
open PySem L2
def keyD : PyData → Option (List Int)
  | .tuple ds => intsD ds
  | _ => none
section
variable {K : PySem.W.Frag}
/-- tuples that are there may be frozen -/
theorem Grow.tups {F H : Hp} (s : Same F H) (bs : List Addr) (hb : ∀ b ∈ bs, ∃ xs, H b = some (.tup xs)) : ∃ F', Grow F H F' H ∧ ∀ b ∈ bs, F' b = H b := by
  refine ⟨fun b => if b ∈ bs then H b else F b, ⟨fun b u e => ?_, fun b u e => ?_, Same.refl _, fun b u e t n => ?_⟩, fun b hb => if_pos hb⟩
  · show (if b ∈ bs then H b else F b) = some u
    split
    · exact s b u e
    · exact e
  · have e : (if b ∈ bs then H b else F b) = some u := e
    split at e
    · exact e
    · exact s b u e
  · show (if b ∈ bs then H b else F b) = none
    split
    · rename_i hm
      obtain ⟨xs, z⟩ := hb b hm
      rw [z] at e
      cases e
      exact absurd rfl (t xs)
    · exact n
end
end DL

namespace L2
open PySem PySem.Spec PyProof.Rows

section
variable {κ : Type} [DecidableEq κ]
def valV (kvs : List (κ × V)) (k : κ) : Option V := (kvs.find? fun kv => decide (kv.1 = k)).map (·.2)
/-- in its place, or at the end -/
def putK (kvs : List (κ × V)) (k : κ) (v : V) : List (κ × V) :=
  if (kvs.any fun kv => decide (kv.1 = k)) = true then kvs.map (fun kv => if kv.1 = k then (kv.1, v) else kv) else kvs ++ [(k, v)]
def dropK (kvs : List (κ × V)) (k : κ) : List (κ × V) := kvs.filter fun kv => decide (kv.1 ≠ k)

theorem RelO.getD {o : Option V} {u : Option Value} {d : V} {d' : Value} (r : RelO o u) (rd : RelV d d') : RelV (o.getD d) (u.getD d') := by
  cases o with
  | none => cases u with
    | none => exact rd
    | some _ => exact (show False from r).elim
  | some _ => cases u with
    | none => exact (show False from r).elim
    | some _ => exact r

theorem KV.any {kvs : List (κ × V)} {vs : List (κ × Value)} (r : KV kvs vs) (k : κ) : (kvs.any fun kv => decide (kv.1 = k)) = vs.any fun kv => decide (kv.1 = k) := by
  unfold KV at r
  induction r with
  | nil => rfl
  | cons h t ih => rw [List.any_cons, List.any_cons, ih, h.1]
theorem KV.drop {kvs : List (κ × V)} {vs : List (κ × Value)} (r : KV kvs vs) (k : κ) : KV (dropK kvs k) (without vs k) := by
  unfold KV at r ⊢
  unfold dropK without
  induction r with
  | nil => exact .nil
  | @cons p q ps qs h t ih =>
    obtain ⟨h1, h2⟩ := h
    rw [List.filter_cons, List.filter_cons]
    by_cases e : p.1 = k
    · have a : ¬ decide (p.1 ≠ k) = true := by simp [e]
      have b : ¬ decide (q.1 ≠ k) = true := by simp [h1.symm.trans e]
      rw [if_neg a, if_neg b]; exact ih
    · have e' : ¬ q.1 = k := fun z => e (h1.trans z)
      have a : decide (p.1 ≠ k) = true := by simp [e]
      have b : decide (q.1 ≠ k) = true := by simp [e']
      rw [if_pos a, if_pos b]; exact .cons ⟨h1, h2⟩ ih
theorem KV.keys {kvs : List (κ × V)} {vs : List (κ × Value)} (r : KV kvs vs) : kvs.map (·.1) = vs.map (·.1) := by
  unfold KV at r
  induction r with
  | nil => rfl
  | cons h t ih => rw [List.map_cons, List.map_cons, ih, h.1]
theorem KV.length {kvs : List (κ × V)} {vs : List (κ × Value)} (r : KV kvs vs) : kvs.length = vs.length := Paired.length r
end


/-- raw entries of a dict with tuple keys -/
abbrev KT (H : Hp) : List (List Key × V) → List (List Key × Addr × Value) → Prop := Paired fun p q => p.1 = q.1 ∧ H q.2.1 = some (.tup (p.1.map kV)) ∧ RelV p.2 q.2.2
theorem KT.keeps {H H' : Hp} {kvs : List (List Key × V)} {xs : List (List Key × Addr × Value)} (r : KT H kvs xs) (ht : ∀ b ys, H b = some (.tup ys) → H' b = some (.tup ys)) : KT H' kvs xs :=
  Paired.mapP r fun _ _ z => ⟨z.1, ht _ _ z.2.1, z.2.2⟩

section
variable {P : Program} {w : World} {H : Hp} {h : Heap} {a : Addr}
end

/-- what the dict at a holds at the key y -/
def DGet (H : Hp) (a : Addr) (y : V) (r : Option V) : Prop :=
  (∃ kvs k, Rd H a (.dK kvs) ∧ y = kV k ∧ r = valV kvs k) ∨ ∃ kvs k b, Rd H a (.dT kvs) ∧ y = .ref b ∧ H b = some (.tup (k.map kV)) ∧ r = valV kvs k
/-- the heap behind a[y] = v -/
def DPut (H : Hp) (a : Addr) (y v : V) (H' : Hp) : Prop :=
  (∃ kvs k, H a = some (.dK kvs) ∧ y = kV k ∧ kvs.length < sizeLine ∧ H' = upd H a (.dK (putK kvs k v))) ∨
  ∃ kvs k b, H a = some (.dT kvs) ∧ y = .ref b ∧ H b = some (.tup (k.map kV)) ∧ kvs.length < sizeLine ∧ H' = upd H a (.dT (putK kvs k v))
theorem DGet.k {H : Hp} {a : Addr} {kvs : List (Key × V)} {k : Key} (e : H a = some (.dK kvs)) : DGet H a (kV k) (valV kvs k) := .inl ⟨kvs, k, .inl e, rfl, rfl⟩
theorem DGet.t {H : Hp} {a b : Addr} {kvs : List (List Key × V)} {k : List Key} (e : H a = some (.dT kvs)) (eb : H b = some (.tup (k.map kV))) : DGet H a (.ref b) (valV kvs k) := .inr ⟨kvs, k, b, .inl e, rfl, eb, rfl⟩
theorem DPut.k {H : Hp} {a : Addr} {kvs : List (Key × V)} {k : Key} {v : V} (e : H a = some (.dK kvs)) (hl : kvs.length < sizeLine) : DPut H a (kV k) v (upd H a (.dK (putK kvs k v))) := .inl ⟨kvs, k, e, rfl, hl, rfl⟩
theorem DPut.t {H : Hp} {a b : Addr} {kvs : List (List Key × V)} {k : List Key} {v : V} (e : H a = some (.dT kvs)) (eb : H b = some (.tup (k.map kV))) (hl : kvs.length < sizeLine) :
    DPut H a (.ref b) v (upd H a (.dT (putK kvs k v))) := .inr ⟨kvs, k, b, e, rfl, eb, hl, rfl⟩


section
variable {X : Cx} {pins : List (Addr × Obj)} {σ : St} {H : Hp} {s : Shared} {a : Addr} {y v : V} {u r : Value} {o : Option V} {A : Around} {E : Value → Shared → Prop}

end

section
variable {X : Cx} {pins : List (Addr × Obj)} {σ : St} {H : Hp} {s : Shared} {a : Addr} {kvs : List (Key × V)} {k : Key} {u : Value} {A : Around} {E : Value → Shared → Prop}
end


section
variable {X : Cx} {o i e value : Expr} {pos pos' tpos : Pos} {td ty tv : TE}
end


section
variable {X : Cx} {pos : Pos}
end

section
variable {X : Cx} {pins : List (Addr × Obj)} {σ : St} {H : Hp} {s : Shared} {a : Addr} {y d : V} {u r : Value} {o : Option V} {A : Around} {E : Value → Shared → Prop}
end

section
variable {X : Cx} {o e f : Expr} {apos cpos : Pos} {td ty tx : TE}
end

section
variable {X : Cx} {pins : List (Addr × Obj)} {σ : St} {H : Hp} {s : Shared} {a : Addr} {kvs : List (Key × V)} {A : Around} {E : Value → Shared → Prop}
end


section
variable {X : Cx} {pins : List (Addr × Obj)} {σ : St} {H : Hp} {s : Shared} {a : Addr} {y : V} {u : Value} {A : Around} {E : Value → Shared → Prop}
end
end L2


namespace DL
open PySem L2
section
variable {K : PySem.W.Frag} {H0 F0 F : Hp} {σ : St} {H : Hp} {δ : DSt}
end
section
variable {K : PySem.W.Frag}
/-- x = {} -/
def dSetD (i : Nat) (δ : DSt) : Option DFlow := some (.nx (δ.set i (some (.od []))))
/-- x = {}, its keys to be ints -/
def dSetDK (i : Nat) (δ : DSt) : Option DFlow := some (.nx (δ.set i (some (.od [(.none, .none)]))))
/-- x[k] = v, k a tuple of ints -/
def putP (kvs : List (PyData × PyData)) (k : List Int) (v : PyData) : List (PyData × PyData) :=
  if (kvs.any fun p => decide (keyD p.1 = some k)) = true then kvs.map fun p => if keyD p.1 = some k then (p.1, v) else p else kvs ++ [(.tuple (k.map .int), v)]
end
end DL

namespace DL
open PySem L2
section
variable {K : PySem.W.Frag}
/-- the keys are tuples -/
def tkd : List (PyData × PyData) → Bool
  | (.none, _) :: _ => false
  | _ => true
def dPut (i : Nat) (fk fv : DSt → Option PyData) (δ : DSt) : Option DFlow := (fv δ).bind fun v => (fk δ).bind fun k => match δ[i]? with
  | some (some (.od kvs)) => (keyD k).bind fun ks => if kvs.length < LIM then if tkd kvs = true then some (.nx (δ.set i (some (.od (putP kvs ks v))))) else none else none
  | _ => none
end
end DL

namespace L2
open PySem PySem.Spec PyProof.Rows
mutual
def ltD : PyData → PyData → Option Bool
  | .int i, .int j => some (decide (i < j))
  | .bool p, .bool q => some (decide (b2i p < b2i q))
  | .tuple xs, .tuple ys => ltL xs ys
  | _, _ => none
def ltL : List PyData → List PyData → Option Bool
  | [], [] => some false
  | [], _ :: _ => some true
  | _ :: _, [] => some false
  | x :: xs, y :: ys => if PyData.eqv x y = true then ltL xs ys else ltD x y
end
section
open PySem.SeqAt
open PySem.AutoSeq1 (wpAny_loadPart')
open PySem.MeetsSeq PySem.MeetsSeq2 PySem.MeetsSeq3
end
open PySem.SeqAt (room_here room_in room_head room_tail)
end L2

namespace DL
open PySem L2
section
variable {K : PySem.W.Frag}
def isI (n : Int) : PyData → Bool
  | .int i => decide (i = n)
  | _ => false
/-- x[k] = v, k an int -/
def putI (kvs : List (PyData × PyData)) (k : Int) (v : PyData) : List (PyData × PyData) :=
  if (kvs.any fun p => isI k p.1) = true then kvs.map fun p => if isI k p.1 = true then (p.1, v) else p else kvs ++ [(.int k, v)]
def dPutI (i : Nat) (fk fv : DSt → Option PyData) (δ : DSt) : Option DFlow := (fv δ).bind fun v => (fk δ).bind fun k => match δ[i]?, k with
  | some (some (.od ((.none, .none) :: kvs))), .int n => if kvs.length < LIM then some (.nx (δ.set i (some (.od ((.none, .none) :: putI kvs n v))))) else none
  | _, _ => none
/-- what stands at a key -/
def kvGetI (n : Int) : List (PyData × PyData) → Option (Option PyData)
  | (.none, .none) :: r => some ((r.find? fun p => isI n p.1).map (·.2))
  | _ => none
def kvGet (kvs : List (PyData × PyData)) : PyData → Option (Option PyData)
  | .int n => kvGetI n kvs
  | .tuple ds => (intsD ds).bind fun ks => if tkd kvs = true then some ((kvs.find? fun p => decide (keyD p.1 = some ks)).map (·.2)) else none
  | _ => none
def slotD (i : Nat) (δ : DSt) : Option (List (PyData × PyData)) := match δ[i]? with
  | some (some (.od kvs)) => some kvs
  | _ => none
/-- x[k] -/
def dGetE (i : Nat) (fk : DSt → Option PyData) (δ : DSt) : Option PyData := (slotD i δ).bind fun kvs => (fk δ).bind fun k => (kvGet kvs k).bind fun r => r
/-- k in x -/
def dInE (neg : Bool) (i : Nat) (fk : DSt → Option PyData) (δ : DSt) : Option PyData := (slotD i δ).bind fun kvs => (fk δ).bind fun k => (kvGet kvs k).map fun r => .bool (if neg then !r.isSome else r.isSome)
/-- x.get(k, z) -/
def dGet2E (i : Nat) (fk fz : DSt → Option PyData) (δ : DSt) : Option PyData := (slotD i δ).bind fun kvs => (fk δ).bind fun k => (fz δ).bind fun z => (kvGet kvs k).map fun r => r.getD z
end
end DL

namespace L2
open PySem PySem.Spec PyProof.Rows
section
variable {X : Cx} {pins : List (Addr × Obj)} {σ : St} {S I l : Addr} {xs : List V} {F H0 : Hp} {lt : Nat → Nat → Bool} {R : Result → Shared → Prop}
end
end L2
namespace DL
open PySem L2
section
variable {K : PySem.W.Frag}
end
end DL

namespace L2
open PySem PySem.Spec PyProof.Rows
section
variable {X : Cx}
end
section
variable {prog : Program} {w : World} {A : Around} {E : Value → Shared → Prop} {s : Shared}
end
section
variable {X : Cx}
end
end L2

namespace DL
open PySem L2
section
variable {K : PySem.W.Frag}
/-- t[::-1] -/
def dRev (f g : DSt → Option PyData) (δ : DSt) : Option PyData := (f δ).bind fun d => (g δ).bind fun k => match d, k with
  | .tuple ds, .int (-1) => some (.tuple ds.reverse)
  | _, _ => none
/-- sorted(xs, reverse=True) -/
def insD (a : Int) : List Int → List Int
  | [] => [a]
  | b :: l => if b ≤ a then a :: b :: l else b :: insD a l
def downI : List Int → List Int
  | [] => []
  | a :: l => insD a (downI l)
def dSortR (fs : DSt → Option (List PyData)) (δ : DSt) : Option PyData := (fs δ).bind fun ds => match ds with
  | [.list es] => (intsD es).bind fun ns => if ns.length < 64 then some (.list ((downI ns).map .int)) else none
  | _ => none
/-- len(x), x a dict with int keys that is being filled -/
def dLenK (i : Nat) (δ : DSt) : Option PyData := match δ[i]? with
  | some (some (.od ((.none, .none) :: kvs))) => some (.int (kvs.length : Nat))
  | _ => none
end
section
variable {X : Cx}
end
end DL

namespace L2
open PySem PySem.Spec PyProof.Rows PySem.W PySem.Calls PySem.Builtin PySem.Builtin.ObjectAttr PySem.Builtin.Getset_descriptor
section
variable {pr : Program} {wd : World} {Ar : Around} {Ex : Value → Shared → Prop} {t : Shared} {K : Frag} {x C : Addr}
theorem xc_find {M : Model} {h : Heap} {nm : Str} {a g : Value} (kin : K.In h) (ha : findIn K (.ref C) nm = some (some a)) (hg : specialIn K a "__get__" = some (some g)) (ht : takesIn K a = some true) : Looks M h (find (.ref x) (.ref C) nm) (.bind g a) :=
  (looks_findIn kin ha).andThen ((show Looks M h (getOf (some a)) (some g) from looks_specialIn kin hg).andThen ((show Looks M h (dataDescriptor? (some a) (some g)) (some (g, a)) from (looks_takesIn kin ht).andThen .now).andThen (Looks.tag .now)))
theorem xc_get {R : Result → Shared → Prop} {tp : Value} (kin : K.In t.heap) (ty : ∀ M, Looks M t.heap (typeOf (.ref x)) (.ref C)) (om : mroIn K C (.type "object") = some true)
    (fin : R (.ok (.ret (.ref C))) t) : codeAny (model pr wd) Ar (.call (.builtin "getset_descriptor.__get__") ⟨[.builtin "object.__class__", .ref x, tp], []⟩) R t := by
  obtain ⟨hp, gs, dn, tk, ops⟩ := t
  have T0 := ty (model pr wd)
  have T1 := looks_mroIn (M := model pr wd) kin om
  refine codeAny_call_builtin KF.slot_gs.plain KF.entry_gs (KF.slot_gs.check _ _ _ _ _ _ _ _ KF.type_class (KF.args_gs _ _ _) ?go)
  case go =>
    unfold Builtin.«getset_descriptor.__get__» descrGet; rw [dga_obj]
    refine wpAny_bind (wpAny_pure ?go2)
    case go2 =>
      unfold descrGetter descrCheckInstance descrNameAndClass isInstance; simp only [KF.owner_class]
      (repeat lk)
      refine ⟨Code.quiet_builtin _ (by decide +kernel), codeAny_builtin KF.entry_class ?go3⟩
      case go3 =>
        unfold Builtin.«object.__class__» shownTypeOf; (repeat lk)
        exact fin
theorem xd_entry {Q : Fin → Shared → Prop} {tn : Tok} (kin : K.In t.heap) (ty : ∀ M, Looks M t.heap (typeOf (.ref x)) (.ref C)) (ha : findIn K (.ref C) "__class__" = some (some (.builtin "object.__class__")))
    (hn : specialIn K (.builtin "object.__class__") "__get__" = some (some (.builtin "getset_descriptor.__get__"))) (htk : takesIn K (.builtin "object.__class__") = some true) (om : mroIn K C (.type "object") = some true)
    (fin : Q (.done (.ret (.ref C))) t) : wpAny (model pr wd) Ar (Builtin.«object.__getattribute__» ⟨[.ref x, .str "__class__" tn], []⟩) Q Ex t := by
  obtain ⟨hp, gs, dn, tk, ops⟩ := t
  have T0 := ty (model pr wd)
  have T2 := xc_find (M := model pr wd) (x := x) kin ha hn htk
  unfold Builtin.«object.__getattribute__»
  refine wpAny_bind (wpAny_of_eq (show slotArgs "__getattribute__" 1 ⟨[.ref x, .str "__class__" tn], []⟩ = pure (.ref x, [.str "__class__" tn]) from rfl) ?go)
  case go =>
    refine wpAny_bind (wpAny_of_eq (show attrName (.str "__class__" tn) = pure "__class__" from rfl) ?go1)
    case go1 =>
      refine wpAny_bind (T0.at (wpAny_bind (T2.at ?go2)))
      case go2 =>
        show wpAny _ _ (bindTo (.builtin "getset_descriptor.__get__") (.builtin "object.__class__") (.ref x) (.ref C)) _ _ _
        show wpAny _ _ (holding [.builtin "object.__class__"] (call (.builtin "getset_descriptor.__get__") [.builtin "object.__class__", .ref x, .ref C]) >>= ret) _ _ _
        refine wpAny_bind (wpAny_holding (wpAny_mono (wpAny_call (xc_get (t := ⟨hp, gs, dn, tk, ops⟩) kin ty om (R := fun r u => match r with | .ok (.ret v) => v = .ref C ∧ u = ⟨hp, gs, dn, tk, ops⟩ | .ok _ => False | .error _ => False) ⟨rfl, rfl⟩)) (fun v u z => ?go3) fun _ _ z => z.elim))
        case go3 =>
          obtain ⟨rfl, rfl⟩ := z
          exact wpAny_pure fin
theorem xd_check {M : Model} {Q : Unit → Shared → Prop} {nv : Value} (kin : K.In t.heap) (ty : ∀ M, Looks M t.heap (typeOf (.ref x)) (.ref C)) (ob : mroIn K C (.type "BaseException") = some true) (fin : Q () t) :
    wpAny M Ar (checkBuiltinCall "BaseException.__getattribute__" ⟨[.ref x, nv], []⟩) Q Ex t := by
  have hk : builtinKind "BaseException.__getattribute__" = some .slot := by decide +kernel
  have hsplit : splitId "BaseException.__getattribute__" = some ("BaseException", "__getattribute__") := by decide +kernel
  have ha := PySem.F.args_bexc_ga (.ref x) nv
  have T : Looks M t.heap (isInstance (.ref x) (.type "BaseException")) true := (ty M).andThen (looks_mroIn kin ob)
  simp only [checkBuiltinCall, hk, hsplit]
  refine wpAny_bind (T.here ?_)
  repeat (first | exact fin | wp_step)
theorem xd_class {Q : Option Value → Shared → Prop} (kin : K.In t.heap) (ty : ∀ M, Looks M t.heap (typeOf (.ref x)) (.ref C)) (g1 : findIn K (.ref C) "__getattribute__" = some (some (.builtin "BaseException.__getattribute__"))) (g2 : findIn K (.ref C) "__getattr__" = some none)
    (ha : findIn K (.ref C) "__class__" = some (some (.builtin "object.__class__")))
    (hn : specialIn K (.builtin "object.__class__") "__get__" = some (some (.builtin "getset_descriptor.__get__"))) (htk : takesIn K (.builtin "object.__class__") = some true) (om : mroIn K C (.type "object") = some true) (ob : mroIn K C (.type "BaseException") = some true)
    (fin : Q (some (.ref C)) { t with toks := t.toks + 1 }) : wpAny (model pr wd) Ar (getAttr? (.ref x) "__class__") Q Ex t := by
  obtain ⟨hp, gs, dn, tk, ops⟩ := t
  have T0 := ty (model pr wd)
  have T1 := looks_findIn (M := model pr wd) kin g1
  have T3 := looks_findIn (M := model pr wd) kin g2
  have bs : bindSpecial (.builtin "BaseException.__getattribute__") (.ref x) = pure (.builtin "BaseException.__getattribute__", [.ref x]) := (PySem.F.attrBase_ValueError.ga).bind (.ref x)
  unfold getAttr? getAttrBy? getAttrBy
  refine wpAny_bind (wpAny_mkText (wpAny_bind (wpAny_attempt (wpAny_holding (wpAny_bind (T0.at (wpAny_bind (T1.at ?go))))))))
  case go =>
    show wpAny _ _ (getAttrByItsOwn (.ref x) (.str "__class__" tk) (.ref C) (.builtin "BaseException.__getattribute__") false false) _ _ _
    unfold getAttrByItsOwn
    refine wpAny_bind (show wpAny _ _ (typeLookup (.ref C) "__getattr__") _ _ _ from T3.at ?go1)
    case go1 =>
      refine wpAny_bind (wpAny_attempt (wpAny_holding ?go2))
      case go2 =>
        show wpAny _ _ (boundAndCalled (.builtin "BaseException.__getattribute__") (.ref x) (.str "__class__" tk)) _ _ _
        unfold boundAndCalled
        refine wpAny_bind (wpAny_of_eq bs ?go3)
        case go3 =>
          show wpAny _ _ (call (.builtin "BaseException.__getattribute__") [.ref x, .str "__class__" tk]) _ _ _
          refine wpAny_mono (wpAny_call (E := fun _ _ => False) (Q := fun v u => v = .ref C ∧ u = ⟨hp, gs, dn, tk + 1, ops⟩) (codeAny_call_builtin (PySem.F.attrBase_ValueError.ga).plain PySem.F.entry_bexc_ga (xd_check (t := ⟨hp, gs, dn, tk + 1, ops⟩) kin ty ob (xd_entry (t := ⟨hp, gs, dn, tk + 1, ops⟩) kin ty ha hn htk om ?go4)))) (fun v u z => ?go5) fun _ _ z => z.elim
          case go4 => exact ⟨rfl, rfl⟩
          case go5 =>
            obtain ⟨rfl, rfl⟩ := z
            exact handed_on rfl (wpAny_pure fin)
end
/-- what is asked of an own class of exceptions, so that e.__class__ may be read -/
structure ExcCls (K : Frag) (C : Addr) : Prop where
  g1 : findIn K (.ref C) "__getattribute__" = some (some (.builtin "BaseException.__getattribute__"))
  g2 : findIn K (.ref C) "__getattr__" = some none
  ha : findIn K (.ref C) "__class__" = some (some (.builtin "object.__class__"))
  hn : specialIn K (.builtin "object.__class__") "__get__" = some (some (.builtin "getset_descriptor.__get__"))
  htk : takesIn K (.builtin "object.__class__") = some true
  om : mroIn K C (.type "object") = some true
  ob : mroIn K C (.type "BaseException") = some true
theorem ExcCls.isT {K : Frag} {C : Addr} (X : ExcCls K C) {M : Model} {h : Heap} (kin : K.In h) : Looks M h (isType (.ref C)) true := by
  have e := X.om
  unfold mroIn at e
  obtain ⟨cd, hc, _⟩ := Option.bind_eq_some_iff.mp e
  unfold clsIn at hc
  split at hc
  · rename_i c' d' cd' sl' ho
    intro A' Q' E' s' k q
    unfold isType loadHead
    exact wpAny_bind (wpAny_loadPart (k _ _ (kin _ _ ho)) (wpAny_pure q))
  · cases hc
theorem isi_noX {prog : Program} {w : World} {A : Around} {E : Value → Shared → Prop} {s : Shared} {K : Frag} {ea C : Addr} {c : Value} {ob : Obj} {Q : Value → Shared → Prop} (kin : K.In s.heap) (at_ : s.heap.get? ea = some ob) (cl : ob.cls = .ref C) (X : ExcCls K C)
    (no : kitOne K (.ref C) c = some false) (k : ∀ tk, Q (.bool false) { s with toks := tk }) : wpAny (model prog w) A (call (.builtin "isinstance") [.ref ea, c]) Q E s := by
  refine call_isinstance (S := fun _ R t => (K.In t.heap ∧ t.heap.get? ea = some ob) ∧ ∀ tk, R (.ok (.ret (.bool false))) { t with toks := tk }) (fun pr w2 A2 R t ht => isinstance_outer ?_ (by intro q; cases q)) ⟨⟨kin, at_⟩, k⟩
  obtain ⟨hh, g, d, tt, os⟩ := t
  obtain ⟨⟨ki, here⟩, fin⟩ := ht
  have ty : ∀ M, Looks M hh (typeOf (.ref ea)) (.ref C) := fun M => cl ▸ (Looks.ld here).andThen .now
  have tyM := ty (model pr w2)
  unfold Builtin.«isinstance.nested»
  refine wpAny_bind (tyM.at ?_)
  unfold kitOne at no
  by_cases q : (Value.ref C == c) = true
  · rw [if_pos q] at no
    cases no
  · rw [if_neg q] at no
    rw [if_neg q]
    obtain ⟨a1, a2, a3⟩ := kit_cls (M := model pr w2) ki no
    have both : Looks (model pr w2) hh (isInstance (.ref ea) c) false := tyM.andThen a3
    refine wpAny_bind (a1.at ?_)
    rw [if_pos (by decide)]
    k_delta "plainIsInstance"
    refine wpAny_bind (wpAny_bind (a2.at ?_))
    simp only [Bool.not_true, Bool.false_eq_true, if_false]
    refine wpAny_bind (both.at ?_)
    simp only [Bool.false_eq_true, if_false]
    refine wpAny_bind (xd_class (t := ⟨hh, g, d, tt, os⟩) ki ty X.g1 X.g2 X.ha X.hn X.htk X.om X.ob ?_)
    refine wpAny_bind ((X.isT ki).at ?_)
    simp only [Bool.not_true, Bool.false_eq_true, if_false]
    refine wpAny_bind (wpAny_rule ?_)
    refine a3.at ?_
    first
      | exact wpAny_pure (fin _)
      | exact wpAny_pure (wpAny_pure (fin _))
      | exact wpAny_bind (wpAny_pure (wpAny_pure (fin _)))
def rIsiB (K : Frag) : List V → Hp → VK → Prop := fun xs H Q => ∃ ea C y c b, xs = [.ref ea, y] ∧ ((∃ D, y = .ref D ∧ c = .ref D) ∨ ∃ n, y = .ty n ∧ c = .type n) ∧ H ea = some (XO ea C) ∧ kitOne K (.ref C) c = some b ∧ ExcCls K C ∧ Q (.bl b) H
theorem call_isiB {X : Cx} : CallR X (.builtin "isinstance") (rIsiB X.K) := by
  intro pins s σ H xs us Q I rv h
  obtain ⟨ea, C, y, c, b, rfl, hy, tr, ans, xc, q⟩ := h
  obtain ⟨u, w', rfl, r1, r2⟩ := rv.two
  cases (show u = Value.ref ea from r1)
  have ec : w' = c := by
    rcases hy with ⟨D, rfl, rfl⟩ | ⟨n, rfl, rfl⟩
    · exact r2
    · exact r2
  subst ec
  obtain ⟨⟨ob, e, cl⟩, _⟩ := (show ObjOk X.prog X.w H s.heap ea (XO ea C) from I.hok ea _ tr)
  cases b with
  | true => exact isi_flown I.kIn e cl ans fun tk => ⟨.bl true, H, I.tok tk, rfl, q⟩
  | false => exact isi_noX I.kIn e cl xc ans fun tk => ⟨.bl false, H, I.tok tk, rfl, q⟩
end L2

namespace DL
open PySem L2 PyProof.Rows
section
variable {X : Cx}
def tNoS : TS := fun _ _ _ => False
def tNoA : TA := fun _ _ _ => False
theorem pss_any {sts : List Stmt} : PSs X sts tNoS := fun _ _ _ _ _ _ h => h.elim
theorem pa_any {es : List Expr} : PA X es tNoA := fun _ _ _ _ _ _ _ h => h.elim
theorem pss_either {sts : List Stmt} {t u : TS} (a : PSs X sts t) (b : PSs X sts u) : PSs X sts (fun D σ H => t D σ H ∨ u D σ H) := fun pins s σ H D I h => h.elim (a pins s σ H D I) (b pins s σ H D I)
end
section
variable {K : PySem.W.Frag} {E : XK} {C : Addr}
theorem ss_any : SS K tNoS dNever := fun H0 F0 F σ H δ r D R e h => nomatch e
def xNo (_ : DSt) : Bool := false
theorem sx_no {t : TS} : SX K E C t xNo := fun H0 F0 F σ H δ D R e k => nomatch e
def xEither (f g : DSt → Bool) (δ : DSt) : Bool := f δ || g δ
theorem sx_either {t u : TS} {f g : DSt → Bool} (a : SX K E C t f) (b : SX K E C u g) : SX K E C (fun D σ H => t D σ H ∨ u D σ H) (xEither f g) := fun H0 F0 F σ H δ D R e k => by
  rcases Bool.or_eq_true_iff.mp e with e | e
  · exact .inl (a H0 F0 F σ H δ D R e k)
  · exact .inr (b H0 F0 F σ H δ D R e k)
theorem sxe_either {t u : TE} {f g : DSt → Bool} (a : SXE K E C t f) (b : SXE K E C u g) : SXE K E C (fun σ H Q => t σ H Q ∨ u σ H Q) (xEither f g) := fun H0 F0 F σ H δ Q R e k => by
  rcases Bool.or_eq_true_iff.mp e with e | e
  · exact .inl (a H0 F0 F σ H δ Q R e k)
  · exact .inr (b H0 F0 F σ H δ Q R e k)
def xIf2 (c : DSt → Option Bool) (f g : DSt → Bool) (δ : DSt) : Bool := match c δ with
  | some true => f δ
  | some false => g δ
  | none => false
theorem sx_if {c : TT} {fc : DSt → Option Bool} {t u : TS} {f g : DSt → Bool} (a : ST K c fc) (b : SX K E C t f) (d : SX K E C u g) : SX K E C (tIfS c t u) (xIf2 fc f g) := fun H0 F0 F σ H δ D R e k => by
  unfold xIf2 at e
  split at e
  · rename_i q
    exact a H0 F0 F σ H δ true _ R q fun H' F' g' => iteT (b H0 F0 F' σ H' δ D (R.grow g') e k)
  · rename_i q
    exact a H0 F0 F σ H δ false _ R q fun H' F' g' => iteF (d H0 F0 F' σ H' δ D (R.grow g') e k)
  · cases e
theorem sx_iftest {ta : TE} {t u : TS} {f : DSt → Bool} (a : SXE K E C ta f) : SX K E C (tIfS (tTru K ta) t u) f := fun H0 F0 F σ H δ D R e k => a H0 F0 F σ H δ _ R e fun ea F' H' g' => k ea F' H' (R.g.trans g')
/-- the left one raises -/
theorem sxe_op1 {r : R2} {ta tb : TE} {f : DSt → Bool} (a : SXE K E C ta f) : SXE K E C (tOp r ta tb) f := fun H0 F0 F σ H δ Q R e k => a H0 F0 F σ H δ _ R e k
def Ans (K : PySem.W.Frag) (C : Addr) (y : V) (b : Bool) : Prop := ∃ c, ((∃ D, y = .ref D ∧ c = .ref D) ∨ ∃ n, y = .ty n ∧ c = .type n) ∧ PySem.W.kitOne K (.ref C) c = some b
theorem Ans.cls {D : Addr} {b : Bool} (h : PySem.W.kitOne K (.ref C) (.ref D) = some b) : Ans K C (.ref D) b := ⟨_, .inl ⟨D, rfl, rfl⟩, h⟩
theorem Ans.ty {n : String} {b : Bool} (h : PySem.W.kitOne K (.ref C) (.type n) = some b) : Ans K C (.ty n) b := ⟨_, .inr ⟨n, rfl, rfl⟩, h⟩
def tIs (K : PySem.W.Frag) (i : Nat) (y : V) : TE := tCB (rIsiB K) (tCons (tVar i) (tCons (tC y) tNil))
def tTold3 (K : PySem.W.Frag) (i : Nat) (y1 y2 y3 : V) : TS := tRet (tLst (tCons (tIs K i y1) (tCons (tIs K i y2) (tCons (tIs K i y3) tNil))))
theorem told3_ts {ea : Addr} {i : Nat} {y1 y2 y3 : V} {b1 b2 b3 : Bool} {D : Ends} {σ : St} {H : Hp} (hs : σ[i]? = some (some (.ref ea))) (hH : H ea = some (XO ea C)) (xc : ExcCls K C) (a1 : Ans K C y1 b1) (a2 : Ans K C y2 b2) (a3 : Ans K C y3 b3)
    (h : ∀ p, H p = none → D.rt (.ref p) (upd H p (.lst [.bl b1, .bl b2, .bl b3]))) : tTold3 K i y1 y2 y3 D σ H := by
  obtain ⟨c1, w1, k1⟩ := a1
  obtain ⟨c2, w2, k2⟩ := a2
  obtain ⟨c3, w3, k3⟩ := a3
  exact ⟨.ref ea, hs, ea, C, y1, c1, b1, rfl, w1, hH, k1, xc, .ref ea, hs, ea, C, y2, c2, b2, rfl, w2, hH, k2, xc, .ref ea, hs, ea, C, y3, c3, b3, rfl, w3, hH, k3, xc, small (by show 3 ≤ 1000; decide), h⟩
theorem try_told3 {Dc : Addr} {i : Nat} {tb : XK → TS} {u : TS} {fx : DSt → Bool} {y1 y2 y3 : V} {b1 b2 b3 : Bool} {vs : List V} {ds : List PyData} {F H : Hp} {Q : VK} {N : List Str} (sx : ∀ E, SX K E C (tb E) fx) (hex : PySem.W.exmOne K (.ref C) (.ref Dc) = some true) (xc : ExcCls K C)
    (a1 : Ans K C y1 b1) (a2 : Ans K C y2 b2) (a3 : Ans K C y3 b3) (hi : i < N.length) (s : Same F H) (ar : Are K F vs ds) (e : fx (stD N.length ds) = true) (q : ∀ v H' F', Grow F H F' H' → Is K F' v (.list [.bool b1, .bool b2, .bool b3]) → Q v H') :
    tSeq (tTry K Dc i N.length tb (fun _ => tTold3 K i y1 y2 y3)) u { nx := fun _ H' => Q .non H', rt := Q } (L2.start N vs) H := by
  have R := repStart (K := K) (N := N) s ar
  refine sx _ H F F _ H (stD N.length ds) _ R e (fun ea F' H' g' => ⟨C, rfl, hex, fun ea' e' hf σ' hσ => ?_⟩)
  cases e'
  refine told3_ts (by rw [List.getElem?_set_self (by rw [hσ]; exact hi)]) upd_same xc a1 a2 a3 fun p hp => ?_
  have g1 : Grow F H F' (upd H' ea (XO ea C)) := g'.trans (Grow.fresh g'.s hf)
  have g2 := g1.trans (Grow.new (p := p) (o := .lst [.bl b1, .bl b2, .bl b3]) g1.s hp)
  exact q (.ref p) _ _ g2 ⟨p, _, rfl, upd_same, .bl b1, _, rfl, rfl, .bl b2, _, rfl, rfl, .bl b3, _, rfl, rfl, rfl⟩
end
end DL

namespace DL
open PySem L2 PyProof.Rows
def repA (k : Int) : Str := ⟨(List.replicate k.toNat (PySem.Str.ofString "a").cps).foldl (· ++ ·) #[]⟩
def rMulS : R2 := fun x y H Q => ∃ k, x = .str (PySem.Str.ofString "a") ∧ y = .int k ∧ 1 ≤ k ∧ k ≤ 5 ∧ Q (.str (repA k)) H
theorem op_mulS {X : Cx} : OpR X (binaryOp .Mult) rMulS := by
  intro pins s σ H x y v u Q I rx ry h
  obtain ⟨k, rfl, rfl, h1, h5, q⟩ := h
  obtain ⟨t, rfl⟩ := rx
  obtain ⟨t', rfl⟩ := ry
  have k5 : k = 1 ∨ k = 2 ∨ k = 3 ∨ k = 4 ∨ k = 5 := by omega
  rcases k5 with rfl | rfl | rfl | rfl | rfl
  · exact PySem.P.mul_str (by decide) (by decide) (by decide) ⟨.str (repA 1), H, I.tok _, ⟨t, rfl⟩, q⟩
  · exact PySem.P.mul_str (by decide) (by decide) (by decide) ⟨by decide, .str (repA 2), H, I.tok _, ⟨_, rfl⟩, q⟩
  · exact PySem.P.mul_str (by decide) (by decide) (by decide) ⟨by decide, .str (repA 3), H, I.tok _, ⟨_, rfl⟩, q⟩
  · exact PySem.P.mul_str (by decide) (by decide) (by decide) ⟨by decide, .str (repA 4), H, I.tok _, ⟨_, rfl⟩, q⟩
  · exact PySem.P.mul_str (by decide) (by decide) (by decide) ⟨by decide, .str (repA 5), H, I.tok _, ⟨_, rfl⟩, q⟩
def mulSD (a b : PyData) : Option PyData := match a, b with
  | .str z, .int k => if z = PySem.Str.ofString "a" ∧ 1 ≤ k ∧ k ≤ 5 then some (.str (repA k)) else none
  | _, _ => none
theorem od_mulS {K : PySem.W.Frag} : OpD K rMulS mulSD := fun F H x y dx dy d Q s hx hy e k => by
  unfold mulSD at e
  split at e
  · rename_i z i
    split at e
    · rename_i c
      cases e
      obtain ⟨rfl, c1, c2⟩ := c
      exact ⟨i, hx, hy, c1, c2, k _ H F (Grow.refl s) rfl⟩
    · cases e
  · cases e
end DL

namespace GX
open PySem L2 DL
def B_law_mix_0 : DSt → Option DFlow := (dRet (d2 modD (d2 modD (d2 mulI (dVar 0) (dC (.int 48271))) (dVar 1)) (dVar 2)))
def B_law_mix : DSt → Option DFlow := (dRet (d2 modD (d2 modD (d2 mulI (dVar 0) (dC (.int 48271))) (dVar 1)) (dVar 2)))
theorem B_law_mix_tl : B_law_mix = B_law_mix_0 := rfl
def F_law_mix : List PyData → Option PyData := runD 3 B_law_mix
def B_law_cell_1 : DSt → Option DFlow := (dRet (dC (.int 0)))
def B_law_cell_0 : DSt → Option DFlow := dSeq (dIf (dB (d2 ltD (dVar 1) (dCall lenC (dCons (dVar 0) dNil)))) (dRet (d2 ixD (dVar 0) (dVar 1))) dNext) B_law_cell_1
def B_law_cell : DSt → Option DFlow := (dSeq (dIf (dB (d2 ltD (dVar 1) (dCall lenC (dCons (dVar 0) dNil)))) (dRet (d2 ixD (dVar 0) (dVar 1))) dNext) (dRet (dC (.int 0))))
theorem B_law_cell_tl : B_law_cell = B_law_cell_0 := rfl
def F_law_cell : List PyData → Option PyData := runD 2 B_law_cell
def B_law_game_3 : DSt → Option DFlow := (dRet (d2 ixD (dVar 2) (dOwnCall 3 F_law_mix (dCons (dOwnCall 2 F_law_cell (dCons (dVar 0) (dCons (dVar 1) dNil))) (dCons (dC (.int 9973)) (dCons (dVar 3) dNil))))))
def B_law_game_2 : DSt → Option DFlow := dSeq (dIf (dB (d2 gtD (dCall lenC (dCons (dVar 0) dNil)) (dC (.int 63)))) (dSet 3 (dC (.int 13))) dNext) B_law_game_3
def B_law_game_1 : DSt → Option DFlow := dSeq (dSet 3 (dC (.int 9))) B_law_game_2
def B_law_game_0 : DSt → Option DFlow := dSeq (dSet 2 (dOwn (dLstO (dLits [.tuple [.int 2, .int 3], .tuple [.int 3, .int 2], .tuple [.int 3, .int 3], .tuple [.int 2, .int 4], .tuple [.int 4, .int 2], .tuple [.int 1, .int 5], .tuple [.int 2, .int 5], .tuple [.int 3, .int 4], .tuple [.int 4, .int 3], .tuple [.int 5, .int 2], .tuple [.int 2, .int 8], .tuple [.int 1, .int 1], .tuple [.int 2, .int 2]])))) B_law_game_1
def B_law_game : DSt → Option DFlow := (dSeq (dSet 2 (dOwn (dLstO (dLits [.tuple [.int 2, .int 3], .tuple [.int 3, .int 2], .tuple [.int 3, .int 3], .tuple [.int 2, .int 4], .tuple [.int 4, .int 2], .tuple [.int 1, .int 5], .tuple [.int 2, .int 5], .tuple [.int 3, .int 4], .tuple [.int 4, .int 3], .tuple [.int 5, .int 2], .tuple [.int 2, .int 8], .tuple [.int 1, .int 1], .tuple [.int 2, .int 2]])))) (dSeq (dSet 3 (dC (.int 9))) (dSeq (dIf (dB (d2 gtD (dCall lenC (dCons (dVar 0) dNil)) (dC (.int 63)))) (dSet 3 (dC (.int 13))) dNext) (dRet (d2 ixD (dVar 2) (dOwnCall 3 F_law_mix (dCons (dOwnCall 2 F_law_cell (dCons (dVar 0) (dCons (dVar 1) dNil))) (dCons (dC (.int 9973)) (dCons (dVar 3) dNil)))))))))
theorem B_law_game_tl : B_law_game = B_law_game_0 := rfl
def F_law_game : List PyData → Option PyData := runD 4 B_law_game
def Bis_pair_0 : DSt → Option DFlow := (dRet (dAndV (dIsi "tuple" (dVar 0)) (d2 eqD (dCall lenC (dCons (dVar 0) dNil)) (dC (.int 2)))))
def Bis_pair : DSt → Option DFlow := (dRet (dAndV (dIsi "tuple" (dVar 0)) (d2 eqD (dCall lenC (dCons (dVar 0) dNil)) (dC (.int 2)))))
theorem Bis_pair_tl : Bis_pair = Bis_pair_0 := rfl
def Fis_pair : List PyData → Option PyData := runD 1 Bis_pair
def Bis_number_within_0 : DSt → Option DFlow := (dRet (dAndV (dIsi "int" (dVar 0)) (dAndV (dNotV (dIsi "bool" (dVar 0))) (dChain leD leD (dVar 1) (dVar 0) (dVar 2)))))
def Bis_number_within : DSt → Option DFlow := (dRet (dAndV (dIsi "int" (dVar 0)) (dAndV (dNotV (dIsi "bool" (dVar 0))) (dChain leD leD (dVar 1) (dVar 0) (dVar 2)))))
theorem Bis_number_within_tl : Bis_number_within = Bis_number_within_0 := rfl
def Fis_number_within : List PyData → Option PyData := runD 3 Bis_number_within
def Bhow_many_codes : DSt → Option DFlow := (dSeq (dSet 2 (dC (.int 1))) (dSeq (dFor (dRng1 (dCons (dVar 0) dNil)) (gN 3) (dAug 2 mulI (dVar 1))) (dRet (dVar 2))))
def Fhow_many_codes : List PyData → Option PyData := runD 4 Bhow_many_codes
def Bis_game : DSt → Option DFlow := (dSeq (dIf (dNotT (dTru (dOwnCall 1 Fis_pair (dCons (dVar 0) dNil)))) (dRet (dC (.bool false))) dNext) (dSeq (dIf (dOrT (dNotT (dTru (dOwnCall 3 Fis_number_within (dCons (d2 ixD (dVar 0) (dC (.int 0))) (dCons (dC (.int 1)) (dCons (dC (.int 5)) dNil)))))) (dNotT (dTru (dOwnCall 3 Fis_number_within (dCons (d2 ixD (dVar 0) (dC (.int 1))) (dCons (dC (.int 1)) (dCons (dC (.int 8)) dNil))))))) (dRet (dC (.bool false))) dNext) (dRet (d2 leD (dOwnCall 2 Fhow_many_codes (dCons (d2 ixD (dVar 0) (dC (.int 0))) (dCons (d2 ixD (dVar 0) (dC (.int 1))) dNil))) (dC (.int 300))))))
def Fis_game : List PyData → Option PyData := runD 1 Bis_game
def Bchecked_game : DSt → Option DFlow := (dSeq (dIf (dNotT (dTru (dOwnCall 1 Fis_game (dCons (dVar 0) dNil)))) dNever dNext) (dRet (dVar 0)))
def Fchecked_game : List PyData → Option PyData := runD 1 Bchecked_game
def Ball_codes_3 : DSt → Option DFlow := (dRet (dVar 1))
def Ball_codes_2 : DSt → Option DFlow := dSeq (dFor (dRng1 (dCons (d2 ixD (dVar 0) (dC (.int 0))) dNil)) (gN 2) (dSeq (dSetO 3 (dLstO dNil)) (dSeq (dFor (dIter (dVar 1)) (gN 4) (dExtend 3 (dOwn (dCompO 1 [("code", 4)] (dRng1 (dCons (d2 ixD (dVar 0) (dC (.int 1))) dNil)) (gN 0) dYes (d2 addD (dVar 1) (dTup (dCons (dVar 0) dNil))))))) (dFrz 3 (dSet 1 (dVar 3)))))) Ball_codes_3
def Ball_codes_1 : DSt → Option DFlow := dSeq (dSet 1 (dOwn (dLstO (dCons (dTup dNil) dNil)))) Ball_codes_2
def Ball_codes_0 : DSt → Option DFlow := dSeq (dDrop (dOwnCall 1 Fchecked_game (dCons (dVar 0) dNil))) Ball_codes_1
def Ball_codes : DSt → Option DFlow := (dSeq (dDrop (dOwnCall 1 Fchecked_game (dCons (dVar 0) dNil))) (dSeq (dSet 1 (dOwn (dLstO (dCons (dTup dNil) dNil)))) (dSeq (dFor (dRng1 (dCons (d2 ixD (dVar 0) (dC (.int 0))) dNil)) (gN 2) (dSeq (dSetO 3 (dLstO dNil)) (dSeq (dFor (dIter (dVar 1)) (gN 4) (dExtend 3 (dOwn (dCompO 1 [("code", 4)] (dRng1 (dCons (d2 ixD (dVar 0) (dC (.int 1))) dNil)) (gN 0) dYes (d2 addD (dVar 1) (dTup (dCons (dVar 0) dNil))))))) (dFrz 3 (dSet 1 (dVar 3)))))) (dRet (dVar 1)))))
theorem Ball_codes_tl : Ball_codes = Ball_codes_0 := rfl
def Fall_codes : List PyData → Option PyData := runD 5 Ball_codes
def B_law_codes_2 : DSt → Option DFlow := (dRet (dVar 1))
def B_law_codes_1 : DSt → Option DFlow := dSeq (dFor (dRng1 (dCons (d2 ixD (dVar 0) (dC (.int 0))) dNil)) (gN 2) (dSeq (dSet 3 (dOwn (dLstO dNil))) (dSeq (dFor (dIter (dVar 1)) (gN 4) (dSet 3 (d2 addD (dVar 3) (dOwn (dCompO 1 [("_law_code_here", 4)] (dRng1 (dCons (d2 ixD (dVar 0) (dC (.int 1))) dNil)) (gN 0) dYes (d2 addD (dVar 1) (dTup (dCons (dVar 0) dNil)))))))) (dSet 1 (dVar 3))))) B_law_codes_2
def B_law_codes_0 : DSt → Option DFlow := dSeq (dSet 1 (dOwn (dLstO (dCons (dTup dNil) dNil)))) B_law_codes_1
def B_law_codes : DSt → Option DFlow := (dSeq (dSet 1 (dOwn (dLstO (dCons (dTup dNil) dNil)))) (dSeq (dFor (dRng1 (dCons (d2 ixD (dVar 0) (dC (.int 0))) dNil)) (gN 2) (dSeq (dSet 3 (dOwn (dLstO dNil))) (dSeq (dFor (dIter (dVar 1)) (gN 4) (dSet 3 (d2 addD (dVar 3) (dOwn (dCompO 1 [("_law_code_here", 4)] (dRng1 (dCons (d2 ixD (dVar 0) (dC (.int 1))) dNil)) (gN 0) dYes (d2 addD (dVar 1) (dTup (dCons (dVar 0) dNil)))))))) (dSet 1 (dVar 3))))) (dRet (dVar 1))))
theorem B_law_codes_tl : B_law_codes = B_law_codes_0 := rfl
def F_law_codes : List PyData → Option PyData := runD 5 B_law_codes
def Banswer_of_4 : DSt → Option DFlow := (dRet (dTup (dCons (dVar 2) (dCons (d2 subD (dVar 3) (dVar 2)) dNil))))
def Banswer_of_3 : DSt → Option DFlow := dSeq (dFor (dEn (dCons (dVar 1) dNil)) (gT 2 (gC (gN 5) (gC (gN 6) gZ))) (dSeq (dIf (dB (d2 eqD (d2 ixD (dVar 0) (dVar 5)) (dVar 6))) (dAug 2 iaddD (dC (.int 1))) dNext) (dIf (dB (dInO false 4 (dVar 6))) (dSeq (dRemove 4 (dVar 6)) (dAug 3 iaddD (dC (.int 1)))) dNext))) Banswer_of_4
def Banswer_of_2 : DSt → Option DFlow := dSeq (dSetO 4 (dListO (dCons (dVar 0) dNil))) Banswer_of_3
def Banswer_of_1 : DSt → Option DFlow := dSeq (dSet 3 (dC (.int 0))) Banswer_of_2
def Banswer_of_0 : DSt → Option DFlow := dSeq (dSet 2 (dC (.int 0))) Banswer_of_1
def Banswer_of : DSt → Option DFlow := (dSeq (dSet 2 (dC (.int 0))) (dSeq (dSet 3 (dC (.int 0))) (dSeq (dSetO 4 (dListO (dCons (dVar 0) dNil))) (dSeq (dFor (dEn (dCons (dVar 1) dNil)) (gT 2 (gC (gN 5) (gC (gN 6) gZ))) (dSeq (dIf (dB (d2 eqD (d2 ixD (dVar 0) (dVar 5)) (dVar 6))) (dAug 2 iaddD (dC (.int 1))) dNext) (dIf (dB (dInO false 4 (dVar 6))) (dSeq (dRemove 4 (dVar 6)) (dAug 3 iaddD (dC (.int 1)))) dNext))) (dRet (dTup (dCons (dVar 2) (dCons (d2 subD (dVar 3) (dVar 2)) dNil))))))))
theorem Banswer_of_tl : Banswer_of = Banswer_of_0 := rfl
def Fanswer_of : List PyData → Option PyData := runD 7 Banswer_of
def Bis_code_1 : DSt → Option DFlow := (dRet (dCall allC (dCons (dOwn (dCompO 1 [("game", 0)] (dIter (dVar 1)) (gN 0) dYes (dOwnCall 3 Fis_number_within (dCons (dVar 0) (dCons (dC (.int 0)) (dCons (d2 subD (d2 ixD (dVar 1) (dC (.int 1))) (dC (.int 1))) dNil)))))) dNil)))
def Bis_code_0 : DSt → Option DFlow := dSeq (dIf (dOrT (dNotT (dTru (dIsi "tuple" (dVar 1)))) (dB (d2 neD (dCall lenC (dCons (dVar 1) dNil)) (d2 ixD (dVar 0) (dC (.int 0)))))) (dRet (dC (.bool false))) dNext) Bis_code_1
def Bis_code : DSt → Option DFlow := (dSeq (dIf (dOrT (dNotT (dTru (dIsi "tuple" (dVar 1)))) (dB (d2 neD (dCall lenC (dCons (dVar 1) dNil)) (d2 ixD (dVar 0) (dC (.int 0)))))) (dRet (dC (.bool false))) dNext) (dRet (dCall allC (dCons (dOwn (dCompO 1 [("game", 0)] (dIter (dVar 1)) (gN 0) dYes (dOwnCall 3 Fis_number_within (dCons (dVar 0) (dCons (dC (.int 0)) (dCons (d2 subD (d2 ixD (dVar 1) (dC (.int 1))) (dC (.int 1))) dNil)))))) dNil))))
theorem Bis_code_tl : Bis_code = Bis_code_0 := rfl
def Fis_code : List PyData → Option PyData := runD 2 Bis_code
def Bchecked_code_1 : DSt → Option DFlow := (dRet (dVar 1))
def Bchecked_code_0 : DSt → Option DFlow := dSeq (dIf (dNotT (dTru (dOwnCall 2 Fis_code (dCons (dVar 0) (dCons (dVar 1) dNil))))) dNever dNext) Bchecked_code_1
def Bchecked_code : DSt → Option DFlow := (dSeq (dIf (dNotT (dTru (dOwnCall 2 Fis_code (dCons (dVar 0) (dCons (dVar 1) dNil))))) dNever dNext) (dRet (dVar 1)))
theorem Bchecked_code_tl : Bchecked_code = Bchecked_code_0 := rfl
def Fchecked_code : List PyData → Option PyData := runD 2 Bchecked_code
def Xchecked_code_BadCode : List PyData → Bool := runX 2 (xIf2 (dNotT (dTru (dOwnCall 2 Fis_code (dCons (dVar 0) (dCons (dVar 1) dNil))))) (xRaise (dCons (dC (.str (PySem.Str.ofString "no code of the game: a tuple with a colour for each place"))) dNil)) xNo)
def Xanswer_BadCode : List PyData → Bool := runX 3 (xSeq (dDrop (dOwnCall 1 Fchecked_game (dCons (dVar 0) dNil))) (xEither (xCall 2 Xchecked_code_BadCode (dCons (dVar 0) (dCons (dVar 1) dNil))) (xNext (dOwnCall 2 Fchecked_code (dCons (dVar 0) (dCons (dVar 1) dNil))) (xCall 2 Xchecked_code_BadCode (dCons (dVar 0) (dCons (dVar 2) dNil))))))
def X_law_deed_BadCode : List PyData → Bool := runX 2 (xSeq (dIf (dB (d2 eqD (dVar 0) (dC (.int 0)))) dNever dNext) (xSeq (dIf (dB (d2 eqD (dVar 0) (dC (.int 1)))) dNever dNext) (xSeq (dIf (dB (d2 eqD (dVar 0) (dC (.int 2)))) dNever dNext) (xIf2 (dB (d2 eqD (dVar 0) (dC (.int 3)))) (xCall 3 Xanswer_BadCode (dCons (dVar 1) (dCons (dC .none) (dCons (dC .none) dNil)))) xNo))))
def Bis_answer_0 : DSt → Option DFlow := (dRet (dAndV (dOwnCall 1 Fis_pair (dCons (dVar 1) dNil)) (dCall allC (dCons (dOwn (dCompO 1 [("game", 0)] (dIter (dVar 1)) (gN 0) dYes (dOwnCall 3 Fis_number_within (dCons (dVar 0) (dCons (dC (.int 0)) (dCons (d2 ixD (dVar 1) (dC (.int 0))) dNil)))))) dNil))))
def Bis_answer : DSt → Option DFlow := (dRet (dAndV (dOwnCall 1 Fis_pair (dCons (dVar 1) dNil)) (dCall allC (dCons (dOwn (dCompO 1 [("game", 0)] (dIter (dVar 1)) (gN 0) dYes (dOwnCall 3 Fis_number_within (dCons (dVar 0) (dCons (dC (.int 0)) (dCons (d2 ixD (dVar 1) (dC (.int 0))) dNil)))))) dNil))))
theorem Bis_answer_tl : Bis_answer = Bis_answer_0 := rfl
def Fis_answer : List PyData → Option PyData := runD 2 Bis_answer
def Bis_ask_0 : DSt → Option DFlow := (dRet (dAndV (dOwnCall 1 Fis_pair (dCons (dVar 1) dNil)) (dAndV (dOwnCall 2 Fis_code (dCons (dVar 0) (dCons (d2 ixD (dVar 1) (dC (.int 0))) dNil))) (dOwnCall 2 Fis_answer (dCons (dVar 0) (dCons (d2 ixD (dVar 1) (dC (.int 1))) dNil))))))
def Bis_ask : DSt → Option DFlow := (dRet (dAndV (dOwnCall 1 Fis_pair (dCons (dVar 1) dNil)) (dAndV (dOwnCall 2 Fis_code (dCons (dVar 0) (dCons (d2 ixD (dVar 1) (dC (.int 0))) dNil))) (dOwnCall 2 Fis_answer (dCons (dVar 0) (dCons (d2 ixD (dVar 1) (dC (.int 1))) dNil))))))
theorem Bis_ask_tl : Bis_ask = Bis_ask_0 := rfl
def Fis_ask : List PyData → Option PyData := runD 2 Bis_ask
def Bchecked_list_2 : DSt → Option DFlow := (dRet (dVar 1))
def Bchecked_list_1 : DSt → Option DFlow := dSeq (dFor (dEn (dCons (dVar 1) dNil)) (gT 2 (gC (gN 3) (gC (gN 4) gZ))) (dIf (dNotT (dTru (dEither (dCallV 2 "is_ask" 2 Fis_ask (dCons (dVar 0) (dCons (dVar 4) dNil))) (dCallV 2 "is_code" 2 Fis_code (dCons (dVar 0) (dCons (dVar 4) dNil)))))) dNever dNext)) Bchecked_list_2
def Bchecked_list_0 : DSt → Option DFlow := dSeq (dIf (dOrT (dNotT (dTru (dIsi "list" (dVar 1)))) (dB (d2 gtD (dCall lenC (dCons (dVar 1) dNil)) (dC (.int 8))))) dNever dNext) Bchecked_list_1
def Bchecked_list : DSt → Option DFlow := (dSeq (dIf (dOrT (dNotT (dTru (dIsi "list" (dVar 1)))) (dB (d2 gtD (dCall lenC (dCons (dVar 1) dNil)) (dC (.int 8))))) dNever dNext) (dSeq (dFor (dEn (dCons (dVar 1) dNil)) (gT 2 (gC (gN 3) (gC (gN 4) gZ))) (dIf (dNotT (dTru (dEither (dCallV 2 "is_ask" 2 Fis_ask (dCons (dVar 0) (dCons (dVar 4) dNil))) (dCallV 2 "is_code" 2 Fis_code (dCons (dVar 0) (dCons (dVar 4) dNil)))))) dNever dNext)) (dRet (dVar 1))))
theorem Bchecked_list_tl : Bchecked_list = Bchecked_list_0 := rfl
def Fchecked_list : List PyData → Option PyData := runD 5 Bchecked_list
def Bchecked_asks_0 : DSt → Option DFlow := (dRet (dOwnCall 3 Fchecked_list (dCons (dVar 0) (dCons (dVar 1) (dCons (dC (fnD "is_ask")) dNil)))))
def Bchecked_asks : DSt → Option DFlow := (dRet (dOwnCall 3 Fchecked_list (dCons (dVar 0) (dCons (dVar 1) (dCons (dC (fnD "is_ask")) dNil)))))
theorem Bchecked_asks_tl : Bchecked_asks = Bchecked_asks_0 := rfl
def Fchecked_asks : List PyData → Option PyData := runD 2 Bchecked_asks
def Bfits_ask_0 : DSt → Option DFlow := (dRet (d2 eqD (dOwnCall 2 Fanswer_of (dCons (dVar 0) (dCons (d2 ixD (dVar 1) (dC (.int 0))) dNil))) (d2 ixD (dVar 1) (dC (.int 1)))))
def Bfits_ask : DSt → Option DFlow := (dRet (d2 eqD (dOwnCall 2 Fanswer_of (dCons (dVar 0) (dCons (d2 ixD (dVar 1) (dC (.int 0))) dNil))) (d2 ixD (dVar 1) (dC (.int 1)))))
theorem Bfits_ask_tl : Bfits_ask = Bfits_ask_0 := rfl
def Ffits_ask : List PyData → Option PyData := runD 2 Bfits_ask
def Bthose_that_fit_2 : DSt → Option DFlow := (dRet (dVar 2))
def Bthose_that_fit_1 : DSt → Option DFlow := dSeq (dFor (dIter (dVar 1)) (gN 3) (dSet 2 (dOwn (dCompO 1 [("ask", 3)] (dIter (dVar 2)) (gN 0) (dTru (dOwnCall 2 Ffits_ask (dCons (dVar 0) (dCons (dVar 1) dNil)))) (dVar 0))))) Bthose_that_fit_2
def Bthose_that_fit_0 : DSt → Option DFlow := dSeq (dSet 2 (dVar 0)) Bthose_that_fit_1
def Bthose_that_fit : DSt → Option DFlow := (dSeq (dSet 2 (dVar 0)) (dSeq (dFor (dIter (dVar 1)) (gN 3) (dSet 2 (dOwn (dCompO 1 [("ask", 3)] (dIter (dVar 2)) (gN 0) (dTru (dOwnCall 2 Ffits_ask (dCons (dVar 0) (dCons (dVar 1) dNil)))) (dVar 0))))) (dRet (dVar 2))))
theorem Bthose_that_fit_tl : Bthose_that_fit = Bthose_that_fit_0 := rfl
def Fthose_that_fit : List PyData → Option PyData := runD 4 Bthose_that_fit
def Bwhat_fits_2 : DSt → Option DFlow := (dRet (dOwnCall 2 Fthose_that_fit (dCons (dOwnCall 1 Fall_codes (dCons (dVar 0) dNil)) (dCons (dVar 1) dNil))))
def Bwhat_fits_1 : DSt → Option DFlow := dSeq (dDrop (dOwnCall 2 Fchecked_asks (dCons (dVar 0) (dCons (dVar 1) dNil)))) Bwhat_fits_2
def Bwhat_fits_0 : DSt → Option DFlow := dSeq (dDrop (dOwnCall 1 Fchecked_game (dCons (dVar 0) dNil))) Bwhat_fits_1
def Bwhat_fits : DSt → Option DFlow := (dSeq (dDrop (dOwnCall 1 Fchecked_game (dCons (dVar 0) dNil))) (dSeq (dDrop (dOwnCall 2 Fchecked_asks (dCons (dVar 0) (dCons (dVar 1) dNil)))) (dRet (dOwnCall 2 Fthose_that_fit (dCons (dOwnCall 1 Fall_codes (dCons (dVar 0) dNil)) (dCons (dVar 1) dNil))))))
theorem Bwhat_fits_tl : Bwhat_fits = Bwhat_fits_0 := rfl
def Fwhat_fits : List PyData → Option PyData := runD 2 Bwhat_fits
def Xsplit_BadCode : List PyData → Bool := runX 4 (xSeq (dSet 3 (dOwnCall 2 Fwhat_fits (dCons (dVar 0) (dCons (dVar 1) dNil)))) (xCall 2 Xchecked_code_BadCode (dCons (dVar 0) (dCons (dVar 2) dNil))))
def Xplayed_BadCode : List PyData → Bool := runX 7 (xSeq (dDrop (dOwnCall 1 Fchecked_game (dCons (dVar 0) dNil))) (xCall 2 Xchecked_code_BadCode (dCons (dVar 0) (dCons (dVar 1) dNil))))
def X_law_more_BadCode : List PyData → Bool := runX 2 (xEither (xIf2 (dB (d2 eqD (dVar 0) (dC (.int 0)))) (xCall 3 Xsplit_BadCode (dCons (dVar 1) (dCons (dC .none) (dCons (dC .none) dNil)))) xNo) (xSeq (dIf (dB (d2 eqD (dVar 0) (dC (.int 0)))) dNever dNext) (xSeq (dIf (dB (d2 eqD (dVar 0) (dC (.int 1)))) dNever dNext) (xIf2 (dB (d2 eqD (dVar 0) (dC (.int 2)))) (xCall 2 Xplayed_BadCode (dCons (dVar 1) (dCons (dC .none) dNil))) xNo))))
def Bfound_or_clash : DSt → Option DFlow := (dSeq (dIf (dNotT (dTru (dVar 0))) dNever dNext) (dRet (dVar 0)))
def Ffound_or_clash : List PyData → Option PyData := runD 1 Bfound_or_clash
def Xfoe_answer_BadCode : List PyData → Bool := runX 5 (xCall 3 Xsplit_BadCode (dCons (dVar 0) (dCons (dVar 1) (dCons (dVar 2) dNil))))
def Xleast_guess_like_BadCode : List PyData → Bool := runX 6 (xSeq (dDrop (dOwnCall 1 Fchecked_game (dCons (dVar 0) dNil))) (xCall 2 Xchecked_code_BadCode (dCons (dVar 0) (dCons (dVar 1) dNil))))
def X_law_by_code_BadCode : List PyData → Bool := runX 4 (xEither (xIf2 (dB (d2 eqD (dVar 0) (dC (.int 0)))) (xCall 3 Xanswer_BadCode (dCons (dVar 1) (dCons (dVar 3) (dCons (dVar 2) dNil)))) xNo) (xSeq (dIf (dB (d2 eqD (dVar 0) (dC (.int 0)))) dNever dNext) (xEither (xIf2 (dB (d2 eqD (dVar 0) (dC (.int 1)))) (xCall 3 Xanswer_BadCode (dCons (dVar 1) (dCons (dVar 2) (dCons (dVar 3) dNil)))) xNo) (xSeq (dIf (dB (d2 eqD (dVar 0) (dC (.int 1)))) dNever dNext) (xEither (xIf2 (dB (d2 eqD (dVar 0) (dC (.int 2)))) (xCall 3 Xsplit_BadCode (dCons (dVar 1) (dCons (dOwn (dLstO dNil)) (dCons (dVar 3) dNil)))) xNo) (xSeq (dIf (dB (d2 eqD (dVar 0) (dC (.int 2)))) dNever dNext) (xEither (xIf2 (dB (d2 eqD (dVar 0) (dC (.int 3)))) (xCall 3 Xfoe_answer_BadCode (dCons (dVar 1) (dCons (dOwn (dLstO dNil)) (dCons (dVar 3) dNil)))) xNo) (xSeq (dIf (dB (d2 eqD (dVar 0) (dC (.int 3)))) dNever dNext) (xEither (xIf2 (dB (d2 eqD (dVar 0) (dC (.int 4)))) (xCall 2 Xplayed_BadCode (dCons (dVar 1) (dCons (dVar 3) dNil))) xNo) (xSeq (dIf (dB (d2 eqD (dVar 0) (dC (.int 4)))) dNever dNext) (xCall 2 Xleast_guess_like_BadCode (dCons (dVar 1) (dCons (dVar 3) dNil)))))))))))))
def Xchecked_game_BadGame : List PyData → Bool := runX 1 (xIf2 (dNotT (dTru (dOwnCall 1 Fis_game (dCons (dVar 0) dNil)))) (xRaise (dCons (dC (.str (PySem.Str.ofString "no game: a tuple of 1 to 5 places and 1 to 8 colours, with at most 300 codes"))) dNil)) xNo)
def Xall_codes_BadGame : List PyData → Bool := runX 5 (xCall 1 Xchecked_game_BadGame (dCons (dVar 0) dNil))
def Xall_answers_BadGame : List PyData → Bool := runX 6 (xCall 1 Xall_codes_BadGame (dCons (dVar 0) dNil))
def Xanswer_BadGame : List PyData → Bool := runX 3 (xCall 1 Xchecked_game_BadGame (dCons (dVar 0) dNil))
def Xwhat_fits_BadGame : List PyData → Bool := runX 2 (xEither (xCall 1 Xchecked_game_BadGame (dCons (dVar 0) dNil)) (xSeq (dDrop (dOwnCall 1 Fchecked_game (dCons (dVar 0) dNil))) (xSeq (dDrop (dOwnCall 2 Fchecked_asks (dCons (dVar 0) (dCons (dVar 1) dNil)))) (xCall 1 Xall_codes_BadGame (dCons (dVar 0) dNil)))))
def Xwhy_clash_BadGame : List PyData → Bool := runX 5 (xCall 2 Xwhat_fits_BadGame (dCons (dVar 0) (dCons (dVar 1) dNil)))
def Xneedless_BadGame : List PyData → Bool := runX 4 (xEither (xCall 2 Xwhat_fits_BadGame (dCons (dVar 0) (dCons (dVar 1) dNil))) (xSeq (dSet 2 (dOwnCall 2 Fwhat_fits (dCons (dVar 0) (dCons (dVar 1) dNil)))) (xCall 1 Xall_codes_BadGame (dCons (dVar 0) dNil))))
def Xsettled_BadGame : List PyData → Bool := runX 3 (xCall 2 Xwhat_fits_BadGame (dCons (dVar 0) (dCons (dVar 1) dNil)))
def X_law_deed_BadGame : List PyData → Bool := runX 2 (xEither (xIf2 (dB (d2 eqD (dVar 0) (dC (.int 0)))) (xCall 1 Xchecked_game_BadGame (dCons (dVar 1) dNil)) xNo) (xSeq (dIf (dB (d2 eqD (dVar 0) (dC (.int 0)))) dNever dNext) (xEither (xIf2 (dB (d2 eqD (dVar 0) (dC (.int 1)))) (xCall 1 Xall_codes_BadGame (dCons (dVar 1) dNil)) xNo) (xSeq (dIf (dB (d2 eqD (dVar 0) (dC (.int 1)))) dNever dNext) (xEither (xIf2 (dB (d2 eqD (dVar 0) (dC (.int 2)))) (xCall 1 Xall_answers_BadGame (dCons (dVar 1) dNil)) xNo) (xSeq (dIf (dB (d2 eqD (dVar 0) (dC (.int 2)))) dNever dNext) (xEither (xIf2 (dB (d2 eqD (dVar 0) (dC (.int 3)))) (xCall 3 Xanswer_BadGame (dCons (dVar 1) (dCons (dC .none) (dCons (dC .none) dNil)))) xNo) (xSeq (dIf (dB (d2 eqD (dVar 0) (dC (.int 3)))) dNever dNext) (xEither (xIf2 (dB (d2 eqD (dVar 0) (dC (.int 4)))) (xCall 2 Xwhat_fits_BadGame (dCons (dVar 1) (dCons (dC .none) dNil))) xNo) (xSeq (dIf (dB (d2 eqD (dVar 0) (dC (.int 4)))) dNever dNext) (xEither (xIf2 (dB (d2 eqD (dVar 0) (dC (.int 5)))) (xCall 2 Xwhy_clash_BadGame (dCons (dVar 1) (dCons (dC .none) dNil))) xNo) (xSeq (dIf (dB (d2 eqD (dVar 0) (dC (.int 5)))) dNever dNext) (xEither (xIf2 (dB (d2 eqD (dVar 0) (dC (.int 6)))) (xCall 2 Xneedless_BadGame (dCons (dVar 1) (dCons (dC .none) dNil))) xNo) (xSeq (dIf (dB (d2 eqD (dVar 0) (dC (.int 6)))) dNever dNext) (xCall 2 Xsettled_BadGame (dCons (dVar 1) (dCons (dC .none) dNil)))))))))))))))))
def Xsplit_BadGame : List PyData → Bool := runX 4 (xCall 2 Xwhat_fits_BadGame (dCons (dVar 0) (dCons (dVar 1) dNil)))
def Xbest_guess_BadGame : List PyData → Bool := runX 3 (xCall 2 Xwhat_fits_BadGame (dCons (dVar 0) (dCons (dVar 1) dNil)))
def Xplayed_BadGame : List PyData → Bool := runX 7 (xEither (xCall 1 Xchecked_game_BadGame (dCons (dVar 0) dNil)) (xSeq (dDrop (dOwnCall 1 Fchecked_game (dCons (dVar 0) dNil))) (xSeq (dDrop (dOwnCall 2 Fchecked_code (dCons (dVar 0) (dCons (dVar 1) dNil)))) (xCall 1 Xall_codes_BadGame (dCons (dVar 0) dNil)))))
def Xshortest_BadGame : List PyData → Bool := runX 5 (xCall 2 Xwhat_fits_BadGame (dCons (dVar 0) (dCons (dVar 1) dNil)))
def Xa_plan_BadGame : List PyData → Bool := runX 2 (xCall 2 Xshortest_BadGame (dCons (dVar 0) (dCons (dVar 1) dNil)))
def Xalike_by_BadGame : List PyData → Bool := runX 2 (xCall 1 Xchecked_game_BadGame (dCons (dVar 0) dNil))
def Xsettle_all_BadGame : List PyData → Bool := runX 2 (xCall 2 Xalike_by_BadGame (dCons (dVar 0) (dCons (dVar 1) dNil)))
def Xread_BadGame : List PyData → Bool := runX 4 (xCall 1 Xchecked_game_BadGame (dCons (dVar 0) dNil))
def X_law_more_BadGame : List PyData → Bool := runX 2 (xEither (xIf2 (dB (d2 eqD (dVar 0) (dC (.int 0)))) (xCall 3 Xsplit_BadGame (dCons (dVar 1) (dCons (dC .none) (dCons (dC .none) dNil)))) xNo) (xSeq (dIf (dB (d2 eqD (dVar 0) (dC (.int 0)))) dNever dNext) (xEither (xIf2 (dB (d2 eqD (dVar 0) (dC (.int 1)))) (xCall 2 Xbest_guess_BadGame (dCons (dVar 1) (dCons (dC .none) dNil))) xNo) (xSeq (dIf (dB (d2 eqD (dVar 0) (dC (.int 1)))) dNever dNext) (xEither (xIf2 (dB (d2 eqD (dVar 0) (dC (.int 2)))) (xCall 2 Xplayed_BadGame (dCons (dVar 1) (dCons (dC .none) dNil))) xNo) (xSeq (dIf (dB (d2 eqD (dVar 0) (dC (.int 2)))) dNever dNext) (xEither (xIf2 (dB (d2 eqD (dVar 0) (dC (.int 3)))) (xCall 2 Xa_plan_BadGame (dCons (dVar 1) (dCons (dC .none) dNil))) xNo) (xSeq (dIf (dB (d2 eqD (dVar 0) (dC (.int 3)))) dNever dNext) (xEither (xIf2 (dB (d2 eqD (dVar 0) (dC (.int 4)))) (xCall 2 Xsettle_all_BadGame (dCons (dVar 1) (dCons (dC .none) dNil))) xNo) (xSeq (dIf (dB (d2 eqD (dVar 0) (dC (.int 4)))) dNever dNext) (xCall 2 Xread_BadGame (dCons (dVar 1) (dCons (dC .none) dNil)))))))))))))
def Xfoe_answer_BadGame : List PyData → Bool := runX 5 (xCall 3 Xsplit_BadGame (dCons (dVar 0) (dCons (dVar 1) (dCons (dVar 2) dNil))))
def Xleast_guess_like_BadGame : List PyData → Bool := runX 6 (xCall 1 Xchecked_game_BadGame (dCons (dVar 0) dNil))
def X_law_by_code_BadGame : List PyData → Bool := runX 4 (xEither (xIf2 (dB (d2 eqD (dVar 0) (dC (.int 0)))) (xCall 3 Xanswer_BadGame (dCons (dVar 1) (dCons (dVar 3) (dCons (dVar 2) dNil)))) xNo) (xSeq (dIf (dB (d2 eqD (dVar 0) (dC (.int 0)))) dNever dNext) (xEither (xIf2 (dB (d2 eqD (dVar 0) (dC (.int 1)))) (xCall 3 Xanswer_BadGame (dCons (dVar 1) (dCons (dVar 2) (dCons (dVar 3) dNil)))) xNo) (xSeq (dIf (dB (d2 eqD (dVar 0) (dC (.int 1)))) dNever dNext) (xEither (xIf2 (dB (d2 eqD (dVar 0) (dC (.int 2)))) (xCall 3 Xsplit_BadGame (dCons (dVar 1) (dCons (dOwn (dLstO dNil)) (dCons (dVar 3) dNil)))) xNo) (xSeq (dIf (dB (d2 eqD (dVar 0) (dC (.int 2)))) dNever dNext) (xEither (xIf2 (dB (d2 eqD (dVar 0) (dC (.int 3)))) (xCall 3 Xfoe_answer_BadGame (dCons (dVar 1) (dCons (dOwn (dLstO dNil)) (dCons (dVar 3) dNil)))) xNo) (xSeq (dIf (dB (d2 eqD (dVar 0) (dC (.int 3)))) dNever dNext) (xEither (xIf2 (dB (d2 eqD (dVar 0) (dC (.int 4)))) (xCall 2 Xplayed_BadGame (dCons (dVar 1) (dCons (dVar 3) dNil))) xNo) (xSeq (dIf (dB (d2 eqD (dVar 0) (dC (.int 4)))) dNever dNext) (xCall 2 Xleast_guess_like_BadGame (dCons (dVar 1) (dCons (dVar 3) dNil)))))))))))))
def XB_law_told_BadCode : DSt → Bool := (xIf2 (dB (d2 eqD (dVar 0) (dC (.int 0)))) (xCall 2 X_law_deed_BadCode (dCons (dVar 1) (dCons (dVar 4) dNil))) (xIf2 (dB (d2 eqD (dVar 0) (dC (.int 1)))) (xCall 2 X_law_more_BadCode (dCons (dVar 1) (dCons (dVar 4) dNil))) (xCall 4 X_law_by_code_BadCode (dCons (dVar 1) (dCons (dVar 2) (dCons (dVar 3) (dCons (dVar 4) dNil)))))))
def XB_law_told_BadGame : DSt → Bool := (xIf2 (dB (d2 eqD (dVar 0) (dC (.int 0)))) (xCall 2 X_law_deed_BadGame (dCons (dVar 1) (dCons (dVar 4) dNil))) (xIf2 (dB (d2 eqD (dVar 0) (dC (.int 1)))) (xCall 2 X_law_more_BadGame (dCons (dVar 1) (dCons (dVar 4) dNil))) (xCall 4 X_law_by_code_BadGame (dCons (dVar 1) (dCons (dVar 2) (dCons (dVar 3) (dCons (dVar 4) dNil)))))))
def F_law_told (ds : List PyData) : Option PyData := if XB_law_told_BadCode (stD 6 ds) = true then some (.list [.bool false, .bool true, .bool true]) else if XB_law_told_BadGame (stD 6 ds) = true then some (.list [.bool true, .bool false, .bool true]) else none
def B_law_code_2 : DSt → Option DFlow := (dFrz 2 (dRet (dCall tupC (dCons (dVar 2) dNil))))
def B_law_code_1 : DSt → Option DFlow := dSeq (dFor (dRng1 (dCons (d2 ixD (dVar 0) (dC (.int 0))) dNil)) (gN 3) (dAppend 2 (dOwnCall 3 F_law_mix (dCons (d2 addD (d2 addD (dVar 1) (d2 mulI (d2 mulI (dC (.int 31)) (dVar 3)) (dVar 3))) (d2 mulI (dC (.int 7)) (dVar 3))) (dCons (dC (.int 9967)) (dCons (d2 ixD (dVar 0) (dC (.int 1))) dNil)))))) B_law_code_2
def B_law_code_0 : DSt → Option DFlow := dSeq (dSetO 2 (dLstO dNil)) B_law_code_1
def B_law_code : DSt → Option DFlow := (dSeq (dSetO 2 (dLstO dNil)) (dSeq (dFor (dRng1 (dCons (d2 ixD (dVar 0) (dC (.int 0))) dNil)) (gN 3) (dAppend 2 (dOwnCall 3 F_law_mix (dCons (d2 addD (d2 addD (dVar 1) (d2 mulI (d2 mulI (dC (.int 31)) (dVar 3)) (dVar 3))) (d2 mulI (dC (.int 7)) (dVar 3))) (dCons (dC (.int 9967)) (dCons (d2 ixD (dVar 0) (dC (.int 1))) dNil)))))) (dFrz 2 (dRet (dCall tupC (dCons (dVar 2) dNil))))))
theorem B_law_code_tl : B_law_code = B_law_code_0 := rfl
def F_law_code : List PyData → Option PyData := runD 4 B_law_code
def Blaw_9 : DSt → Option DFlow := (dRet (d2 eqD (dOwn (dCompO 1 [("_law_game_here", 1), ("_law_good", 6), ("_law_bad", 3)] (dRng1 (dCons (dC (.int 6)) dNil)) (gN 0) (dB (d2 neD (dOwnCall 5 F_law_told (dCons (dC (.int 2)) (dCons (dVar 0) (dCons (dVar 1) (dCons (dVar 2) (dCons (dVar 3) dNil)))))) (dOwn (dLstO (dCons (dC (.bool false)) (dCons (dC (.bool true)) (dCons (dC (.bool true)) dNil))))))) (dVar 0))) (dOwn (dLstO dNil))))
def Blaw_8 : DSt → Option DFlow := dSeq (dSet 3 (d2 ixD (dVar 7) (d2 modD (dOwnCall 2 F_law_cell (dCons (dVar 0) (dCons (dC (.int 1)) dNil))) (dC (.int 10))))) Blaw_9
def Blaw_7 : DSt → Option DFlow := dSeq (dSet 7 (d2 addD (dVar 7) (dOwn (dLstO (dCons (d2 addD (dSl (dVar 6) (dPart (dC (.int 1))) dNoPart) (dTup (dCons (dC (.str (PySem.Str.ofString "0"))) dNil))) (dCons (d2 mulSD (dC (.str (PySem.Str.ofString "a"))) (d2 ixD (dVar 1) (dC (.int 0)))) (dCons (d2 addD (dSl (dVar 6) (dPart (dC (.int 1))) dNoPart) (dTup (dCons (dC .none) dNil))) dNil))))))) Blaw_8
def Blaw_6 : DSt → Option DFlow := dSeq (dSet 7 (dOwn (dLstO (dCons (dC .none) (dCons (dOwn (dListO (dCons (dVar 6) dNil))) (dCons (d2 addD (dVar 6) (dTup (dCons (dC (.int 0)) dNil))) (dCons (dSl (dVar 6) (dPart (dC (.int 1))) dNoPart) (dCons (d2 addD (dSl (dVar 6) (dPart (dC (.int 1))) dNoPart) (dTup (dCons (d2 ixD (dVar 1) (dC (.int 1))) dNil))) (dCons (d2 addD (dSl (dVar 6) (dPart (dC (.int 1))) dNoPart) (dTup (dCons (dNeg (dC (.int 1))) dNil))) (dCons (d2 addD (dSl (dVar 6) (dPart (dC (.int 1))) dNoPart) (dTup (dCons (dC (.bool false)) dNil))) dNil)))))))))) Blaw_7
def Blaw_5 : DSt → Option DFlow := dSeq (dSet 6 (dOwnCall 2 F_law_code (dCons (dVar 1) (dCons (dOwnCall 2 F_law_cell (dCons (dVar 0) (dCons (dC (.int 3)) dNil))) dNil)))) Blaw_6
def Blaw_4 : DSt → Option DFlow := dSeq (dFor (dIter (dOwn (dLstO (dCons (dTup (dCons (dC (.int 0)) (dCons (dC (.int 8)) dNil))) (dCons (dTup (dCons (dC (.int 1)) (dCons (dC (.int 6)) dNil))) dNil))))) (gT 2 (gC (gN 4) (gC (gN 5) gZ))) (dIf (dTru (dOwn (dCompO 1 [("_law_sort", 4), ("_law_game_here", 1), ("_law_bad", 3)] (dRng1 (dCons (dVar 5) dNil)) (gN 0) (dB (d2 neD (dOwnCall 5 F_law_told (dCons (dVar 1) (dCons (dVar 0) (dCons (dVar 2) (dCons (dC .none) (dCons (dVar 3) dNil)))))) (dOwn (dLstO (dCons (dC (.bool true)) (dCons (dC (.bool false)) (dCons (dC (.bool true)) dNil))))))) (dVar 0)))) (dRet (dC (.bool false))) dNext)) Blaw_5
def Blaw_3 : DSt → Option DFlow := dSeq (dSet 3 (d2 ixD (dVar 2) (d2 modD (dOwnCall 2 F_law_cell (dCons (dVar 0) (dCons (dC (.int 0)) dNil))) (dC (.int 14))))) Blaw_4
def Blaw_2 : DSt → Option DFlow := dSeq (dSet 2 (dOwn (dLstO (dLits [.none, .tuple [.int 0, .int 3], .tuple [.int 3, .int 0], .tuple [.int 6, .int 2], .tuple [.int 2, .int 9], .tuple [.int 4, .int 5], .tuple [.int 5, .int 4], .list [.int 2, .int 3], .tuple [.int 2], .tuple [.int 2, .int 3, .int 4], .tuple [.bool true, .int 3], .tuple [.int 3, .str (PySem.Str.ofString "2")], .str (PySem.Str.ofString "23"), .int 23])))) Blaw_3
def Blaw_1 : DSt → Option DFlow := dSeq (dIf (dOrT (dB (d2 neD (dOwnCall 1 Fchecked_game (dCons (dVar 1) dNil)) (dVar 1))) (dB (d2 neD (dOwnCall 1 Fall_codes (dCons (dVar 1) dNil)) (dOwnCall 1 F_law_codes (dCons (dVar 1) dNil))))) (dRet (dC (.bool false))) dNext) Blaw_2
def Blaw_0 : DSt → Option DFlow := dSeq (dSet 1 (dOwnCall 2 F_law_game (dCons (dVar 0) (dCons (dC (.int 2)) dNil)))) Blaw_1
def Blaw : DSt → Option DFlow := (dSeq (dSet 1 (dOwnCall 2 F_law_game (dCons (dVar 0) (dCons (dC (.int 2)) dNil)))) (dSeq (dIf (dOrT (dB (d2 neD (dOwnCall 1 Fchecked_game (dCons (dVar 1) dNil)) (dVar 1))) (dB (d2 neD (dOwnCall 1 Fall_codes (dCons (dVar 1) dNil)) (dOwnCall 1 F_law_codes (dCons (dVar 1) dNil))))) (dRet (dC (.bool false))) dNext) (dSeq (dSet 2 (dOwn (dLstO (dLits [.none, .tuple [.int 0, .int 3], .tuple [.int 3, .int 0], .tuple [.int 6, .int 2], .tuple [.int 2, .int 9], .tuple [.int 4, .int 5], .tuple [.int 5, .int 4], .list [.int 2, .int 3], .tuple [.int 2], .tuple [.int 2, .int 3, .int 4], .tuple [.bool true, .int 3], .tuple [.int 3, .str (PySem.Str.ofString "2")], .str (PySem.Str.ofString "23"), .int 23])))) (dSeq (dSet 3 (d2 ixD (dVar 2) (d2 modD (dOwnCall 2 F_law_cell (dCons (dVar 0) (dCons (dC (.int 0)) dNil))) (dC (.int 14))))) (dSeq (dFor (dIter (dOwn (dLstO (dCons (dTup (dCons (dC (.int 0)) (dCons (dC (.int 8)) dNil))) (dCons (dTup (dCons (dC (.int 1)) (dCons (dC (.int 6)) dNil))) dNil))))) (gT 2 (gC (gN 4) (gC (gN 5) gZ))) (dIf (dTru (dOwn (dCompO 1 [("_law_sort", 4), ("_law_game_here", 1), ("_law_bad", 3)] (dRng1 (dCons (dVar 5) dNil)) (gN 0) (dB (d2 neD (dOwnCall 5 F_law_told (dCons (dVar 1) (dCons (dVar 0) (dCons (dVar 2) (dCons (dC .none) (dCons (dVar 3) dNil)))))) (dOwn (dLstO (dCons (dC (.bool true)) (dCons (dC (.bool false)) (dCons (dC (.bool true)) dNil))))))) (dVar 0)))) (dRet (dC (.bool false))) dNext)) (dSeq (dSet 6 (dOwnCall 2 F_law_code (dCons (dVar 1) (dCons (dOwnCall 2 F_law_cell (dCons (dVar 0) (dCons (dC (.int 3)) dNil))) dNil)))) (dSeq (dSet 7 (dOwn (dLstO (dCons (dC .none) (dCons (dOwn (dListO (dCons (dVar 6) dNil))) (dCons (d2 addD (dVar 6) (dTup (dCons (dC (.int 0)) dNil))) (dCons (dSl (dVar 6) (dPart (dC (.int 1))) dNoPart) (dCons (d2 addD (dSl (dVar 6) (dPart (dC (.int 1))) dNoPart) (dTup (dCons (d2 ixD (dVar 1) (dC (.int 1))) dNil))) (dCons (d2 addD (dSl (dVar 6) (dPart (dC (.int 1))) dNoPart) (dTup (dCons (dNeg (dC (.int 1))) dNil))) (dCons (d2 addD (dSl (dVar 6) (dPart (dC (.int 1))) dNoPart) (dTup (dCons (dC (.bool false)) dNil))) dNil)))))))))) (dSeq (dSet 7 (d2 addD (dVar 7) (dOwn (dLstO (dCons (d2 addD (dSl (dVar 6) (dPart (dC (.int 1))) dNoPart) (dTup (dCons (dC (.str (PySem.Str.ofString "0"))) dNil))) (dCons (d2 mulSD (dC (.str (PySem.Str.ofString "a"))) (d2 ixD (dVar 1) (dC (.int 0)))) (dCons (d2 addD (dSl (dVar 6) (dPart (dC (.int 1))) dNoPart) (dTup (dCons (dC .none) dNil))) dNil))))))) (dSeq (dSet 3 (d2 ixD (dVar 7) (d2 modD (dOwnCall 2 F_law_cell (dCons (dVar 0) (dCons (dC (.int 1)) dNil))) (dC (.int 10))))) (dRet (d2 eqD (dOwn (dCompO 1 [("_law_game_here", 1), ("_law_good", 6), ("_law_bad", 3)] (dRng1 (dCons (dC (.int 6)) dNil)) (gN 0) (dB (d2 neD (dOwnCall 5 F_law_told (dCons (dC (.int 2)) (dCons (dVar 0) (dCons (dVar 1) (dCons (dVar 2) (dCons (dVar 3) dNil)))))) (dOwn (dLstO (dCons (dC (.bool false)) (dCons (dC (.bool true)) (dCons (dC (.bool true)) dNil))))))) (dVar 0))) (dOwn (dLstO dNil)))))))))))))
theorem Blaw_tl : Blaw = Blaw_0 := rfl
def Flaw : List PyData → Option PyData := runD 8 Blaw

def games : List (Int × Int) := [(2, 3), (3, 2), (3, 3), (2, 4), (4, 2), (1, 5), (2, 5), (3, 4), (4, 3)]
theorem games_or {p c : Int} (h : (p, c) ∈ games) : (p = 2 ∧ c = 3) ∨ (p = 3 ∧ c = 2) ∨ (p = 3 ∧ c = 3) ∨ (p = 2 ∧ c = 4) ∨ (p = 4 ∧ c = 2) ∨ (p = 1 ∧ c = 5) ∨ (p = 2 ∧ c = 5) ∨ (p = 3 ∧ c = 4) ∨ (p = 4 ∧ c = 3) := by
  simpa [games] using h
theorem games_b {p c : Int} (h : (p, c) ∈ games) : 1 ≤ p ∧ p ≤ 4 ∧ 2 ≤ c ∧ c ≤ 5 := by
  have := games_or h
  omega
def mixI (x p m : Int) : Int := x * 48271 % p % m
theorem cMul_right (x : Int) {y : Int} (h : -1000000000000 ≤ y ∧ y ≤ 1000000000000) : cMul x y = true := by
  unfold cMul
  rw [decide_eq_true h.1, decide_eq_true h.2]
  simp
theorem cMul_left {x : Int} (y : Int) (h : -1000000000000 ≤ x ∧ x ≤ 1000000000000) : cMul x y = true := by
  unfold cMul
  rw [decide_eq_true h.1, decide_eq_true h.2]
  simp
theorem mix_ok (x : Int) {p m : Int} (hp : 0 < p) (hm : 0 < m) : F_law_mix [.int x, .int p, .int m] = some (.int (mixI x p m)) := by
  have c1 : cMul x 48271 = true := cMul_right x (by omega)
  have c2 : cMod (x * 48271) p = true := decide_eq_true hp
  have c3 : cMod (x * 48271 % p) m = true := decide_eq_true hm
  simp only [F_law_mix, B_law_mix_tl, B_law_mix_0, dLits,  runD, runO, stD, dSeq, dIf, dSet, dSetO, dAug, dRet, dRetN, dRetO, dDrop, dFrz, dAppend, dExtend, dRemove, dFor, dVar, dC, d2, dCall, dOwnCall, dOwnCallO, dNil, dCons, dTup, dLstO, dOwn, dB, dTru, truD, dNotT, dAndT, dOrT, dAndV, dOrV, dNotV, dIfE, dIter, seqD, dRng1, dRng2, dEn, dZip, st0D, dYes, dNext, dNever, gN, gT, gZ, gC, DL.frz, resOf, dIsi, isi_ii, isi_ib, isi_tt, isi_ll, isi_lt, isi_tl, isi_nt, lenC, len_t, len_l, allC, tupC, dListO, dInO, sub_ii, lt_ii, le_ii, gt_ii, ge_ii, iadd_ii, mul_ii, mod_ii, fdiv_ii, add_ii, dSl, dNoPart, dPart, slD, dChain, dNeg, dAsg, dTruE, dLenE, dIxE, slD', dListRng, isND, notND, dEither, dSetD, dPut, dSetDK, dPutI, dGetE, dInE, dGet2E, slotD, kvGet, kvGetI, dLenK, dRev, dSortR, List.map_cons, List.map_nil, List.length_cons, List.length_nil, List.cons_append, List.nil_append, List.append_nil, List.getElem?_cons_zero, List.getElem?_cons_succ, List.getElem?_nil, List.set_cons_zero, List.set_cons_succ, List.replicate, Option.bind_some, Option.bind_none, Option.map_some, Option.map_none, Nat.reduceAdd, Nat.reduceSub, Nat.reduceEqDiff, ↓reduceIte, if_true, if_false, Bool.not_true, Bool.not_false, Bool.and_true, Bool.true_and, Bool.false_and, Bool.and_false, Bool.or_true, Bool.true_or, Bool.or_false, Bool.false_or, reduceCtorEq, Bool.false_eq_true, c1, c2, c3, mixI]
theorem mixI_b (x : Int) {p m : Int} (hm : 0 < m) : 0 ≤ mixI x p m ∧ mixI x p m < m := ⟨Int.emod_nonneg _ (by omega), Int.emod_lt_of_pos _ hm⟩
def cellI (ns : List Int) (k : Nat) : Int := ns.getD k 0
theorem cell_ok (ns : List Int) (k : Nat) : F_law_cell [scr ns, .int (k : Nat)] = some (.int (cellI ns k)) := by
  by_cases h : k < ns.length
  · have d : decide ((k : Int) < (ns.length : Nat)) = true := decide_eq_true (by omega)
    simp only [F_law_cell, B_law_cell_tl, B_law_cell_0, B_law_cell_1, dLits,  runD, runO, stD, dSeq, dIf, dSet, dSetO, dAug, dRet, dRetN, dRetO, dDrop, dFrz, dAppend, dExtend, dRemove, dFor, dVar, dC, d2, dCall, dOwnCall, dOwnCallO, dNil, dCons, dTup, dLstO, dOwn, dB, dTru, truD, dNotT, dAndT, dOrT, dAndV, dOrV, dNotV, dIfE, dIter, seqD, dRng1, dRng2, dEn, dZip, st0D, dYes, dNext, dNever, gN, gT, gZ, gC, DL.frz, resOf, dIsi, isi_ii, isi_ib, isi_tt, isi_ll, isi_lt, isi_tl, isi_nt, lenC, len_t, len_l, allC, tupC, dListO, dInO, sub_ii, lt_ii, le_ii, gt_ii, ge_ii, iadd_ii, mul_ii, mod_ii, fdiv_ii, add_ii, dSl, dNoPart, dPart, slD, dChain, dNeg, dAsg, dTruE, dLenE, dIxE, slD', dListRng, isND, notND, dEither, dSetD, dPut, dSetDK, dPutI, dGetE, dInE, dGet2E, slotD, kvGet, kvGetI, dLenK, dRev, dSortR, List.map_cons, List.map_nil, List.length_cons, List.length_nil, List.cons_append, List.nil_append, List.append_nil, List.getElem?_cons_zero, List.getElem?_cons_succ, List.getElem?_nil, List.set_cons_zero, List.set_cons_succ, List.replicate, Option.bind_some, Option.bind_none, Option.map_some, Option.map_none, Nat.reduceAdd, Nat.reduceSub, Nat.reduceEqDiff, ↓reduceIte, if_true, if_false, Bool.not_true, Bool.not_false, Bool.and_true, Bool.true_and, Bool.false_and, Bool.and_false, Bool.or_true, Bool.true_or, Bool.or_false, Bool.false_or, reduceCtorEq, Bool.false_eq_true, lenD_scr, d, ixD_scr, atI_nat' h, cellI]
    rw [List.getD_eq_getElem?_getD, List.getElem?_eq_getElem h]
    rfl
  · have d : decide ((k : Int) < (ns.length : Nat)) = false := decide_eq_false (by omega)
    simp only [F_law_cell, B_law_cell_tl, B_law_cell_0, B_law_cell_1, dLits,  runD, runO, stD, dSeq, dIf, dSet, dSetO, dAug, dRet, dRetN, dRetO, dDrop, dFrz, dAppend, dExtend, dRemove, dFor, dVar, dC, d2, dCall, dOwnCall, dOwnCallO, dNil, dCons, dTup, dLstO, dOwn, dB, dTru, truD, dNotT, dAndT, dOrT, dAndV, dOrV, dNotV, dIfE, dIter, seqD, dRng1, dRng2, dEn, dZip, st0D, dYes, dNext, dNever, gN, gT, gZ, gC, DL.frz, resOf, dIsi, isi_ii, isi_ib, isi_tt, isi_ll, isi_lt, isi_tl, isi_nt, lenC, len_t, len_l, allC, tupC, dListO, dInO, sub_ii, lt_ii, le_ii, gt_ii, ge_ii, iadd_ii, mul_ii, mod_ii, fdiv_ii, add_ii, dSl, dNoPart, dPart, slD, dChain, dNeg, dAsg, dTruE, dLenE, dIxE, slD', dListRng, isND, notND, dEither, dSetD, dPut, dSetDK, dPutI, dGetE, dInE, dGet2E, slotD, kvGet, kvGetI, dLenK, dRev, dSortR, List.map_cons, List.map_nil, List.length_cons, List.length_nil, List.cons_append, List.nil_append, List.append_nil, List.getElem?_cons_zero, List.getElem?_cons_succ, List.getElem?_nil, List.set_cons_zero, List.set_cons_succ, List.replicate, Option.bind_some, Option.bind_none, Option.map_some, Option.map_none, Nat.reduceAdd, Nat.reduceSub, Nat.reduceEqDiff, ↓reduceIte, if_true, if_false, Bool.not_true, Bool.not_false, Bool.and_true, Bool.true_and, Bool.false_and, Bool.and_false, Bool.or_true, Bool.true_or, Bool.or_false, Bool.false_or, reduceCtorEq, Bool.false_eq_true, lenD_scr, d, cellI]
    rw [List.getD_eq_getElem?_getD, List.getElem?_eq_none (by omega)]
    rfl
theorem nine {m : Int} (h : 0 ≤ m ∧ m < 9) : m = 0 ∨ m = 1 ∨ m = 2 ∨ m = 3 ∨ m = 4 ∨ m = 5 ∨ m = 6 ∨ m = 7 ∨ m = 8 := by omega
def gamesD : List PyData := [tupI [2, 3], tupI [3, 2], tupI [3, 3], tupI [2, 4], tupI [4, 2], tupI [1, 5], tupI [2, 5], tupI [3, 4], tupI [4, 3], tupI [5, 2], tupI [2, 8], tupI [1, 1], tupI [2, 2]]
theorem lit_le (n : Nat) (h : n ≤ 1000 := by decide) : n ≤ LIM := Nat.le_trans h (by decide)
theorem game_ix (ns : List Int) (hl : ns.length ≤ 63) (k : Nat) : F_law_game [scr ns, .int (k : Nat)] = atI gamesD (mixI (cellI ns k) 9973 9) := by
  have d : decide ((63 : Int) < (ns.length : Nat)) = false := decide_eq_false (by omega)
  have l2 : (2 : Nat) ≤ LIM := lit_le 2
  have l13 : (13 : Nat) ≤ LIM := lit_le 13
  simp only [F_law_game, B_law_game_tl, B_law_game_0, B_law_game_1, B_law_game_2, B_law_game_3, dLits,  runD, runO, stD, dSeq, dIf, dSet, dSetO, dAug, dRet, dRetN, dRetO, dDrop, dFrz, dAppend, dExtend, dRemove, dFor, dVar, dC, d2, dCall, dOwnCall, dOwnCallO, dNil, dCons, dTup, dLstO, dOwn, dB, dTru, truD, dNotT, dAndT, dOrT, dAndV, dOrV, dNotV, dIfE, dIter, seqD, dRng1, dRng2, dEn, dZip, st0D, dYes, dNext, dNever, gN, gT, gZ, gC, DL.frz, resOf, dIsi, isi_ii, isi_ib, isi_tt, isi_ll, isi_lt, isi_tl, isi_nt, lenC, len_t, len_l, allC, tupC, dListO, dInO, sub_ii, lt_ii, le_ii, gt_ii, ge_ii, iadd_ii, mul_ii, mod_ii, fdiv_ii, add_ii, dSl, dNoPart, dPart, slD, dChain, dNeg, dAsg, dTruE, dLenE, dIxE, slD', dListRng, isND, notND, dEither, dSetD, dPut, dSetDK, dPutI, dGetE, dInE, dGet2E, slotD, kvGet, kvGetI, dLenK, dRev, dSortR, List.map_cons, List.map_nil, List.length_cons, List.length_nil, List.cons_append, List.nil_append, List.append_nil, List.getElem?_cons_zero, List.getElem?_cons_succ, List.getElem?_nil, List.set_cons_zero, List.set_cons_succ, List.replicate, Option.bind_some, Option.bind_none, Option.map_some, Option.map_none, Nat.reduceAdd, Nat.reduceSub, Nat.reduceEqDiff, ↓reduceIte, if_true, if_false, Bool.not_true, Bool.not_false, Bool.and_true, Bool.true_and, Bool.false_and, Bool.and_false, Bool.or_true, Bool.true_or, Bool.or_false, Bool.false_or, reduceCtorEq, Bool.false_eq_true, l2, l13, lenD_scr, d, cell_ok, mix_ok _ (show (0 : Int) < 9973 by decide) (show (0 : Int) < 9 by decide), ixD]
  generalize mixI (cellI ns k) 9973 9 = m
  show ((atI gamesD m).map DFlow.rt).bind resOf = _
  cases atI gamesD m <;> rfl
theorem game_ok (ns : List Int) (hl : ns.length ≤ 63) (k : Nat) : ∃ p c, F_law_game [scr ns, .int (k : Nat)] = some (tupI [p, c]) ∧ (p, c) ∈ games := by
  rw [game_ix ns hl k]
  rcases nine (mixI_b (cellI ns k) (p := 9973) (show (0 : Int) < 9 by decide)) with h | h | h | h | h | h | h | h | h <;> rw [h]
  · exact ⟨2, 3, rfl, by decide⟩
  · exact ⟨3, 2, rfl, by decide⟩
  · exact ⟨3, 3, rfl, by decide⟩
  · exact ⟨2, 4, rfl, by decide⟩
  · exact ⟨4, 2, rfl, by decide⟩
  · exact ⟨1, 5, rfl, by decide⟩
  · exact ⟨2, 5, rfl, by decide⟩
  · exact ⟨3, 4, rfl, by decide⟩
  · exact ⟨4, 3, rfl, by decide⟩
/-- a code of the game -/
structure Code (p c : Int) (a : List Int) : Prop where
  len : (a.length : Int) = p
  all : ∀ n ∈ a, 0 ≤ n ∧ n ≤ c - 1
def codeI (p c x : Int) : List Int := (List.range p.toNat).map fun i : Nat => mixI (x + 31 * (i : Int) * (i : Int) + 7 * (i : Int)) 9967 c
theorem codeI_code {p c : Int} (h : (p, c) ∈ games) (x : Int) : Code p c (codeI p c x) := by
  have b := games_b h
  refine ⟨by simp [codeI]; omega, fun n hn => ?_⟩
  obtain ⟨i, _, rfl⟩ := List.mem_map.mp hn
  have := mixI_b (x + 31 * (i : Int) * (i : Int) + 7 * (i : Int)) (p := 9967) (m := c) (by omega)
  omega
theorem code_ok {p c : Int} (h : (p, c) ∈ games) (x : Int) : F_law_code [tupI [p, c], .int x] = some (tupI (codeI p c x)) := by
  have b := games_b h
  have m9 : ∀ y, F_law_mix [.int y, .int 9967, .int c] = some (.int (mixI y 9967 c)) := fun y => mix_ok y (by decide) (by omega)
  have sm : smallI p = true := by
    unfold smallI
    rw [decide_eq_true (show -1000000000 ≤ p by omega), decide_eq_true (show p ≤ 1000000000 by omega)]; rfl
  have len : ((List.range p.toNat).map fun k : Nat => PyData.int (0 + (k : Int))).length = p.toNat := by simp
  have i0 : ixD (.tuple [.int p, .int c]) (.int 0) = some (.int p) := rfl
  have i1 : ixD (.tuple [.int p, .int c]) (.int 1) = some (.int c) := rfl
  obtain ⟨δ', e1, v, e2⟩ := loopD_of (fg := (gN 3)) (fb := (dAppend 2 (dOwnCall 3 F_law_mix (dCons (d2 addD (d2 addD (dVar 1) (d2 mulI (d2 mulI (dC (.int 31)) (dVar 3)) (dVar 3))) (d2 mulI (dC (.int 7)) (dVar 3))) (dCons (dC (.int 9967)) (dCons (d2 ixD (dVar 0) (dC (.int 1))) dNil))))))
    (ds := rangeD 0 p.toNat) (δ := [some (.fz (.tuple [.int p, .int c])), some (.fz (.int x)), some (.ow []), none])
    (fun i δ => ∃ v, δ = [some (.fz (.tuple [.int p, .int c])), some (.fz (.int x)), some (.ow (((List.range i).map fun i : Nat => mixI (x + 31 * (i : Int) * (i : Int) + 7 * (i : Int)) 9967 c).map PyData.int)), v]) ⟨none, rfl⟩ (by
      rintro i hi δ ⟨v, rfl⟩
      have hi' : i < p.toNat := by simpa [rangeD] using hi
      have ei : (rangeD 0 p.toNat)[i] = .int (i : Nat) := by simp [rangeD]
      have q1 : cMul 31 (i : Int) = true := cMul_left _ (by omega)
      have q2 : cMul (31 * (i : Int)) (i : Int) = true := cMul_right _ (by omega)
      have q3 : cMul 7 (i : Int) = true := cMul_left _ (by omega)
      have q4 : (((List.range i).map fun i : Nat => mixI (x + 31 * (i : Int) * (i : Int) + 7 * (i : Int)) 9967 c).map PyData.int).length < LIM := by
        rw [List.length_map, List.length_map, List.length_range]
        exact Nat.lt_of_lt_of_le (show i < 1000 by omega) (by decide)
      refine ⟨_, [some (.fz (.tuple [.int p, .int c])), some (.fz (.int x)), some (.ow (((List.range (i + 1)).map fun i : Nat => mixI (x + 31 * (i : Int) * (i : Int) + 7 * (i : Int)) 9967 c).map PyData.int)), some (.fz (.int (i : Nat)))], rfl, ?_, _, rfl⟩
      rw [ei]
      simp only [dLits,  runD, runO, stD, dSeq, dIf, dSet, dSetO, dAug, dRet, dRetN, dRetO, dDrop, dFrz, dAppend, dExtend, dRemove, dFor, dVar, dC, d2, dCall, dOwnCall, dOwnCallO, dNil, dCons, dTup, dLstO, dOwn, dB, dTru, truD, dNotT, dAndT, dOrT, dAndV, dOrV, dNotV, dIfE, dIter, seqD, dRng1, dRng2, dEn, dZip, st0D, dYes, dNext, dNever, gN, gT, gZ, gC, DL.frz, resOf, dIsi, isi_ii, isi_ib, isi_tt, isi_ll, isi_lt, isi_tl, isi_nt, lenC, len_t, len_l, allC, tupC, dListO, dInO, sub_ii, lt_ii, le_ii, gt_ii, ge_ii, iadd_ii, mul_ii, mod_ii, fdiv_ii, add_ii, dSl, dNoPart, dPart, slD, dChain, dNeg, dAsg, dTruE, dLenE, dIxE, slD', dListRng, isND, notND, dEither, dSetD, dPut, dSetDK, dPutI, dGetE, dInE, dGet2E, slotD, kvGet, kvGetI, dLenK, dRev, dSortR, List.map_cons, List.map_nil, List.length_cons, List.length_nil, List.cons_append, List.nil_append, List.append_nil, List.getElem?_cons_zero, List.getElem?_cons_succ, List.getElem?_nil, List.set_cons_zero, List.set_cons_succ, List.replicate, Option.bind_some, Option.bind_none, Option.map_some, Option.map_none, Nat.reduceAdd, Nat.reduceSub, Nat.reduceEqDiff, ↓reduceIte, if_true, if_false, Bool.not_true, Bool.not_false, Bool.and_true, Bool.true_and, Bool.false_and, Bool.and_false, Bool.or_true, Bool.true_or, Bool.or_false, Bool.false_or, reduceCtorEq, Bool.false_eq_true, q1, q2, q3, q4, i1, m9]
      rw [List.range_succ, List.map_append, List.map_append]
      rfl)
  have len2 : (rangeD 0 p.toNat).length = p.toNat := by simp [rangeD]
  rw [len2] at e2
  subst e2
  have z : (0 : Nat) ≤ LIM := Nat.zero_le _
  simp only [F_law_code, B_law_code_tl, B_law_code_0, B_law_code_1, B_law_code_2, tupI, dLits,  runD, runO, stD, dSeq, dIf, dSet, dSetO, dAug, dRet, dRetN, dRetO, dDrop, dFrz, dAppend, dExtend, dRemove, dFor, dVar, dC, d2, dCall, dOwnCall, dOwnCallO, dNil, dCons, dTup, dLstO, dOwn, dB, dTru, truD, dNotT, dAndT, dOrT, dAndV, dOrV, dNotV, dIfE, dIter, seqD, dRng1, dRng2, dEn, dZip, st0D, dYes, dNext, dNever, gN, gT, gZ, gC, DL.frz, resOf, dIsi, isi_ii, isi_ib, isi_tt, isi_ll, isi_lt, isi_tl, isi_nt, lenC, len_t, len_l, allC, tupC, dListO, dInO, sub_ii, lt_ii, le_ii, gt_ii, ge_ii, iadd_ii, mul_ii, mod_ii, fdiv_ii, add_ii, dSl, dNoPart, dPart, slD, dChain, dNeg, dAsg, dTruE, dLenE, dIxE, slD', dListRng, isND, notND, dEither, dSetD, dPut, dSetDK, dPutI, dGetE, dInE, dGet2E, slotD, kvGet, kvGetI, dLenK, dRev, dSortR, List.map_cons, List.map_nil, List.length_cons, List.length_nil, List.cons_append, List.nil_append, List.append_nil, List.getElem?_cons_zero, List.getElem?_cons_succ, List.getElem?_nil, List.set_cons_zero, List.set_cons_succ, List.replicate, Option.bind_some, Option.bind_none, Option.map_some, Option.map_none, Nat.reduceAdd, Nat.reduceSub, Nat.reduceEqDiff, ↓reduceIte, if_true, if_false, Bool.not_true, Bool.not_false, Bool.and_true, Bool.true_and, Bool.false_and, Bool.and_false, Bool.or_true, Bool.true_or, Bool.or_false, Bool.false_or, reduceCtorEq, Bool.false_eq_true, z, i0, sm, e1]
  rfl
end GX
namespace GX
open PySem L2 DL
theorem intE (b : List Int) {i : Nat} (h : i < b.length) : (b.map PyData.int)[i]? = some (.int b[i]) := by rw [List.getElem?_map, List.getElem?_eq_getElem h]; rfl
theorem ixE (a : List Int) {i : Nat} (h : i < a.length) : ixD (.tuple (a.map PyData.int)) (.int (i : Nat)) = some (.int a[i]) := by
  show atI (a.map PyData.int) (i : Int) = _
  rw [atI_map, atI_nat' h]; rfl
theorem answer_of_ok {a b : List Int} (l : a.length = b.length) (lim : a.length ≤ 100) : Fanswer_of [tupI a, tupI b] = some (tupI (GC.ans a b)) := by
  obtain ⟨δ', e1, v1, v2, e2⟩ := loopD_of (fg := (gT 2 (gC (gN 5) (gC (gN 6) gZ)))) (fb := (dSeq (dIf (dB (d2 eqD (d2 ixD (dVar 0) (dVar 5)) (dVar 6))) (dAug 2 iaddD (dC (.int 1))) dNext) (dIf (dB (dInO false 4 (dVar 6))) (dSeq (dRemove 4 (dVar 6)) (dAug 3 iaddD (dC (.int 1)))) dNext))) (ds := enumD (b.map PyData.int))
    (δ := [some (.fz (.tuple (a.map PyData.int))), some (.fz (.tuple (b.map PyData.int))), some (.fz (.int 0)), some (.fz (.int 0)), some (.ow (a.map PyData.int)), none, none])
    (fun i δ => ∃ v1 v2, δ = [some (.fz (.tuple (a.map PyData.int))), some (.fz (.tuple (b.map PyData.int))), some (.fz (.int (GC.rgt (a.take i) (b.take i) : Nat))), some (.fz (.int (GC.inter a (b.take i) : Nat))), some (.ow ((GC.left a (b.take i)).map PyData.int)), v1, v2]) ⟨none, none, rfl⟩ (by
      rintro i hi δ ⟨v1, v2, rfl⟩
      have hi' : i < b.length := by simpa [enumD] using hi
      have hia : i < a.length := by omega
      have ed : (enumD (b.map PyData.int))[i] = .tuple [.int (i : Nat), .int b[i]] := by
        have := List.getElem?_eq_getElem hi
        obtain ⟨e, h1, h2⟩ := enumD_get this
        rw [intE b hi'] at h1
        cases h1
        exact h2
      have et : (a.take i).length = (b.take i).length := by rw [List.length_take, List.length_take]; omega
      have er : GC.rgt (a.take (i + 1)) (b.take (i + 1)) = GC.rgt (a.take i) (b.take i) + if a[i] = b[i] then 1 else 0 := by rw [GC.take_snoc hia, GC.take_snoc hi', GC.rgt_snoc _ _ _ _ et]
      have ei : GC.inter a (b.take (i + 1)) = GC.inter a (b.take i) + if b[i] ∈ GC.left a (b.take i) then 1 else 0 := by rw [GC.take_snoc hi', GC.inter_snoc]
      have eL : GC.left a (b.take (i + 1)) = if b[i] ∈ GC.left a (b.take i) then (GC.left a (b.take i)).erase b[i] else GC.left a (b.take i) := by rw [GC.take_snoc hi', GC.left_snoc]
      rw [ed]
      refine ⟨_, _, rfl, ?_, some (.fz (.int (i : Nat))), some (.fz (.int b[i])), rfl⟩
      rw [er, ei, eL]
      by_cases c1 : a[i] = b[i] <;> by_cases c2 : b[i] ∈ GC.left a (b.take i)
      · simp only [dLits,  runD, runO, stD, dSeq, dIf, dSet, dSetO, dAug, dRet, dRetN, dRetO, dDrop, dFrz, dAppend, dExtend, dRemove, dFor, dVar, dC, d2, dCall, dOwnCall, dOwnCallO, dNil, dCons, dTup, dLstO, dOwn, dB, dTru, truD, dNotT, dAndT, dOrT, dAndV, dOrV, dNotV, dIfE, dIter, seqD, dRng1, dRng2, dEn, dZip, st0D, dYes, dNext, dNever, gN, gT, gZ, gC, DL.frz, resOf, dIsi, isi_ii, isi_ib, isi_tt, isi_ll, isi_lt, isi_tl, isi_nt, lenC, len_t, len_l, allC, tupC, dListO, dInO, sub_ii, lt_ii, le_ii, gt_ii, ge_ii, iadd_ii, mul_ii, mod_ii, fdiv_ii, add_ii, dSl, dNoPart, dPart, slD, dChain, dNeg, dAsg, dTruE, dLenE, dIxE, slD', dListRng, isND, notND, dEither, dSetD, dPut, dSetDK, dPutI, dGetE, dInE, dGet2E, slotD, kvGet, kvGetI, dLenK, dRev, dSortR, List.map_cons, List.map_nil, List.length_cons, List.length_nil, List.cons_append, List.nil_append, List.append_nil, List.getElem?_cons_zero, List.getElem?_cons_succ, List.getElem?_nil, List.set_cons_zero, List.set_cons_succ, List.replicate, Option.bind_some, Option.bind_none, Option.map_some, Option.map_none, Nat.reduceAdd, Nat.reduceSub, Nat.reduceEqDiff, ↓reduceIte, if_true, if_false, Bool.not_true, Bool.not_false, Bool.and_true, Bool.true_and, Bool.false_and, Bool.and_false, Bool.or_true, Bool.true_or, Bool.or_false, Bool.false_or, reduceCtorEq, Bool.false_eq_true, ixE a hia, eqD_int, intsD_map, if_pos c1, if_pos c2, decide_eq_true c1, decide_eq_true c2]
        rfl
      · simp only [dLits,  runD, runO, stD, dSeq, dIf, dSet, dSetO, dAug, dRet, dRetN, dRetO, dDrop, dFrz, dAppend, dExtend, dRemove, dFor, dVar, dC, d2, dCall, dOwnCall, dOwnCallO, dNil, dCons, dTup, dLstO, dOwn, dB, dTru, truD, dNotT, dAndT, dOrT, dAndV, dOrV, dNotV, dIfE, dIter, seqD, dRng1, dRng2, dEn, dZip, st0D, dYes, dNext, dNever, gN, gT, gZ, gC, DL.frz, resOf, dIsi, isi_ii, isi_ib, isi_tt, isi_ll, isi_lt, isi_tl, isi_nt, lenC, len_t, len_l, allC, tupC, dListO, dInO, sub_ii, lt_ii, le_ii, gt_ii, ge_ii, iadd_ii, mul_ii, mod_ii, fdiv_ii, add_ii, dSl, dNoPart, dPart, slD, dChain, dNeg, dAsg, dTruE, dLenE, dIxE, slD', dListRng, isND, notND, dEither, dSetD, dPut, dSetDK, dPutI, dGetE, dInE, dGet2E, slotD, kvGet, kvGetI, dLenK, dRev, dSortR, List.map_cons, List.map_nil, List.length_cons, List.length_nil, List.cons_append, List.nil_append, List.append_nil, List.getElem?_cons_zero, List.getElem?_cons_succ, List.getElem?_nil, List.set_cons_zero, List.set_cons_succ, List.replicate, Option.bind_some, Option.bind_none, Option.map_some, Option.map_none, Nat.reduceAdd, Nat.reduceSub, Nat.reduceEqDiff, ↓reduceIte, if_true, if_false, Bool.not_true, Bool.not_false, Bool.and_true, Bool.true_and, Bool.false_and, Bool.and_false, Bool.or_true, Bool.true_or, Bool.or_false, Bool.false_or, reduceCtorEq, Bool.false_eq_true, ixE a hia, eqD_int, intsD_map, if_pos c1, if_neg c2, decide_eq_true c1, decide_eq_false c2]
        rfl
      · simp only [dLits,  runD, runO, stD, dSeq, dIf, dSet, dSetO, dAug, dRet, dRetN, dRetO, dDrop, dFrz, dAppend, dExtend, dRemove, dFor, dVar, dC, d2, dCall, dOwnCall, dOwnCallO, dNil, dCons, dTup, dLstO, dOwn, dB, dTru, truD, dNotT, dAndT, dOrT, dAndV, dOrV, dNotV, dIfE, dIter, seqD, dRng1, dRng2, dEn, dZip, st0D, dYes, dNext, dNever, gN, gT, gZ, gC, DL.frz, resOf, dIsi, isi_ii, isi_ib, isi_tt, isi_ll, isi_lt, isi_tl, isi_nt, lenC, len_t, len_l, allC, tupC, dListO, dInO, sub_ii, lt_ii, le_ii, gt_ii, ge_ii, iadd_ii, mul_ii, mod_ii, fdiv_ii, add_ii, dSl, dNoPart, dPart, slD, dChain, dNeg, dAsg, dTruE, dLenE, dIxE, slD', dListRng, isND, notND, dEither, dSetD, dPut, dSetDK, dPutI, dGetE, dInE, dGet2E, slotD, kvGet, kvGetI, dLenK, dRev, dSortR, List.map_cons, List.map_nil, List.length_cons, List.length_nil, List.cons_append, List.nil_append, List.append_nil, List.getElem?_cons_zero, List.getElem?_cons_succ, List.getElem?_nil, List.set_cons_zero, List.set_cons_succ, List.replicate, Option.bind_some, Option.bind_none, Option.map_some, Option.map_none, Nat.reduceAdd, Nat.reduceSub, Nat.reduceEqDiff, ↓reduceIte, if_true, if_false, Bool.not_true, Bool.not_false, Bool.and_true, Bool.true_and, Bool.false_and, Bool.and_false, Bool.or_true, Bool.true_or, Bool.or_false, Bool.false_or, reduceCtorEq, Bool.false_eq_true, ixE a hia, eqD_int, intsD_map, if_neg c1, if_pos c2, decide_eq_false c1, decide_eq_true c2]
        rfl
      · simp only [dLits,  runD, runO, stD, dSeq, dIf, dSet, dSetO, dAug, dRet, dRetN, dRetO, dDrop, dFrz, dAppend, dExtend, dRemove, dFor, dVar, dC, d2, dCall, dOwnCall, dOwnCallO, dNil, dCons, dTup, dLstO, dOwn, dB, dTru, truD, dNotT, dAndT, dOrT, dAndV, dOrV, dNotV, dIfE, dIter, seqD, dRng1, dRng2, dEn, dZip, st0D, dYes, dNext, dNever, gN, gT, gZ, gC, DL.frz, resOf, dIsi, isi_ii, isi_ib, isi_tt, isi_ll, isi_lt, isi_tl, isi_nt, lenC, len_t, len_l, allC, tupC, dListO, dInO, sub_ii, lt_ii, le_ii, gt_ii, ge_ii, iadd_ii, mul_ii, mod_ii, fdiv_ii, add_ii, dSl, dNoPart, dPart, slD, dChain, dNeg, dAsg, dTruE, dLenE, dIxE, slD', dListRng, isND, notND, dEither, dSetD, dPut, dSetDK, dPutI, dGetE, dInE, dGet2E, slotD, kvGet, kvGetI, dLenK, dRev, dSortR, List.map_cons, List.map_nil, List.length_cons, List.length_nil, List.cons_append, List.nil_append, List.append_nil, List.getElem?_cons_zero, List.getElem?_cons_succ, List.getElem?_nil, List.set_cons_zero, List.set_cons_succ, List.replicate, Option.bind_some, Option.bind_none, Option.map_some, Option.map_none, Nat.reduceAdd, Nat.reduceSub, Nat.reduceEqDiff, ↓reduceIte, if_true, if_false, Bool.not_true, Bool.not_false, Bool.and_true, Bool.true_and, Bool.false_and, Bool.and_false, Bool.or_true, Bool.true_or, Bool.or_false, Bool.false_or, reduceCtorEq, Bool.false_eq_true, ixE a hia, eqD_int, intsD_map, if_neg c1, if_neg c2, decide_eq_false c1, decide_eq_false c2]
        rfl)
  have len2 : (enumD (b.map PyData.int)).length = b.length := by simp [enumD]
  have e0 : a.take b.length = a := by rw [← l, List.take_length]
  rw [len2, List.take_length, e0] at e2
  subst e2
  have z : (2 : Nat) ≤ LIM := lit_le 2
  simp only [Fanswer_of, Banswer_of_tl, Banswer_of_0, Banswer_of_1, Banswer_of_2, Banswer_of_3, Banswer_of_4, tupI, dLits,  runD, runO, stD, dSeq, dIf, dSet, dSetO, dAug, dRet, dRetN, dRetO, dDrop, dFrz, dAppend, dExtend, dRemove, dFor, dVar, dC, d2, dCall, dOwnCall, dOwnCallO, dNil, dCons, dTup, dLstO, dOwn, dB, dTru, truD, dNotT, dAndT, dOrT, dAndV, dOrV, dNotV, dIfE, dIter, seqD, dRng1, dRng2, dEn, dZip, st0D, dYes, dNext, dNever, gN, gT, gZ, gC, DL.frz, resOf, dIsi, isi_ii, isi_ib, isi_tt, isi_ll, isi_lt, isi_tl, isi_nt, lenC, len_t, len_l, allC, tupC, dListO, dInO, sub_ii, lt_ii, le_ii, gt_ii, ge_ii, iadd_ii, mul_ii, mod_ii, fdiv_ii, add_ii, dSl, dNoPart, dPart, slD, dChain, dNeg, dAsg, dTruE, dLenE, dIxE, slD', dListRng, isND, notND, dEither, dSetD, dPut, dSetDK, dPutI, dGetE, dInE, dGet2E, slotD, kvGet, kvGetI, dLenK, dRev, dSortR, List.map_cons, List.map_nil, List.length_cons, List.length_nil, List.cons_append, List.nil_append, List.append_nil, List.getElem?_cons_zero, List.getElem?_cons_succ, List.getElem?_nil, List.set_cons_zero, List.set_cons_succ, List.replicate, Option.bind_some, Option.bind_none, Option.map_some, Option.map_none, Nat.reduceAdd, Nat.reduceSub, Nat.reduceEqDiff, ↓reduceIte, if_true, if_false, Bool.not_true, Bool.not_false, Bool.and_true, Bool.true_and, Bool.false_and, Bool.and_false, Bool.or_true, Bool.true_or, Bool.or_false, Bool.false_or, reduceCtorEq, Bool.false_eq_true, z, e1]
  rfl
theorem is_num_ok (n lo hi : Int) : Fis_number_within [.int n, .int lo, .int hi] = some (.bool (decide (lo ≤ n) && decide (n ≤ hi))) := by
  by_cases h : lo ≤ n
  · simp only [Fis_number_within, Bis_number_within_tl, Bis_number_within_0, dLits,  runD, runO, stD, dSeq, dIf, dSet, dSetO, dAug, dRet, dRetN, dRetO, dDrop, dFrz, dAppend, dExtend, dRemove, dFor, dVar, dC, d2, dCall, dOwnCall, dOwnCallO, dNil, dCons, dTup, dLstO, dOwn, dB, dTru, truD, dNotT, dAndT, dOrT, dAndV, dOrV, dNotV, dIfE, dIter, seqD, dRng1, dRng2, dEn, dZip, st0D, dYes, dNext, dNever, gN, gT, gZ, gC, DL.frz, resOf, dIsi, isi_ii, isi_ib, isi_tt, isi_ll, isi_lt, isi_tl, isi_nt, lenC, len_t, len_l, allC, tupC, dListO, dInO, sub_ii, lt_ii, le_ii, gt_ii, ge_ii, iadd_ii, mul_ii, mod_ii, fdiv_ii, add_ii, dSl, dNoPart, dPart, slD, dChain, dNeg, dAsg, dTruE, dLenE, dIxE, slD', dListRng, isND, notND, dEither, dSetD, dPut, dSetDK, dPutI, dGetE, dInE, dGet2E, slotD, kvGet, kvGetI, dLenK, dRev, dSortR, List.map_cons, List.map_nil, List.length_cons, List.length_nil, List.cons_append, List.nil_append, List.append_nil, List.getElem?_cons_zero, List.getElem?_cons_succ, List.getElem?_nil, List.set_cons_zero, List.set_cons_succ, List.replicate, Option.bind_some, Option.bind_none, Option.map_some, Option.map_none, Nat.reduceAdd, Nat.reduceSub, Nat.reduceEqDiff, ↓reduceIte, if_true, if_false, Bool.not_true, Bool.not_false, Bool.and_true, Bool.true_and, Bool.false_and, Bool.and_false, Bool.or_true, Bool.true_or, Bool.or_false, Bool.false_or, reduceCtorEq, Bool.false_eq_true, decide_eq_true h]
  · simp only [Fis_number_within, Bis_number_within_tl, Bis_number_within_0, dLits,  runD, runO, stD, dSeq, dIf, dSet, dSetO, dAug, dRet, dRetN, dRetO, dDrop, dFrz, dAppend, dExtend, dRemove, dFor, dVar, dC, d2, dCall, dOwnCall, dOwnCallO, dNil, dCons, dTup, dLstO, dOwn, dB, dTru, truD, dNotT, dAndT, dOrT, dAndV, dOrV, dNotV, dIfE, dIter, seqD, dRng1, dRng2, dEn, dZip, st0D, dYes, dNext, dNever, gN, gT, gZ, gC, DL.frz, resOf, dIsi, isi_ii, isi_ib, isi_tt, isi_ll, isi_lt, isi_tl, isi_nt, lenC, len_t, len_l, allC, tupC, dListO, dInO, sub_ii, lt_ii, le_ii, gt_ii, ge_ii, iadd_ii, mul_ii, mod_ii, fdiv_ii, add_ii, dSl, dNoPart, dPart, slD, dChain, dNeg, dAsg, dTruE, dLenE, dIxE, slD', dListRng, isND, notND, dEither, dSetD, dPut, dSetDK, dPutI, dGetE, dInE, dGet2E, slotD, kvGet, kvGetI, dLenK, dRev, dSortR, List.map_cons, List.map_nil, List.length_cons, List.length_nil, List.cons_append, List.nil_append, List.append_nil, List.getElem?_cons_zero, List.getElem?_cons_succ, List.getElem?_nil, List.set_cons_zero, List.set_cons_succ, List.replicate, Option.bind_some, Option.bind_none, Option.map_some, Option.map_none, Nat.reduceAdd, Nat.reduceSub, Nat.reduceEqDiff, ↓reduceIte, if_true, if_false, Bool.not_true, Bool.not_false, Bool.and_true, Bool.true_and, Bool.false_and, Bool.and_false, Bool.or_true, Bool.true_or, Bool.or_false, Bool.false_or, reduceCtorEq, Bool.false_eq_true, decide_eq_false h]
theorem checked_game_ok {p c : Int} (h : (p, c) ∈ games) : Fchecked_game [tupI [p, c]] = some (tupI [p, c]) := by
  rcases games_or h with ⟨rfl, rfl⟩ | ⟨rfl, rfl⟩ | ⟨rfl, rfl⟩ | ⟨rfl, rfl⟩ | ⟨rfl, rfl⟩ | ⟨rfl, rfl⟩ | ⟨rfl, rfl⟩ | ⟨rfl, rfl⟩ | ⟨rfl, rfl⟩ <;> rfl
theorem is_code_ok {p c : Int} (h : (p, c) ∈ games) {a : List Int} (ca : Code p c a) : Fis_code [tupI [p, c], tupI a] = some (.bool true) := by
  have b := games_b h
  have i0 : ixD (.tuple [.int p, .int c]) (.int 0) = some (.int p) := rfl
  have i1 : ixD (.tuple [.int p, .int c]) (.int 1) = some (.int c) := rfl
  have e0 : decide (((a.map PyData.int).length : Int) = p) = true := decide_eq_true (by rw [List.length_map]; exact ca.len)
  have al := ca.len
  have l1 : (a.map PyData.int).length ≤ LIM := by rw [List.length_map]; exact Nat.le_trans (show _ ≤ 1000 by omega) (by decide)
  have mm : (dCompO 1 [("game", 0)] (dIter (dVar 1)) (gN 0) dYes (dOwnCall 3 Fis_number_within (dCons (dVar 0) (dCons (dC (.int 0)) (dCons (d2 subD (d2 ixD (dVar 1) (dC (.int 1))) (dC (.int 1))) dNil))))) [some (.fz (.tuple [.int p, .int c])), some (.fz (.tuple (a.map PyData.int)))] = some ((a.map PyData.int).map fun _ => .bool true) := by
    refine dCompO_map _ rfl l1 fun d hd => ?_
    obtain ⟨n, hn, rfl⟩ := List.mem_map.mp hd
    have q := ca.all n hn
    simp only [dLits,  runD, runO, stD, dSeq, dIf, dSet, dSetO, dAug, dRet, dRetN, dRetO, dDrop, dFrz, dAppend, dExtend, dRemove, dFor, dVar, dC, d2, dCall, dOwnCall, dOwnCallO, dNil, dCons, dTup, dLstO, dOwn, dB, dTru, truD, dNotT, dAndT, dOrT, dAndV, dOrV, dNotV, dIfE, dIter, seqD, dRng1, dRng2, dEn, dZip, st0D, dYes, dNext, dNever, gN, gT, gZ, gC, DL.frz, resOf, dIsi, isi_ii, isi_ib, isi_tt, isi_ll, isi_lt, isi_tl, isi_nt, lenC, len_t, len_l, allC, tupC, dListO, dInO, sub_ii, lt_ii, le_ii, gt_ii, ge_ii, iadd_ii, mul_ii, mod_ii, fdiv_ii, add_ii, dSl, dNoPart, dPart, slD, dChain, dNeg, dAsg, dTruE, dLenE, dIxE, slD', dListRng, isND, notND, dEither, dSetD, dPut, dSetDK, dPutI, dGetE, dInE, dGet2E, slotD, kvGet, kvGetI, dLenK, dRev, dSortR, List.map_cons, List.map_nil, List.length_cons, List.length_nil, List.cons_append, List.nil_append, List.append_nil, List.getElem?_cons_zero, List.getElem?_cons_succ, List.getElem?_nil, List.set_cons_zero, List.set_cons_succ, List.replicate, Option.bind_some, Option.bind_none, Option.map_some, Option.map_none, Nat.reduceAdd, Nat.reduceSub, Nat.reduceEqDiff, ↓reduceIte, if_true, if_false, Bool.not_true, Bool.not_false, Bool.and_true, Bool.true_and, Bool.false_and, Bool.and_false, Bool.or_true, Bool.true_or, Bool.or_false, Bool.false_or, reduceCtorEq, Bool.false_eq_true, i1, is_num_ok, decide_eq_true q.1, decide_eq_true q.2]
  have bs : boolsD ((a.map PyData.int).map fun _ => PyData.bool true) = some ((a.map PyData.int).map fun _ => true) := by
    rw [show ((a.map PyData.int).map fun _ => PyData.bool true) = ((a.map PyData.int).map fun _ => true).map PyData.bool by simp]
    exact boolsD_map _
  have al2 : ((a.map PyData.int).map fun _ => true).all id = true := by simp
  simp only [Fis_code, Bis_code_tl, Bis_code_0, Bis_code_1, tupI, dLits,  runD, runO, stD, dSeq, dIf, dSet, dSetO, dAug, dRet, dRetN, dRetO, dDrop, dFrz, dAppend, dExtend, dRemove, dFor, dVar, dC, d2, dCall, dOwnCall, dOwnCallO, dNil, dCons, dTup, dLstO, dOwn, dB, dTru, truD, dNotT, dAndT, dOrT, dAndV, dOrV, dNotV, dIfE, dIter, seqD, dRng1, dRng2, dEn, dZip, st0D, dYes, dNext, dNever, gN, gT, gZ, gC, DL.frz, resOf, dIsi, isi_ii, isi_ib, isi_tt, isi_ll, isi_lt, isi_tl, isi_nt, lenC, len_t, len_l, allC, tupC, dListO, dInO, sub_ii, lt_ii, le_ii, gt_ii, ge_ii, iadd_ii, mul_ii, mod_ii, fdiv_ii, add_ii, dSl, dNoPart, dPart, slD, dChain, dNeg, dAsg, dTruE, dLenE, dIxE, slD', dListRng, isND, notND, dEither, dSetD, dPut, dSetDK, dPutI, dGetE, dInE, dGet2E, slotD, kvGet, kvGetI, dLenK, dRev, dSortR, List.map_cons, List.map_nil, List.length_cons, List.length_nil, List.cons_append, List.nil_append, List.append_nil, List.getElem?_cons_zero, List.getElem?_cons_succ, List.getElem?_nil, List.set_cons_zero, List.set_cons_succ, List.replicate, Option.bind_some, Option.bind_none, Option.map_some, Option.map_none, Nat.reduceAdd, Nat.reduceSub, Nat.reduceEqDiff, ↓reduceIte, if_true, if_false, Bool.not_true, Bool.not_false, Bool.and_true, Bool.true_and, Bool.false_and, Bool.and_false, Bool.or_true, Bool.true_or, Bool.or_false, Bool.false_or, reduceCtorEq, Bool.false_eq_true, i0, i1, neD_int, e0, l1, mm, bs, al2]
theorem checked_code_ok {p c : Int} (h : (p, c) ∈ games) {a : List Int} (ca : Code p c a) : Fchecked_code [tupI [p, c], tupI a] = some (tupI a) := by
  have q := is_code_ok h ca
  simp only [Fchecked_code, Bchecked_code_tl, Bchecked_code_0, Bchecked_code_1, dLits,  runD, runO, stD, dSeq, dIf, dSet, dSetO, dAug, dRet, dRetN, dRetO, dDrop, dFrz, dAppend, dExtend, dRemove, dFor, dVar, dC, d2, dCall, dOwnCall, dOwnCallO, dNil, dCons, dTup, dLstO, dOwn, dB, dTru, truD, dNotT, dAndT, dOrT, dAndV, dOrV, dNotV, dIfE, dIter, seqD, dRng1, dRng2, dEn, dZip, st0D, dYes, dNext, dNever, gN, gT, gZ, gC, DL.frz, resOf, dIsi, isi_ii, isi_ib, isi_tt, isi_ll, isi_lt, isi_tl, isi_nt, lenC, len_t, len_l, allC, tupC, dListO, dInO, sub_ii, lt_ii, le_ii, gt_ii, ge_ii, iadd_ii, mul_ii, mod_ii, fdiv_ii, add_ii, dSl, dNoPart, dPart, slD, dChain, dNeg, dAsg, dTruE, dLenE, dIxE, slD', dListRng, isND, notND, dEither, dSetD, dPut, dSetDK, dPutI, dGetE, dInE, dGet2E, slotD, kvGet, kvGetI, dLenK, dRev, dSortR, List.map_cons, List.map_nil, List.length_cons, List.length_nil, List.cons_append, List.nil_append, List.append_nil, List.getElem?_cons_zero, List.getElem?_cons_succ, List.getElem?_nil, List.set_cons_zero, List.set_cons_succ, List.replicate, Option.bind_some, Option.bind_none, Option.map_some, Option.map_none, Nat.reduceAdd, Nat.reduceSub, Nat.reduceEqDiff, ↓reduceIte, if_true, if_false, Bool.not_true, Bool.not_false, Bool.and_true, Bool.true_and, Bool.false_and, Bool.and_false, Bool.or_true, Bool.true_or, Bool.or_false, Bool.false_or, reduceCtorEq, Bool.false_eq_true, q]
theorem cut_from {a : List Int} {t : Int} (t0 : 0 ≤ t) (t1 : t ≤ a.length) : cutD (a.map PyData.int) (some t) none = (a.drop t.toNat).map PyData.int := by
  have s1 : HT.sIx a.length 0 (some t) = t.toNat := by
    show (if t < 0 then (t + (a.length : Int)).toNat else min t.toNat a.length) = t.toNat
    rw [if_neg (by omega)]; omega
  unfold cutD
  rw [List.length_map, s1, HT.sIx_none, ← List.map_drop, ← List.map_take, List.take_of_length_le (by rw [List.length_drop]; omega)]
end GX
namespace GX
open PySem L2 DL
def ext (c : Nat) (a : List Int) : List (List Int) := (List.range c).map fun k : Nat => a ++ [(k : Int)]
def codesN (c : Nat) : Nat → List (List Int)
  | 0 => [[]]
  | n + 1 => (codesN c n).flatMap (ext c)
def codes (p c : Int) : List (List Int) := codesN c.toNat p.toNat
def lstC (cs : List (List Int)) : PyData := .list (cs.map tupI)
theorem ext_len (c : Nat) (a : List Int) : (ext c a).length = c := by simp [ext]
theorem flat_len (c : Nat) : ∀ l : List (List Int), (l.flatMap (ext c)).length = l.length * c
  | [] => by simp
  | a :: r => by rw [List.flatMap_cons, List.length_append, ext_len, flat_len c r, List.length_cons, Nat.succ_mul]; omega
theorem codesN_len (c : Nat) : ∀ n, (codesN c n).length = c ^ n
  | 0 => rfl
  | n + 1 => by rw [codesN, flat_len, codesN_len c n, Nat.pow_succ]
theorem pow_small {c n : Nat} (hc : c ≤ 5) (hn : n ≤ 4) : c ^ n ≤ 625 := by
  refine Nat.le_trans (Nat.pow_le_pow_left hc n) (Nat.le_trans (Nat.pow_le_pow_right (by decide) hn) (by decide))
theorem codesN_mem (c : Nat) : ∀ n a, a ∈ codesN c n → a.length = n ∧ ∀ x ∈ a, 0 ≤ x ∧ x < (c : Int)
  | 0, a, h => by
    have : a = [] := by simpa [codesN] using h
    subst this
    exact ⟨rfl, fun x hx => by cases hx⟩
  | n + 1, a, h => by
    obtain ⟨b, hb, ha⟩ := List.mem_flatMap.mp h
    obtain ⟨k, hk, rfl⟩ := List.mem_map.mp ha
    have hk' : k < c := by simpa using hk
    obtain ⟨l, q⟩ := codesN_mem c n b hb
    refine ⟨by simp [l], fun x hx => ?_⟩
    rcases List.mem_append.mp hx with z | z
    · exact q x z
    · have : x = (k : Int) := by simpa using z
      omega
theorem codes_code {p c : Int} (h : (p, c) ∈ games) {a : List Int} (ha : a ∈ codes p c) : Code p c a := by
  have b := games_b h
  obtain ⟨l, q⟩ := codesN_mem _ _ _ ha
  refine ⟨by omega, fun n hn => ?_⟩
  have := q n hn
  omega
theorem codes_len {p c : Int} (h : (p, c) ∈ games) : (codes p c).length ≤ 625 := by
  have b := games_b h
  unfold codes
  rw [codesN_len]
  exact pow_small (by omega) (by omega)
theorem lim625 {n : Nat} (h : n ≤ 1000) : n ≤ LIM := Nat.le_trans h (by decide)
theorem add_one (a : List Int) (k : Int) (ha : a.length ≤ 100) : addD (tupI a) (.tuple [.int k]) = some (tupI (a ++ [k])) := by
  have q : (a.map PyData.int).length + [PyData.int k].length ≤ LIM := by rw [List.length_map]; exact lim625 (by simp; omega)
  unfold tupI
  rw [List.map_append]
  simp only [addD, q, ↓reduceIte]
  rfl
theorem range_int (c : Nat) : rangeD 0 c = (List.range c).map fun k : Nat => PyData.int (k : Int) := by
  unfold rangeD
  apply List.map_congr_left
  intro k _
  rw [Int.zero_add]
theorem comp_ext {nm : Str} {k : Nat} {c : Nat} {a : List Int} {fi : DSt → Option (List PyData)} {δ : DSt} (hi : fi δ = some (rangeD 0 c)) (hc : c ≤ 100) (ha : a.length ≤ 100) (hk : δ[k]? = some (some (.fz (tupI a)))) :
    dCompO 1 [(nm, k)] fi (gN 0) dYes (d2 addD (dVar 1) (dTup (dCons (dVar 0) dNil))) δ = some ((ext c a).map tupI) := by
  rw [dCompO_map (fun d => match d with | .int k => tupI (a ++ [k]) | d => d) hi (by simp [rangeD]; exact lim625 (by omega)) (fun d hd => ?_)]
  · rw [range_int, List.map_map, ext, List.map_map]
    rfl
  · rw [range_int] at hd
    obtain ⟨m, _, rfl⟩ := List.mem_map.mp hd
    have z : (1 : Nat) ≤ LIM := lit_le 1
    simp only [dLits,  runD, runO, stD, dSeq, dIf, dSet, dSetO, dAug, dRet, dRetN, dRetO, dDrop, dFrz, dAppend, dExtend, dRemove, dFor, dVar, dC, d2, dCall, dOwnCall, dOwnCallO, dNil, dCons, dTup, dLstO, dOwn, dB, dTru, truD, dNotT, dAndT, dOrT, dAndV, dOrV, dNotV, dIfE, dIter, seqD, dRng1, dRng2, dEn, dZip, st0D, dYes, dNext, dNever, gN, gT, gZ, gC, DL.frz, resOf, dIsi, isi_ii, isi_ib, isi_tt, isi_ll, isi_lt, isi_tl, isi_nt, lenC, len_t, len_l, allC, tupC, dListO, dInO, sub_ii, lt_ii, le_ii, gt_ii, ge_ii, iadd_ii, mul_ii, mod_ii, fdiv_ii, add_ii, dSl, dNoPart, dPart, slD, dChain, dNeg, dAsg, dTruE, dLenE, dIxE, slD', dListRng, isND, notND, dEither, dSetD, dPut, dSetDK, dPutI, dGetE, dInE, dGet2E, slotD, kvGet, kvGetI, dLenK, dRev, dSortR, List.map_cons, List.map_nil, List.length_cons, List.length_nil, List.cons_append, List.nil_append, List.append_nil, List.getElem?_cons_zero, List.getElem?_cons_succ, List.getElem?_nil, List.set_cons_zero, List.set_cons_succ, List.replicate, Option.bind_some, Option.bind_none, Option.map_some, Option.map_none, Nat.reduceAdd, Nat.reduceSub, Nat.reduceEqDiff, ↓reduceIte, if_true, if_false, Bool.not_true, Bool.not_false, Bool.and_true, Bool.true_and, Bool.false_and, Bool.and_false, Bool.or_true, Bool.true_or, Bool.or_false, Bool.false_or, reduceCtorEq, Bool.false_eq_true, hk, z, add_one a (m : Int) ha]
theorem rng_ok {c : Int} (h0 : 0 ≤ c) (h1 : c ≤ 1000) : smallI c = true := by
  unfold smallI
  rw [decide_eq_true (show -1000000000 ≤ c by omega), decide_eq_true (show c ≤ 1000000000 by omega)]; rfl
theorem take_flat {c : Nat} {l : List (List Int)} {j : Nat} (h : j < l.length) : (l.take (j + 1)).flatMap (ext c) = (l.take j).flatMap (ext c) ++ ext c l[j] := by
  rw [List.take_succ_eq_append_getElem h, List.flatMap_append]
  simp
theorem all_codes_ok {p c : Int} (h : (p, c) ∈ games) : Fall_codes [tupI [p, c]] = some (lstC (codes p c)) := by
  have b := games_b h
  have i0 : ixD (.tuple [.int p, .int c]) (.int 0) = some (.int p) := rfl
  have i1 : ixD (.tuple [.int p, .int c]) (.int 1) = some (.int c) := rfl
  have hg : Fchecked_game [.tuple [.int p, .int c]] = some (.tuple [.int p, .int c]) := checked_game_ok h
  have sp := rng_ok (c := p) (by omega) (by omega)
  have sc := rng_ok (c := c) (by omega) (by omega)
  have z : (0 : Nat) ≤ LIM := Nat.zero_le _
  have z1 : (1 : Nat) ≤ LIM := lit_le 1
  have inner : ∀ (i : Nat), i < p.toNat → ∀ v4 : Option Sl, ∃ w4, loopD ((gN 4)) ((dExtend 3 (dOwn (dCompO 1 [("code", 4)] (dRng1 (dCons (d2 ixD (dVar 0) (dC (.int 1))) dNil)) (gN 0) dYes (d2 addD (dVar 1) (dTup (dCons (dVar 0) dNil))))))) ((codesN c.toNat i).map tupI) [some (.fz (.tuple [.int p, .int c])), some (.fz (lstC (codesN c.toNat i))), some (.fz (.int (i : Nat))), some (.ow []), v4] =
      some (.nx [some (.fz (.tuple [.int p, .int c])), some (.fz (lstC (codesN c.toNat i))), some (.fz (.int (i : Nat))), some (.ow ((codesN c.toNat (i + 1)).map tupI)), w4]) := by
    intro i hi v4
    obtain ⟨δ', e1, w4, e2⟩ := loopD_of (fg := (gN 4)) (fb := (dExtend 3 (dOwn (dCompO 1 [("code", 4)] (dRng1 (dCons (d2 ixD (dVar 0) (dC (.int 1))) dNil)) (gN 0) dYes (d2 addD (dVar 1) (dTup (dCons (dVar 0) dNil))))))) (ds := (codesN c.toNat i).map tupI) (δ := [some (.fz (.tuple [.int p, .int c])), some (.fz (lstC (codesN c.toNat i))), some (.fz (.int (i : Nat))), some (.ow []), v4])
      (fun j δ => ∃ w4, δ = [some (.fz (.tuple [.int p, .int c])), some (.fz (lstC (codesN c.toNat i))), some (.fz (.int (i : Nat))), some (.ow ((((codesN c.toNat i).take j).flatMap (ext c.toNat)).map tupI)), w4]) ⟨v4, rfl⟩ (by
        rintro j hj δ ⟨w4, rfl⟩
        have hj' : j < (codesN c.toNat i).length := by simpa using hj
        have ed : ((codesN c.toNat i).map tupI)[j] = tupI (codesN c.toNat i)[j] := by simp
        have hm : (codesN c.toNat i)[j] ∈ codesN c.toNat i := List.getElem_mem hj'
        have hl := (codesN_mem _ _ _ hm).1
        have hz : ((((codesN c.toNat i).take j).flatMap (ext c.toNat)).map tupI).length + ((ext c.toNat (codesN c.toNat i)[j]).map tupI).length ≤ LIM := by
          rw [List.length_map, List.length_map, flat_len, ext_len, List.length_take, codesN_len]
          have q1 : c.toNat ^ i.succ ≤ 625 := pow_small (by omega) (by omega)
          rw [codesN_len] at hj'
          have q2 : (j + 1) * c.toNat ≤ c.toNat ^ i * c.toNat := Nat.mul_le_mul_right _ hj'
          rw [← Nat.pow_succ] at q2
          have q3 : min j (c.toNat ^ i) = j := Nat.min_eq_left (Nat.le_of_lt hj')
          rw [q3]
          have q4 : (j + 1) * c.toNat = j * c.toNat + c.toNat := Nat.succ_mul _ _
          exact lim625 (by omega)
        rw [ed]
        refine ⟨_, _, rfl, ?_, some (.fz (tupI (codesN c.toNat i)[j])), rfl⟩
        have cx := comp_ext (nm := "code") (k := 4) (c := c.toNat) (a := (codesN c.toNat i)[j]) (fi := dRng1 (dCons (d2 ixD (dVar 0) (dC (.int 1))) dNil)) (δ := [some (.fz (.tuple [.int p, .int c])), some (.fz (lstC (codesN c.toNat i))), some (.fz (.int (i : Nat))), some (.ow ((((codesN c.toNat i).take j).flatMap (ext c.toNat)).map tupI)), some (.fz (tupI (codesN c.toNat i)[j]))])
          (by simp only [dLits,  runD, runO, stD, dSeq, dIf, dSet, dSetO, dAug, dRet, dRetN, dRetO, dDrop, dFrz, dAppend, dExtend, dRemove, dFor, dVar, dC, d2, dCall, dOwnCall, dOwnCallO, dNil, dCons, dTup, dLstO, dOwn, dB, dTru, truD, dNotT, dAndT, dOrT, dAndV, dOrV, dNotV, dIfE, dIter, seqD, dRng1, dRng2, dEn, dZip, st0D, dYes, dNext, dNever, gN, gT, gZ, gC, DL.frz, resOf, dIsi, isi_ii, isi_ib, isi_tt, isi_ll, isi_lt, isi_tl, isi_nt, lenC, len_t, len_l, allC, tupC, dListO, dInO, sub_ii, lt_ii, le_ii, gt_ii, ge_ii, iadd_ii, mul_ii, mod_ii, fdiv_ii, add_ii, dSl, dNoPart, dPart, slD, dChain, dNeg, dAsg, dTruE, dLenE, dIxE, slD', dListRng, isND, notND, dEither, dSetD, dPut, dSetDK, dPutI, dGetE, dInE, dGet2E, slotD, kvGet, kvGetI, dLenK, dRev, dSortR, List.map_cons, List.map_nil, List.length_cons, List.length_nil, List.cons_append, List.nil_append, List.append_nil, List.getElem?_cons_zero, List.getElem?_cons_succ, List.getElem?_nil, List.set_cons_zero, List.set_cons_succ, List.replicate, Option.bind_some, Option.bind_none, Option.map_some, Option.map_none, Nat.reduceAdd, Nat.reduceSub, Nat.reduceEqDiff, ↓reduceIte, if_true, if_false, Bool.not_true, Bool.not_false, Bool.and_true, Bool.true_and, Bool.false_and, Bool.and_false, Bool.or_true, Bool.true_or, Bool.or_false, Bool.false_or, reduceCtorEq, Bool.false_eq_true, i1, sc]) (by omega) (by omega) rfl
        simp only [dLits,  runD, runO, stD, dSeq, dIf, dSet, dSetO, dAug, dRet, dRetN, dRetO, dDrop, dFrz, dAppend, dExtend, dRemove, dFor, dVar, dC, d2, dCall, dOwnCall, dOwnCallO, dNil, dCons, dTup, dLstO, dOwn, dB, dTru, truD, dNotT, dAndT, dOrT, dAndV, dOrV, dNotV, dIfE, dIter, seqD, dRng1, dRng2, dEn, dZip, st0D, dYes, dNext, dNever, gN, gT, gZ, gC, DL.frz, resOf, dIsi, isi_ii, isi_ib, isi_tt, isi_ll, isi_lt, isi_tl, isi_nt, lenC, len_t, len_l, allC, tupC, dListO, dInO, sub_ii, lt_ii, le_ii, gt_ii, ge_ii, iadd_ii, mul_ii, mod_ii, fdiv_ii, add_ii, dSl, dNoPart, dPart, slD, dChain, dNeg, dAsg, dTruE, dLenE, dIxE, slD', dListRng, isND, notND, dEither, dSetD, dPut, dSetDK, dPutI, dGetE, dInE, dGet2E, slotD, kvGet, kvGetI, dLenK, dRev, dSortR, List.map_cons, List.map_nil, List.length_cons, List.length_nil, List.cons_append, List.nil_append, List.append_nil, List.getElem?_cons_zero, List.getElem?_cons_succ, List.getElem?_nil, List.set_cons_zero, List.set_cons_succ, List.replicate, Option.bind_some, Option.bind_none, Option.map_some, Option.map_none, Nat.reduceAdd, Nat.reduceSub, Nat.reduceEqDiff, ↓reduceIte, if_true, if_false, Bool.not_true, Bool.not_false, Bool.and_true, Bool.true_and, Bool.false_and, Bool.and_false, Bool.or_true, Bool.true_or, Bool.or_false, Bool.false_or, reduceCtorEq, Bool.false_eq_true, cx, hz]
        rw [take_flat hj', List.map_append])
    rw [List.length_map, List.take_length] at e2
    subst e2
    exact ⟨w4, e1⟩
  obtain ⟨δ', e1, v2, v3, v4, e2⟩ := loopD_of (fg := (gN 2)) (fb := (dSeq (dSetO 3 (dLstO dNil)) (dSeq (dFor (dIter (dVar 1)) (gN 4) (dExtend 3 (dOwn (dCompO 1 [("code", 4)] (dRng1 (dCons (d2 ixD (dVar 0) (dC (.int 1))) dNil)) (gN 0) dYes (d2 addD (dVar 1) (dTup (dCons (dVar 0) dNil))))))) (dFrz 3 (dSet 1 (dVar 3)))))) (ds := rangeD 0 p.toNat) (δ := [some (.fz (.tuple [.int p, .int c])), some (.fz (.list [.tuple []])), none, none, none])
    (fun i δ => ∃ v2 v3 v4, δ = [some (.fz (.tuple [.int p, .int c])), some (.fz (lstC (codesN c.toNat i))), v2, v3, v4]) ⟨none, none, none, rfl⟩ (by
      rintro i hi δ ⟨v2, v3, v4, rfl⟩
      have hi' : i < p.toNat := by simpa [rangeD] using hi
      have ed : (rangeD 0 p.toNat)[i] = .int (i : Nat) := by simp [rangeD]
      obtain ⟨w4, f1⟩ := inner i hi' v4
      rw [ed]
      refine ⟨_, [some (.fz (.tuple [.int p, .int c])), some (.fz (lstC (codesN c.toNat (i + 1)))), some (.fz (.int (i : Nat))), some (.fz (lstC (codesN c.toNat (i + 1)))), w4], rfl, ?_, _, _, _, rfl⟩
      unfold lstC at f1 ⊢
      simp only [dLits,  runD, runO, stD, dSeq, dIf, dSet, dSetO, dAug, dRet, dRetN, dRetO, dDrop, dFrz, dAppend, dExtend, dRemove, dFor, dVar, dC, d2, dCall, dOwnCall, dOwnCallO, dNil, dCons, dTup, dLstO, dOwn, dB, dTru, truD, dNotT, dAndT, dOrT, dAndV, dOrV, dNotV, dIfE, dIter, seqD, dRng1, dRng2, dEn, dZip, st0D, dYes, dNext, dNever, gN, gT, gZ, gC, DL.frz, resOf, dIsi, isi_ii, isi_ib, isi_tt, isi_ll, isi_lt, isi_tl, isi_nt, lenC, len_t, len_l, allC, tupC, dListO, dInO, sub_ii, lt_ii, le_ii, gt_ii, ge_ii, iadd_ii, mul_ii, mod_ii, fdiv_ii, add_ii, dSl, dNoPart, dPart, slD, dChain, dNeg, dAsg, dTruE, dLenE, dIxE, slD', dListRng, isND, notND, dEither, dSetD, dPut, dSetDK, dPutI, dGetE, dInE, dGet2E, slotD, kvGet, kvGetI, dLenK, dRev, dSortR, List.map_cons, List.map_nil, List.length_cons, List.length_nil, List.cons_append, List.nil_append, List.append_nil, List.getElem?_cons_zero, List.getElem?_cons_succ, List.getElem?_nil, List.set_cons_zero, List.set_cons_succ, List.replicate, Option.bind_some, Option.bind_none, Option.map_some, Option.map_none, Nat.reduceAdd, Nat.reduceSub, Nat.reduceEqDiff, ↓reduceIte, if_true, if_false, Bool.not_true, Bool.not_false, Bool.and_true, Bool.true_and, Bool.false_and, Bool.and_false, Bool.or_true, Bool.true_or, Bool.or_false, Bool.false_or, reduceCtorEq, Bool.false_eq_true, z, f1])
  have len2 : (rangeD 0 p.toNat).length = p.toNat := by simp [rangeD]
  rw [len2] at e2
  subst e2
  simp only [Fall_codes, Ball_codes_tl, Ball_codes_0, Ball_codes_1, Ball_codes_2, Ball_codes_3, tupI, dLits,  runD, runO, stD, dSeq, dIf, dSet, dSetO, dAug, dRet, dRetN, dRetO, dDrop, dFrz, dAppend, dExtend, dRemove, dFor, dVar, dC, d2, dCall, dOwnCall, dOwnCallO, dNil, dCons, dTup, dLstO, dOwn, dB, dTru, truD, dNotT, dAndT, dOrT, dAndV, dOrV, dNotV, dIfE, dIter, seqD, dRng1, dRng2, dEn, dZip, st0D, dYes, dNext, dNever, gN, gT, gZ, gC, DL.frz, resOf, dIsi, isi_ii, isi_ib, isi_tt, isi_ll, isi_lt, isi_tl, isi_nt, lenC, len_t, len_l, allC, tupC, dListO, dInO, sub_ii, lt_ii, le_ii, gt_ii, ge_ii, iadd_ii, mul_ii, mod_ii, fdiv_ii, add_ii, dSl, dNoPart, dPart, slD, dChain, dNeg, dAsg, dTruE, dLenE, dIxE, slD', dListRng, isND, notND, dEither, dSetD, dPut, dSetDK, dPutI, dGetE, dInE, dGet2E, slotD, kvGet, kvGetI, dLenK, dRev, dSortR, List.map_cons, List.map_nil, List.length_cons, List.length_nil, List.cons_append, List.nil_append, List.append_nil, List.getElem?_cons_zero, List.getElem?_cons_succ, List.getElem?_nil, List.set_cons_zero, List.set_cons_succ, List.replicate, Option.bind_some, Option.bind_none, Option.map_some, Option.map_none, Nat.reduceAdd, Nat.reduceSub, Nat.reduceEqDiff, ↓reduceIte, if_true, if_false, Bool.not_true, Bool.not_false, Bool.and_true, Bool.true_and, Bool.false_and, Bool.and_false, Bool.or_true, Bool.true_or, Bool.or_false, Bool.false_or, reduceCtorEq, Bool.false_eq_true, hg, z, z1, i0, sp, e1]
  rfl
theorem law_codes_ok {p c : Int} (h : (p, c) ∈ games) : F_law_codes [tupI [p, c]] = some (lstC (codes p c)) := by
  have b := games_b h
  have i0 : ixD (.tuple [.int p, .int c]) (.int 0) = some (.int p) := rfl
  have i1 : ixD (.tuple [.int p, .int c]) (.int 1) = some (.int c) := rfl
  have sp := rng_ok (c := p) (by omega) (by omega)
  have sc := rng_ok (c := c) (by omega) (by omega)
  have z : (0 : Nat) ≤ LIM := Nat.zero_le _
  have z1 : (1 : Nat) ≤ LIM := lit_le 1
  have inner : ∀ (i : Nat), i < p.toNat → ∀ v4 : Option Sl, ∃ w4, loopD ((gN 4)) ((dSet 3 (d2 addD (dVar 3) (dOwn (dCompO 1 [("_law_code_here", 4)] (dRng1 (dCons (d2 ixD (dVar 0) (dC (.int 1))) dNil)) (gN 0) dYes (d2 addD (dVar 1) (dTup (dCons (dVar 0) dNil)))))))) ((codesN c.toNat i).map tupI) [some (.fz (.tuple [.int p, .int c])), some (.fz (lstC (codesN c.toNat i))), some (.fz (.int (i : Nat))), some (.fz (.list [])), v4] =
      some (.nx [some (.fz (.tuple [.int p, .int c])), some (.fz (lstC (codesN c.toNat i))), some (.fz (.int (i : Nat))), some (.fz (lstC (codesN c.toNat (i + 1)))), w4]) := by
    intro i hi v4
    obtain ⟨δ', e1, w4, e2⟩ := loopD_of (fg := (gN 4)) (fb := (dSet 3 (d2 addD (dVar 3) (dOwn (dCompO 1 [("_law_code_here", 4)] (dRng1 (dCons (d2 ixD (dVar 0) (dC (.int 1))) dNil)) (gN 0) dYes (d2 addD (dVar 1) (dTup (dCons (dVar 0) dNil)))))))) (ds := (codesN c.toNat i).map tupI) (δ := [some (.fz (.tuple [.int p, .int c])), some (.fz (lstC (codesN c.toNat i))), some (.fz (.int (i : Nat))), some (.fz (.list [])), v4])
      (fun j δ => ∃ w4, δ = [some (.fz (.tuple [.int p, .int c])), some (.fz (lstC (codesN c.toNat i))), some (.fz (.int (i : Nat))), some (.fz (.list ((((codesN c.toNat i).take j).flatMap (ext c.toNat)).map tupI))), w4]) ⟨v4, rfl⟩ (by
        rintro j hj δ ⟨w4, rfl⟩
        have hj' : j < (codesN c.toNat i).length := by simpa using hj
        have ed : ((codesN c.toNat i).map tupI)[j] = tupI (codesN c.toNat i)[j] := by simp
        have hm : (codesN c.toNat i)[j] ∈ codesN c.toNat i := List.getElem_mem hj'
        have hl := (codesN_mem _ _ _ hm).1
        have hz : ((((codesN c.toNat i).take j).flatMap (ext c.toNat)).map tupI).length + ((ext c.toNat (codesN c.toNat i)[j]).map tupI).length ≤ LIM := by
          rw [List.length_map, List.length_map, flat_len, ext_len, List.length_take, codesN_len]
          have q1 : c.toNat ^ i.succ ≤ 625 := pow_small (by omega) (by omega)
          rw [codesN_len] at hj'
          have q2 : (j + 1) * c.toNat ≤ c.toNat ^ i * c.toNat := Nat.mul_le_mul_right _ hj'
          rw [← Nat.pow_succ] at q2
          have q3 : min j (c.toNat ^ i) = j := Nat.min_eq_left (Nat.le_of_lt hj')
          rw [q3]
          have q4 : (j + 1) * c.toNat = j * c.toNat + c.toNat := Nat.succ_mul _ _
          exact lim625 (by omega)
        have ad : addD (.list ((((codesN c.toNat i).take j).flatMap (ext c.toNat)).map tupI)) (.list ((ext c.toNat (codesN c.toNat i)[j]).map tupI)) = some (.list ((((codesN c.toNat i).take (j + 1)).flatMap (ext c.toNat)).map tupI)) := by
          rw [take_flat hj', List.map_append]
          simp only [addD, hz, ↓reduceIte]
        rw [ed]
        refine ⟨_, _, rfl, ?_, some (.fz (tupI (codesN c.toNat i)[j])), rfl⟩
        have cx := comp_ext (nm := "_law_code_here") (k := 4) (c := c.toNat) (a := (codesN c.toNat i)[j]) (fi := dRng1 (dCons (d2 ixD (dVar 0) (dC (.int 1))) dNil)) (δ := [some (.fz (.tuple [.int p, .int c])), some (.fz (lstC (codesN c.toNat i))), some (.fz (.int (i : Nat))), some (.fz (.list ((((codesN c.toNat i).take j).flatMap (ext c.toNat)).map tupI))), some (.fz (tupI (codesN c.toNat i)[j]))])
          (by simp only [dLits,  runD, runO, stD, dSeq, dIf, dSet, dSetO, dAug, dRet, dRetN, dRetO, dDrop, dFrz, dAppend, dExtend, dRemove, dFor, dVar, dC, d2, dCall, dOwnCall, dOwnCallO, dNil, dCons, dTup, dLstO, dOwn, dB, dTru, truD, dNotT, dAndT, dOrT, dAndV, dOrV, dNotV, dIfE, dIter, seqD, dRng1, dRng2, dEn, dZip, st0D, dYes, dNext, dNever, gN, gT, gZ, gC, DL.frz, resOf, dIsi, isi_ii, isi_ib, isi_tt, isi_ll, isi_lt, isi_tl, isi_nt, lenC, len_t, len_l, allC, tupC, dListO, dInO, sub_ii, lt_ii, le_ii, gt_ii, ge_ii, iadd_ii, mul_ii, mod_ii, fdiv_ii, add_ii, dSl, dNoPart, dPart, slD, dChain, dNeg, dAsg, dTruE, dLenE, dIxE, slD', dListRng, isND, notND, dEither, dSetD, dPut, dSetDK, dPutI, dGetE, dInE, dGet2E, slotD, kvGet, kvGetI, dLenK, dRev, dSortR, List.map_cons, List.map_nil, List.length_cons, List.length_nil, List.cons_append, List.nil_append, List.append_nil, List.getElem?_cons_zero, List.getElem?_cons_succ, List.getElem?_nil, List.set_cons_zero, List.set_cons_succ, List.replicate, Option.bind_some, Option.bind_none, Option.map_some, Option.map_none, Nat.reduceAdd, Nat.reduceSub, Nat.reduceEqDiff, ↓reduceIte, if_true, if_false, Bool.not_true, Bool.not_false, Bool.and_true, Bool.true_and, Bool.false_and, Bool.and_false, Bool.or_true, Bool.true_or, Bool.or_false, Bool.false_or, reduceCtorEq, Bool.false_eq_true, i1, sc]) (by omega) (by omega) rfl
        simp only [dLits,  runD, runO, stD, dSeq, dIf, dSet, dSetO, dAug, dRet, dRetN, dRetO, dDrop, dFrz, dAppend, dExtend, dRemove, dFor, dVar, dC, d2, dCall, dOwnCall, dOwnCallO, dNil, dCons, dTup, dLstO, dOwn, dB, dTru, truD, dNotT, dAndT, dOrT, dAndV, dOrV, dNotV, dIfE, dIter, seqD, dRng1, dRng2, dEn, dZip, st0D, dYes, dNext, dNever, gN, gT, gZ, gC, DL.frz, resOf, dIsi, isi_ii, isi_ib, isi_tt, isi_ll, isi_lt, isi_tl, isi_nt, lenC, len_t, len_l, allC, tupC, dListO, dInO, sub_ii, lt_ii, le_ii, gt_ii, ge_ii, iadd_ii, mul_ii, mod_ii, fdiv_ii, add_ii, dSl, dNoPart, dPart, slD, dChain, dNeg, dAsg, dTruE, dLenE, dIxE, slD', dListRng, isND, notND, dEither, dSetD, dPut, dSetDK, dPutI, dGetE, dInE, dGet2E, slotD, kvGet, kvGetI, dLenK, dRev, dSortR, List.map_cons, List.map_nil, List.length_cons, List.length_nil, List.cons_append, List.nil_append, List.append_nil, List.getElem?_cons_zero, List.getElem?_cons_succ, List.getElem?_nil, List.set_cons_zero, List.set_cons_succ, List.replicate, Option.bind_some, Option.bind_none, Option.map_some, Option.map_none, Nat.reduceAdd, Nat.reduceSub, Nat.reduceEqDiff, ↓reduceIte, if_true, if_false, Bool.not_true, Bool.not_false, Bool.and_true, Bool.true_and, Bool.false_and, Bool.and_false, Bool.or_true, Bool.true_or, Bool.or_false, Bool.false_or, reduceCtorEq, Bool.false_eq_true, cx, ad])
    rw [List.length_map, List.take_length] at e2
    subst e2
    exact ⟨w4, e1⟩
  obtain ⟨δ', e1, v2, v3, v4, e2⟩ := loopD_of (fg := (gN 2)) (fb := (dSeq (dSet 3 (dOwn (dLstO dNil))) (dSeq (dFor (dIter (dVar 1)) (gN 4) (dSet 3 (d2 addD (dVar 3) (dOwn (dCompO 1 [("_law_code_here", 4)] (dRng1 (dCons (d2 ixD (dVar 0) (dC (.int 1))) dNil)) (gN 0) dYes (d2 addD (dVar 1) (dTup (dCons (dVar 0) dNil)))))))) (dSet 1 (dVar 3))))) (ds := rangeD 0 p.toNat) (δ := [some (.fz (.tuple [.int p, .int c])), some (.fz (.list [.tuple []])), none, none, none])
    (fun i δ => ∃ v2 v3 v4, δ = [some (.fz (.tuple [.int p, .int c])), some (.fz (lstC (codesN c.toNat i))), v2, v3, v4]) ⟨none, none, none, rfl⟩ (by
      rintro i hi δ ⟨v2, v3, v4, rfl⟩
      have hi' : i < p.toNat := by simpa [rangeD] using hi
      have ed : (rangeD 0 p.toNat)[i] = .int (i : Nat) := by simp [rangeD]
      obtain ⟨w4, f1⟩ := inner i hi' v4
      rw [ed]
      refine ⟨_, [some (.fz (.tuple [.int p, .int c])), some (.fz (lstC (codesN c.toNat (i + 1)))), some (.fz (.int (i : Nat))), some (.fz (lstC (codesN c.toNat (i + 1)))), w4], rfl, ?_, _, _, _, rfl⟩
      unfold lstC at f1 ⊢
      simp only [dLits,  runD, runO, stD, dSeq, dIf, dSet, dSetO, dAug, dRet, dRetN, dRetO, dDrop, dFrz, dAppend, dExtend, dRemove, dFor, dVar, dC, d2, dCall, dOwnCall, dOwnCallO, dNil, dCons, dTup, dLstO, dOwn, dB, dTru, truD, dNotT, dAndT, dOrT, dAndV, dOrV, dNotV, dIfE, dIter, seqD, dRng1, dRng2, dEn, dZip, st0D, dYes, dNext, dNever, gN, gT, gZ, gC, DL.frz, resOf, dIsi, isi_ii, isi_ib, isi_tt, isi_ll, isi_lt, isi_tl, isi_nt, lenC, len_t, len_l, allC, tupC, dListO, dInO, sub_ii, lt_ii, le_ii, gt_ii, ge_ii, iadd_ii, mul_ii, mod_ii, fdiv_ii, add_ii, dSl, dNoPart, dPart, slD, dChain, dNeg, dAsg, dTruE, dLenE, dIxE, slD', dListRng, isND, notND, dEither, dSetD, dPut, dSetDK, dPutI, dGetE, dInE, dGet2E, slotD, kvGet, kvGetI, dLenK, dRev, dSortR, List.map_cons, List.map_nil, List.length_cons, List.length_nil, List.cons_append, List.nil_append, List.append_nil, List.getElem?_cons_zero, List.getElem?_cons_succ, List.getElem?_nil, List.set_cons_zero, List.set_cons_succ, List.replicate, Option.bind_some, Option.bind_none, Option.map_some, Option.map_none, Nat.reduceAdd, Nat.reduceSub, Nat.reduceEqDiff, ↓reduceIte, if_true, if_false, Bool.not_true, Bool.not_false, Bool.and_true, Bool.true_and, Bool.false_and, Bool.and_false, Bool.or_true, Bool.true_or, Bool.or_false, Bool.false_or, reduceCtorEq, Bool.false_eq_true, z, f1])
  have len2 : (rangeD 0 p.toNat).length = p.toNat := by simp [rangeD]
  rw [len2] at e2
  subst e2
  simp only [F_law_codes, B_law_codes_tl, B_law_codes_0, B_law_codes_1, B_law_codes_2, tupI, dLits,  runD, runO, stD, dSeq, dIf, dSet, dSetO, dAug, dRet, dRetN, dRetO, dDrop, dFrz, dAppend, dExtend, dRemove, dFor, dVar, dC, d2, dCall, dOwnCall, dOwnCallO, dNil, dCons, dTup, dLstO, dOwn, dB, dTru, truD, dNotT, dAndT, dOrT, dAndV, dOrV, dNotV, dIfE, dIter, seqD, dRng1, dRng2, dEn, dZip, st0D, dYes, dNext, dNever, gN, gT, gZ, gC, DL.frz, resOf, dIsi, isi_ii, isi_ib, isi_tt, isi_ll, isi_lt, isi_tl, isi_nt, lenC, len_t, len_l, allC, tupC, dListO, dInO, sub_ii, lt_ii, le_ii, gt_ii, ge_ii, iadd_ii, mul_ii, mod_ii, fdiv_ii, add_ii, dSl, dNoPart, dPart, slD, dChain, dNeg, dAsg, dTruE, dLenE, dIxE, slD', dListRng, isND, notND, dEither, dSetD, dPut, dSetDK, dPutI, dGetE, dInE, dGet2E, slotD, kvGet, kvGetI, dLenK, dRev, dSortR, List.map_cons, List.map_nil, List.length_cons, List.length_nil, List.cons_append, List.nil_append, List.append_nil, List.getElem?_cons_zero, List.getElem?_cons_succ, List.getElem?_nil, List.set_cons_zero, List.set_cons_succ, List.replicate, Option.bind_some, Option.bind_none, Option.map_some, Option.map_none, Nat.reduceAdd, Nat.reduceSub, Nat.reduceEqDiff, ↓reduceIte, if_true, if_false, Bool.not_true, Bool.not_false, Bool.and_true, Bool.true_and, Bool.false_and, Bool.and_false, Bool.or_true, Bool.true_or, Bool.or_false, Bool.false_or, reduceCtorEq, Bool.false_eq_true, z, z1, i0, sp, e1]
  rfl
end GX
namespace GX
open PySem L2 DL
abbrev Ask := List Int × List Int
def encA (a : Ask) : PyData := .tuple [tupI a.1, tupI a.2]
def lstA (as : List Ask) : PyData := .list (as.map encA)
structure AskOk (p c : Int) (a : Ask) : Prop where
  code : Code p c a.1
  two : a.2.length = 2
  b : ∀ n ∈ a.2, 0 ≤ n ∧ n ≤ p
def fits (as : List Ask) (x : List Int) : Bool := as.all fun a => decide (GC.ans x a.1 = a.2)
theorem ix0 (a : Ask) : ixD (encA a) (.int 0) = some (tupI a.1) := rfl
theorem ix1 (a : Ask) : ixD (encA a) (.int 1) = some (tupI a.2) := rfl
theorem fits_ask_ok {p c : Int} (h : (p, c) ∈ games) {x : List Int} (cx : Code p c x) {a : Ask} (ha : AskOk p c a) : Ffits_ask [tupI x, encA a] = some (.bool (decide (GC.ans x a.1 = a.2))) := by
  have b := games_b h
  have l1 := cx.len
  have l2 := ha.code.len
  have q := answer_of_ok (a := x) (b := a.1) (by omega) (by omega)
  simp only [Ffits_ask, Bfits_ask_tl, Bfits_ask_0, dLits,  runD, runO, stD, dSeq, dIf, dSet, dSetO, dAug, dRet, dRetN, dRetO, dDrop, dFrz, dAppend, dExtend, dRemove, dFor, dVar, dC, d2, dCall, dOwnCall, dOwnCallO, dNil, dCons, dTup, dLstO, dOwn, dB, dTru, truD, dNotT, dAndT, dOrT, dAndV, dOrV, dNotV, dIfE, dIter, seqD, dRng1, dRng2, dEn, dZip, st0D, dYes, dNext, dNever, gN, gT, gZ, gC, DL.frz, resOf, dIsi, isi_ii, isi_ib, isi_tt, isi_ll, isi_lt, isi_tl, isi_nt, lenC, len_t, len_l, allC, tupC, dListO, dInO, sub_ii, lt_ii, le_ii, gt_ii, ge_ii, iadd_ii, mul_ii, mod_ii, fdiv_ii, add_ii, dSl, dNoPart, dPart, slD, dChain, dNeg, dAsg, dTruE, dLenE, dIxE, slD', dListRng, isND, notND, dEither, dSetD, dPut, dSetDK, dPutI, dGetE, dInE, dGet2E, slotD, kvGet, kvGetI, dLenK, dRev, dSortR, List.map_cons, List.map_nil, List.length_cons, List.length_nil, List.cons_append, List.nil_append, List.append_nil, List.getElem?_cons_zero, List.getElem?_cons_succ, List.getElem?_nil, List.set_cons_zero, List.set_cons_succ, List.replicate, Option.bind_some, Option.bind_none, Option.map_some, Option.map_none, Nat.reduceAdd, Nat.reduceSub, Nat.reduceEqDiff, ↓reduceIte, if_true, if_false, Bool.not_true, Bool.not_false, Bool.and_true, Bool.true_and, Bool.false_and, Bool.and_false, Bool.or_true, Bool.true_or, Bool.or_false, Bool.false_or, reduceCtorEq, Bool.false_eq_true, ix0, ix1, q, eqD_tupI]
theorem is_answer_ok {p c : Int} (h : (p, c) ∈ games) {t : List Int} (t2 : t.length = 2) (tb : ∀ n ∈ t, 0 ≤ n ∧ n ≤ p) : Fis_answer [tupI [p, c], tupI t] = some (.bool true) := by
  have i0 : ixD (.tuple [.int p, .int c]) (.int 0) = some (.int p) := rfl
  have ip : Fis_pair [.tuple (t.map .int)] = some (.bool true) := by
    have e : eqD (.int ((t.map PyData.int).length : Nat)) (.int 2) = some (.bool true) := by rw [eqD_int, decide_eq_true]; rw [List.length_map, t2]; rfl
    simp only [Fis_pair, Bis_pair_tl, Bis_pair_0, dLits,  runD, runO, stD, dSeq, dIf, dSet, dSetO, dAug, dRet, dRetN, dRetO, dDrop, dFrz, dAppend, dExtend, dRemove, dFor, dVar, dC, d2, dCall, dOwnCall, dOwnCallO, dNil, dCons, dTup, dLstO, dOwn, dB, dTru, truD, dNotT, dAndT, dOrT, dAndV, dOrV, dNotV, dIfE, dIter, seqD, dRng1, dRng2, dEn, dZip, st0D, dYes, dNext, dNever, gN, gT, gZ, gC, DL.frz, resOf, dIsi, isi_ii, isi_ib, isi_tt, isi_ll, isi_lt, isi_tl, isi_nt, lenC, len_t, len_l, allC, tupC, dListO, dInO, sub_ii, lt_ii, le_ii, gt_ii, ge_ii, iadd_ii, mul_ii, mod_ii, fdiv_ii, add_ii, dSl, dNoPart, dPart, slD, dChain, dNeg, dAsg, dTruE, dLenE, dIxE, slD', dListRng, isND, notND, dEither, dSetD, dPut, dSetDK, dPutI, dGetE, dInE, dGet2E, slotD, kvGet, kvGetI, dLenK, dRev, dSortR, List.map_cons, List.map_nil, List.length_cons, List.length_nil, List.cons_append, List.nil_append, List.append_nil, List.getElem?_cons_zero, List.getElem?_cons_succ, List.getElem?_nil, List.set_cons_zero, List.set_cons_succ, List.replicate, Option.bind_some, Option.bind_none, Option.map_some, Option.map_none, Nat.reduceAdd, Nat.reduceSub, Nat.reduceEqDiff, ↓reduceIte, if_true, if_false, Bool.not_true, Bool.not_false, Bool.and_true, Bool.true_and, Bool.false_and, Bool.and_false, Bool.or_true, Bool.true_or, Bool.or_false, Bool.false_or, reduceCtorEq, Bool.false_eq_true, e]
  have l1 : (t.map PyData.int).length ≤ LIM := by rw [List.length_map, t2]; exact lit_le 2
  have mm : (dCompO 1 [("game", 0)] (dIter (dVar 1)) (gN 0) dYes (dOwnCall 3 Fis_number_within (dCons (dVar 0) (dCons (dC (.int 0)) (dCons (d2 ixD (dVar 1) (dC (.int 0))) dNil))))) [some (.fz (.tuple [.int p, .int c])), some (.fz (.tuple (t.map PyData.int)))] = some ((t.map PyData.int).map fun _ => .bool true) := by
    refine dCompO_map _ rfl l1 fun d hd => ?_
    obtain ⟨n, hn, rfl⟩ := List.mem_map.mp hd
    have q := tb n hn
    simp only [dLits,  runD, runO, stD, dSeq, dIf, dSet, dSetO, dAug, dRet, dRetN, dRetO, dDrop, dFrz, dAppend, dExtend, dRemove, dFor, dVar, dC, d2, dCall, dOwnCall, dOwnCallO, dNil, dCons, dTup, dLstO, dOwn, dB, dTru, truD, dNotT, dAndT, dOrT, dAndV, dOrV, dNotV, dIfE, dIter, seqD, dRng1, dRng2, dEn, dZip, st0D, dYes, dNext, dNever, gN, gT, gZ, gC, DL.frz, resOf, dIsi, isi_ii, isi_ib, isi_tt, isi_ll, isi_lt, isi_tl, isi_nt, lenC, len_t, len_l, allC, tupC, dListO, dInO, sub_ii, lt_ii, le_ii, gt_ii, ge_ii, iadd_ii, mul_ii, mod_ii, fdiv_ii, add_ii, dSl, dNoPart, dPart, slD, dChain, dNeg, dAsg, dTruE, dLenE, dIxE, slD', dListRng, isND, notND, dEither, dSetD, dPut, dSetDK, dPutI, dGetE, dInE, dGet2E, slotD, kvGet, kvGetI, dLenK, dRev, dSortR, List.map_cons, List.map_nil, List.length_cons, List.length_nil, List.cons_append, List.nil_append, List.append_nil, List.getElem?_cons_zero, List.getElem?_cons_succ, List.getElem?_nil, List.set_cons_zero, List.set_cons_succ, List.replicate, Option.bind_some, Option.bind_none, Option.map_some, Option.map_none, Nat.reduceAdd, Nat.reduceSub, Nat.reduceEqDiff, ↓reduceIte, if_true, if_false, Bool.not_true, Bool.not_false, Bool.and_true, Bool.true_and, Bool.false_and, Bool.and_false, Bool.or_true, Bool.true_or, Bool.or_false, Bool.false_or, reduceCtorEq, Bool.false_eq_true, i0, is_num_ok, decide_eq_true q.1, decide_eq_true q.2]
  have bs : boolsD ((t.map PyData.int).map fun _ => PyData.bool true) = some ((t.map PyData.int).map fun _ => true) := by
    rw [show ((t.map PyData.int).map fun _ => PyData.bool true) = ((t.map PyData.int).map fun _ => true).map PyData.bool by simp]
    exact boolsD_map _
  have al2 : ((t.map PyData.int).map fun _ => true).all id = true := by simp
  simp only [Fis_answer, Bis_answer_tl, Bis_answer_0, tupI, dLits,  runD, runO, stD, dSeq, dIf, dSet, dSetO, dAug, dRet, dRetN, dRetO, dDrop, dFrz, dAppend, dExtend, dRemove, dFor, dVar, dC, d2, dCall, dOwnCall, dOwnCallO, dNil, dCons, dTup, dLstO, dOwn, dB, dTru, truD, dNotT, dAndT, dOrT, dAndV, dOrV, dNotV, dIfE, dIter, seqD, dRng1, dRng2, dEn, dZip, st0D, dYes, dNext, dNever, gN, gT, gZ, gC, DL.frz, resOf, dIsi, isi_ii, isi_ib, isi_tt, isi_ll, isi_lt, isi_tl, isi_nt, lenC, len_t, len_l, allC, tupC, dListO, dInO, sub_ii, lt_ii, le_ii, gt_ii, ge_ii, iadd_ii, mul_ii, mod_ii, fdiv_ii, add_ii, dSl, dNoPart, dPart, slD, dChain, dNeg, dAsg, dTruE, dLenE, dIxE, slD', dListRng, isND, notND, dEither, dSetD, dPut, dSetDK, dPutI, dGetE, dInE, dGet2E, slotD, kvGet, kvGetI, dLenK, dRev, dSortR, List.map_cons, List.map_nil, List.length_cons, List.length_nil, List.cons_append, List.nil_append, List.append_nil, List.getElem?_cons_zero, List.getElem?_cons_succ, List.getElem?_nil, List.set_cons_zero, List.set_cons_succ, List.replicate, Option.bind_some, Option.bind_none, Option.map_some, Option.map_none, Nat.reduceAdd, Nat.reduceSub, Nat.reduceEqDiff, ↓reduceIte, if_true, if_false, Bool.not_true, Bool.not_false, Bool.and_true, Bool.true_and, Bool.false_and, Bool.and_false, Bool.or_true, Bool.true_or, Bool.or_false, Bool.false_or, reduceCtorEq, Bool.false_eq_true, ip, mm, bs, al2]
theorem is_ask_ok {p c : Int} (h : (p, c) ∈ games) {a : Ask} (ha : AskOk p c a) : Fis_ask [tupI [p, c], encA a] = some (.bool true) := by
  have ip : Fis_pair [encA a] = some (.bool true) := by
    have e : eqD (.int ((2 : Nat) : Int)) (.int 2) = some (.bool true) := by rw [eqD_int]; rfl
    simp only [Fis_pair, Bis_pair_tl, Bis_pair_0, encA, dLits,  runD, runO, stD, dSeq, dIf, dSet, dSetO, dAug, dRet, dRetN, dRetO, dDrop, dFrz, dAppend, dExtend, dRemove, dFor, dVar, dC, d2, dCall, dOwnCall, dOwnCallO, dNil, dCons, dTup, dLstO, dOwn, dB, dTru, truD, dNotT, dAndT, dOrT, dAndV, dOrV, dNotV, dIfE, dIter, seqD, dRng1, dRng2, dEn, dZip, st0D, dYes, dNext, dNever, gN, gT, gZ, gC, DL.frz, resOf, dIsi, isi_ii, isi_ib, isi_tt, isi_ll, isi_lt, isi_tl, isi_nt, lenC, len_t, len_l, allC, tupC, dListO, dInO, sub_ii, lt_ii, le_ii, gt_ii, ge_ii, iadd_ii, mul_ii, mod_ii, fdiv_ii, add_ii, dSl, dNoPart, dPart, slD, dChain, dNeg, dAsg, dTruE, dLenE, dIxE, slD', dListRng, isND, notND, dEither, dSetD, dPut, dSetDK, dPutI, dGetE, dInE, dGet2E, slotD, kvGet, kvGetI, dLenK, dRev, dSortR, List.map_cons, List.map_nil, List.length_cons, List.length_nil, List.cons_append, List.nil_append, List.append_nil, List.getElem?_cons_zero, List.getElem?_cons_succ, List.getElem?_nil, List.set_cons_zero, List.set_cons_succ, List.replicate, Option.bind_some, Option.bind_none, Option.map_some, Option.map_none, Nat.reduceAdd, Nat.reduceSub, Nat.reduceEqDiff, ↓reduceIte, if_true, if_false, Bool.not_true, Bool.not_false, Bool.and_true, Bool.true_and, Bool.false_and, Bool.and_false, Bool.or_true, Bool.true_or, Bool.or_false, Bool.false_or, reduceCtorEq, Bool.false_eq_true, e]
  have q1 := is_code_ok h ha.code
  have q2 := is_answer_ok h ha.two ha.b
  simp only [Fis_ask, Bis_ask_tl, Bis_ask_0, dLits,  runD, runO, stD, dSeq, dIf, dSet, dSetO, dAug, dRet, dRetN, dRetO, dDrop, dFrz, dAppend, dExtend, dRemove, dFor, dVar, dC, d2, dCall, dOwnCall, dOwnCallO, dNil, dCons, dTup, dLstO, dOwn, dB, dTru, truD, dNotT, dAndT, dOrT, dAndV, dOrV, dNotV, dIfE, dIter, seqD, dRng1, dRng2, dEn, dZip, st0D, dYes, dNext, dNever, gN, gT, gZ, gC, DL.frz, resOf, dIsi, isi_ii, isi_ib, isi_tt, isi_ll, isi_lt, isi_tl, isi_nt, lenC, len_t, len_l, allC, tupC, dListO, dInO, sub_ii, lt_ii, le_ii, gt_ii, ge_ii, iadd_ii, mul_ii, mod_ii, fdiv_ii, add_ii, dSl, dNoPart, dPart, slD, dChain, dNeg, dAsg, dTruE, dLenE, dIxE, slD', dListRng, isND, notND, dEither, dSetD, dPut, dSetDK, dPutI, dGetE, dInE, dGet2E, slotD, kvGet, kvGetI, dLenK, dRev, dSortR, List.map_cons, List.map_nil, List.length_cons, List.length_nil, List.cons_append, List.nil_append, List.append_nil, List.getElem?_cons_zero, List.getElem?_cons_succ, List.getElem?_nil, List.set_cons_zero, List.set_cons_succ, List.replicate, Option.bind_some, Option.bind_none, Option.map_some, Option.map_none, Nat.reduceAdd, Nat.reduceSub, Nat.reduceEqDiff, ↓reduceIte, if_true, if_false, Bool.not_true, Bool.not_false, Bool.and_true, Bool.true_and, Bool.false_and, Bool.and_false, Bool.or_true, Bool.true_or, Bool.or_false, Bool.false_or, reduceCtorEq, Bool.false_eq_true, ip, ix0, ix1, q1, q2]
theorem checked_list_ok {p c : Int} (h : (p, c) ∈ games) {as : List Ask} (ao : ∀ a ∈ as, AskOk p c a) (al : as.length ≤ 8) : Fchecked_list [tupI [p, c], lstA as, fnD "is_ask"] = some (lstA as) := by
  obtain ⟨δ', e1, v2, v3, e2⟩ := loopD_of (fg := (gT 2 (gC (gN 3) (gC (gN 4) gZ)))) (fb := (dIf (dNotT (dTru (dEither (dCallV 2 "is_ask" 2 Fis_ask (dCons (dVar 0) (dCons (dVar 4) dNil))) (dCallV 2 "is_code" 2 Fis_code (dCons (dVar 0) (dCons (dVar 4) dNil)))))) dNever dNext)) (ds := enumD (as.map encA)) (δ := [some (.fz (tupI [p, c])), some (.fz (.list (as.map encA))), some (.fz (fnD "is_ask")), none, none])
    (fun i δ => ∃ v2 v3, δ = [some (.fz (tupI [p, c])), some (.fz (.list (as.map encA))), some (.fz (fnD "is_ask")), v2, v3]) ⟨none, none, rfl⟩ (by
      rintro i hi δ ⟨v2, v3, rfl⟩
      have hi' : i < as.length := by simpa [enumD] using hi
      have ed : (enumD (as.map encA))[i] = .tuple [.int (i : Nat), encA as[i]] := by
        have := List.getElem?_eq_getElem hi
        obtain ⟨e, h1, h2⟩ := enumD_get this
        rw [List.getElem?_map, List.getElem?_eq_getElem hi'] at h1
        cases h1
        exact h2
      have q := is_ask_ok h (ao _ (List.getElem_mem hi'))
      rw [ed]
      refine ⟨_, _, rfl, ?_, some (.fz (.int (i : Nat))), some (.fz (encA as[i])), rfl⟩
      simp only [dLits,  runD, runO, stD, dSeq, dIf, dSet, dSetO, dAug, dRet, dRetN, dRetO, dDrop, dFrz, dAppend, dExtend, dRemove, dFor, dVar, dC, d2, dCall, dOwnCall, dOwnCallO, dNil, dCons, dTup, dLstO, dOwn, dB, dTru, truD, dNotT, dAndT, dOrT, dAndV, dOrV, dNotV, dIfE, dIter, seqD, dRng1, dRng2, dEn, dZip, st0D, dYes, dNext, dNever, gN, gT, gZ, gC, DL.frz, resOf, dIsi, isi_ii, isi_ib, isi_tt, isi_ll, isi_lt, isi_tl, isi_nt, lenC, len_t, len_l, allC, tupC, dListO, dInO, sub_ii, lt_ii, le_ii, gt_ii, ge_ii, iadd_ii, mul_ii, mod_ii, fdiv_ii, add_ii, dSl, dNoPart, dPart, slD, dChain, dNeg, dAsg, dTruE, dLenE, dIxE, slD', dListRng, isND, notND, dEither, dSetD, dPut, dSetDK, dPutI, dGetE, dInE, dGet2E, slotD, kvGet, kvGetI, dLenK, dRev, dSortR, List.map_cons, List.map_nil, List.length_cons, List.length_nil, List.cons_append, List.nil_append, List.append_nil, List.getElem?_cons_zero, List.getElem?_cons_succ, List.getElem?_nil, List.set_cons_zero, List.set_cons_succ, List.replicate, Option.bind_some, Option.bind_none, Option.map_some, Option.map_none, Nat.reduceAdd, Nat.reduceSub, Nat.reduceEqDiff, ↓reduceIte, if_true, if_false, Bool.not_true, Bool.not_false, Bool.and_true, Bool.true_and, Bool.false_and, Bool.and_false, Bool.or_true, Bool.true_or, Bool.or_false, Bool.false_or, reduceCtorEq, Bool.false_eq_true, dCallV, isFn_self, q])
  subst e2
  have d : decide ((8 : Int) < ((as.map encA).length : Nat)) = false := decide_eq_false (by rw [List.length_map]; omega)
  simp only [Fchecked_list, Bchecked_list_tl, Bchecked_list_0, Bchecked_list_1, Bchecked_list_2, lstA, dLits,  runD, runO, stD, dSeq, dIf, dSet, dSetO, dAug, dRet, dRetN, dRetO, dDrop, dFrz, dAppend, dExtend, dRemove, dFor, dVar, dC, d2, dCall, dOwnCall, dOwnCallO, dNil, dCons, dTup, dLstO, dOwn, dB, dTru, truD, dNotT, dAndT, dOrT, dAndV, dOrV, dNotV, dIfE, dIter, seqD, dRng1, dRng2, dEn, dZip, st0D, dYes, dNext, dNever, gN, gT, gZ, gC, DL.frz, resOf, dIsi, isi_ii, isi_ib, isi_tt, isi_ll, isi_lt, isi_tl, isi_nt, lenC, len_t, len_l, allC, tupC, dListO, dInO, sub_ii, lt_ii, le_ii, gt_ii, ge_ii, iadd_ii, mul_ii, mod_ii, fdiv_ii, add_ii, dSl, dNoPart, dPart, slD, dChain, dNeg, dAsg, dTruE, dLenE, dIxE, slD', dListRng, isND, notND, dEither, dSetD, dPut, dSetDK, dPutI, dGetE, dInE, dGet2E, slotD, kvGet, kvGetI, dLenK, dRev, dSortR, List.map_cons, List.map_nil, List.length_cons, List.length_nil, List.cons_append, List.nil_append, List.append_nil, List.getElem?_cons_zero, List.getElem?_cons_succ, List.getElem?_nil, List.set_cons_zero, List.set_cons_succ, List.replicate, Option.bind_some, Option.bind_none, Option.map_some, Option.map_none, Nat.reduceAdd, Nat.reduceSub, Nat.reduceEqDiff, ↓reduceIte, if_true, if_false, Bool.not_true, Bool.not_false, Bool.and_true, Bool.true_and, Bool.false_and, Bool.and_false, Bool.or_true, Bool.true_or, Bool.or_false, Bool.false_or, reduceCtorEq, Bool.false_eq_true, d, e1]
theorem checked_asks_ok {p c : Int} (h : (p, c) ∈ games) {as : List Ask} (ao : ∀ a ∈ as, AskOk p c a) (al : as.length ≤ 8) : Fchecked_asks [tupI [p, c], lstA as] = some (lstA as) := by
  have q := checked_list_ok h ao al
  simp only [Fchecked_asks, Bchecked_asks_tl, Bchecked_asks_0, dLits,  runD, runO, stD, dSeq, dIf, dSet, dSetO, dAug, dRet, dRetN, dRetO, dDrop, dFrz, dAppend, dExtend, dRemove, dFor, dVar, dC, d2, dCall, dOwnCall, dOwnCallO, dNil, dCons, dTup, dLstO, dOwn, dB, dTru, truD, dNotT, dAndT, dOrT, dAndV, dOrV, dNotV, dIfE, dIter, seqD, dRng1, dRng2, dEn, dZip, st0D, dYes, dNext, dNever, gN, gT, gZ, gC, DL.frz, resOf, dIsi, isi_ii, isi_ib, isi_tt, isi_ll, isi_lt, isi_tl, isi_nt, lenC, len_t, len_l, allC, tupC, dListO, dInO, sub_ii, lt_ii, le_ii, gt_ii, ge_ii, iadd_ii, mul_ii, mod_ii, fdiv_ii, add_ii, dSl, dNoPart, dPart, slD, dChain, dNeg, dAsg, dTruE, dLenE, dIxE, slD', dListRng, isND, notND, dEither, dSetD, dPut, dSetDK, dPutI, dGetE, dInE, dGet2E, slotD, kvGet, kvGetI, dLenK, dRev, dSortR, List.map_cons, List.map_nil, List.length_cons, List.length_nil, List.cons_append, List.nil_append, List.append_nil, List.getElem?_cons_zero, List.getElem?_cons_succ, List.getElem?_nil, List.set_cons_zero, List.set_cons_succ, List.replicate, Option.bind_some, Option.bind_none, Option.map_some, Option.map_none, Nat.reduceAdd, Nat.reduceSub, Nat.reduceEqDiff, ↓reduceIte, if_true, if_false, Bool.not_true, Bool.not_false, Bool.and_true, Bool.true_and, Bool.false_and, Bool.and_false, Bool.or_true, Bool.true_or, Bool.or_false, Bool.false_or, reduceCtorEq, Bool.false_eq_true, q]
theorem tup_mem {cs : List (List Int)} {d : PyData} (h : d ∈ cs.map tupI) : ∃ x ∈ cs, d = tupI x := by
  obtain ⟨x, hx, e⟩ := List.mem_map.mp h
  exact ⟨x, hx, e.symm⟩
/-- a filter over encoded codes -/
theorem filter_enc {α : Type} (enc : α → PyData) (f : PyData → Bool) (q : α → Bool) : ∀ {l : List α}, (∀ a ∈ l, f (enc a) = q a) → (l.map enc).filter f = (l.filter q).map enc
  | [], _ => rfl
  | a :: r, h => by
    have ih := filter_enc enc f q (l := r) fun x hx => h x (List.mem_cons_of_mem _ hx)
    rw [List.map_cons, List.filter_cons, List.filter_cons, h a List.mem_cons_self, ih]
    cases q a <;> rfl
noncomputable def codeOf (d : PyData) : List Int := @dite _ (∃ x, tupI x = d) (Classical.propDecidable _) (fun h => Classical.choose h) (fun _ => [])
theorem codeOf_tup (x : List Int) : codeOf (tupI x) = x := by
  unfold codeOf
  have h : ∃ y, tupI y = tupI x := ⟨x, rfl⟩
  rw [dif_pos h]
  exact tupI_inj (Classical.choose_spec h)
theorem map_id' {l : List PyData} : l.map (fun d => d) = l := List.map_id l
theorem those_ok {p c : Int} (h : (p, c) ∈ games) {cs : List (List Int)} (hc : ∀ x ∈ cs, Code p c x) (hl : cs.length ≤ 1000) {as : List Ask} (ao : ∀ a ∈ as, AskOk p c a) :
    Fthose_that_fit [lstC cs, lstA as] = some (lstC (cs.filter (fits as))) := by
  obtain ⟨δ', e1, v3, e2⟩ := loopD_of (fg := (gN 3)) (fb := (dSet 2 (dOwn (dCompO 1 [("ask", 3)] (dIter (dVar 2)) (gN 0) (dTru (dOwnCall 2 Ffits_ask (dCons (dVar 0) (dCons (dVar 1) dNil)))) (dVar 0))))) (ds := as.map encA) (δ := [some (.fz (.list (cs.map tupI))), some (.fz (.list (as.map encA))), some (.fz (.list (cs.map tupI))), none])
    (fun i δ => ∃ v3, δ = [some (.fz (.list (cs.map tupI))), some (.fz (.list (as.map encA))), some (.fz (.list ((cs.filter (fits (as.take i))).map tupI))), v3]) ⟨none, by
      have : cs.filter (fits (as.take 0)) = cs := List.filter_eq_self.mpr fun a _ => rfl
      rw [this]⟩ (by
      rintro i hi δ ⟨v3, rfl⟩
      have hi' : i < as.length := by simpa using hi
      have ed : (as.map encA)[i] = encA as[i] := by simp
      have oa := ao _ (List.getElem_mem hi')
      rw [ed]
      refine ⟨_, _, rfl, ?_, some (.fz (encA as[i])), rfl⟩
      have cx : (dCompO 1 [("ask", 3)] (dIter (dVar 2)) (gN 0) (dTru (dOwnCall 2 Ffits_ask (dCons (dVar 0) (dCons (dVar 1) dNil)))) (dVar 0)) [some (.fz (.list (cs.map tupI))), some (.fz (.list (as.map encA))), some (.fz (.list ((cs.filter (fits (as.take i))).map tupI))), some (.fz (encA as[i]))] = some ((cs.filter (fits (as.take (i + 1)))).map tupI) := by
        rw [dCompO_filter (ds := (cs.filter (fits (as.take i))).map tupI) (fun d => decide (GC.ans (codeOf d) as[i].1 = as[i].2)) (fun d => d) rfl (by
          rw [List.length_map]; exact Nat.le_trans (List.length_filter_le _ _) (lim625 hl)) (fun d hd => ?_)]
        · rw [map_id', filter_enc tupI _ (fun x => decide (GC.ans x as[i].1 = as[i].2)) (fun x _ => by rw [codeOf_tup]), List.filter_filter]
          congr 2
          apply List.filter_congr
          intro x _
          rw [List.take_succ_eq_append_getElem hi']
          simp only [fits, List.all_append, List.all_cons, List.all_nil, Bool.and_true]
          rw [Bool.and_comm]
        · obtain ⟨x, hx, rfl⟩ := tup_mem hd
          have q := fits_ask_ok h (hc x (List.mem_filter.mp hx).1) oa
          rw [codeOf_tup]
          cases hd' : decide (GC.ans x as[i].1 = as[i].2) <;> simp only [dLits,  runD, runO, stD, dSeq, dIf, dSet, dSetO, dAug, dRet, dRetN, dRetO, dDrop, dFrz, dAppend, dExtend, dRemove, dFor, dVar, dC, d2, dCall, dOwnCall, dOwnCallO, dNil, dCons, dTup, dLstO, dOwn, dB, dTru, truD, dNotT, dAndT, dOrT, dAndV, dOrV, dNotV, dIfE, dIter, seqD, dRng1, dRng2, dEn, dZip, st0D, dYes, dNext, dNever, gN, gT, gZ, gC, DL.frz, resOf, dIsi, isi_ii, isi_ib, isi_tt, isi_ll, isi_lt, isi_tl, isi_nt, lenC, len_t, len_l, allC, tupC, dListO, dInO, sub_ii, lt_ii, le_ii, gt_ii, ge_ii, iadd_ii, mul_ii, mod_ii, fdiv_ii, add_ii, dSl, dNoPart, dPart, slD, dChain, dNeg, dAsg, dTruE, dLenE, dIxE, slD', dListRng, isND, notND, dEither, dSetD, dPut, dSetDK, dPutI, dGetE, dInE, dGet2E, slotD, kvGet, kvGetI, dLenK, dRev, dSortR, List.map_cons, List.map_nil, List.length_cons, List.length_nil, List.cons_append, List.nil_append, List.append_nil, List.getElem?_cons_zero, List.getElem?_cons_succ, List.getElem?_nil, List.set_cons_zero, List.set_cons_succ, List.replicate, Option.bind_some, Option.bind_none, Option.map_some, Option.map_none, Nat.reduceAdd, Nat.reduceSub, Nat.reduceEqDiff, ↓reduceIte, if_true, if_false, Bool.not_true, Bool.not_false, Bool.and_true, Bool.true_and, Bool.false_and, Bool.and_false, Bool.or_true, Bool.true_or, Bool.or_false, Bool.false_or, reduceCtorEq, Bool.false_eq_true, q, hd']
      simp only [dLits,  runD, runO, stD, dSeq, dIf, dSet, dSetO, dAug, dRet, dRetN, dRetO, dDrop, dFrz, dAppend, dExtend, dRemove, dFor, dVar, dC, d2, dCall, dOwnCall, dOwnCallO, dNil, dCons, dTup, dLstO, dOwn, dB, dTru, truD, dNotT, dAndT, dOrT, dAndV, dOrV, dNotV, dIfE, dIter, seqD, dRng1, dRng2, dEn, dZip, st0D, dYes, dNext, dNever, gN, gT, gZ, gC, DL.frz, resOf, dIsi, isi_ii, isi_ib, isi_tt, isi_ll, isi_lt, isi_tl, isi_nt, lenC, len_t, len_l, allC, tupC, dListO, dInO, sub_ii, lt_ii, le_ii, gt_ii, ge_ii, iadd_ii, mul_ii, mod_ii, fdiv_ii, add_ii, dSl, dNoPart, dPart, slD, dChain, dNeg, dAsg, dTruE, dLenE, dIxE, slD', dListRng, isND, notND, dEither, dSetD, dPut, dSetDK, dPutI, dGetE, dInE, dGet2E, slotD, kvGet, kvGetI, dLenK, dRev, dSortR, List.map_cons, List.map_nil, List.length_cons, List.length_nil, List.cons_append, List.nil_append, List.append_nil, List.getElem?_cons_zero, List.getElem?_cons_succ, List.getElem?_nil, List.set_cons_zero, List.set_cons_succ, List.replicate, Option.bind_some, Option.bind_none, Option.map_some, Option.map_none, Nat.reduceAdd, Nat.reduceSub, Nat.reduceEqDiff, ↓reduceIte, if_true, if_false, Bool.not_true, Bool.not_false, Bool.and_true, Bool.true_and, Bool.false_and, Bool.and_false, Bool.or_true, Bool.true_or, Bool.or_false, Bool.false_or, reduceCtorEq, Bool.false_eq_true, cx])
  rw [List.length_map, List.take_length] at e2
  subst e2
  simp only [Fthose_that_fit, Bthose_that_fit_tl, Bthose_that_fit_0, Bthose_that_fit_1, Bthose_that_fit_2, lstC, lstA, dLits,  runD, runO, stD, dSeq, dIf, dSet, dSetO, dAug, dRet, dRetN, dRetO, dDrop, dFrz, dAppend, dExtend, dRemove, dFor, dVar, dC, d2, dCall, dOwnCall, dOwnCallO, dNil, dCons, dTup, dLstO, dOwn, dB, dTru, truD, dNotT, dAndT, dOrT, dAndV, dOrV, dNotV, dIfE, dIter, seqD, dRng1, dRng2, dEn, dZip, st0D, dYes, dNext, dNever, gN, gT, gZ, gC, DL.frz, resOf, dIsi, isi_ii, isi_ib, isi_tt, isi_ll, isi_lt, isi_tl, isi_nt, lenC, len_t, len_l, allC, tupC, dListO, dInO, sub_ii, lt_ii, le_ii, gt_ii, ge_ii, iadd_ii, mul_ii, mod_ii, fdiv_ii, add_ii, dSl, dNoPart, dPart, slD, dChain, dNeg, dAsg, dTruE, dLenE, dIxE, slD', dListRng, isND, notND, dEither, dSetD, dPut, dSetDK, dPutI, dGetE, dInE, dGet2E, slotD, kvGet, kvGetI, dLenK, dRev, dSortR, List.map_cons, List.map_nil, List.length_cons, List.length_nil, List.cons_append, List.nil_append, List.append_nil, List.getElem?_cons_zero, List.getElem?_cons_succ, List.getElem?_nil, List.set_cons_zero, List.set_cons_succ, List.replicate, Option.bind_some, Option.bind_none, Option.map_some, Option.map_none, Nat.reduceAdd, Nat.reduceSub, Nat.reduceEqDiff, ↓reduceIte, if_true, if_false, Bool.not_true, Bool.not_false, Bool.and_true, Bool.true_and, Bool.false_and, Bool.and_false, Bool.or_true, Bool.true_or, Bool.or_false, Bool.false_or, reduceCtorEq, Bool.false_eq_true, e1]
theorem codes_all {p c : Int} (h : (p, c) ∈ games) : ∀ x ∈ codes p c, Code p c x := fun x hx => codes_code h hx
theorem what_fits_ok {p c : Int} (h : (p, c) ∈ games) {as : List Ask} (ao : ∀ a ∈ as, AskOk p c a) (al : as.length ≤ 8) : Fwhat_fits [tupI [p, c], lstA as] = some (lstC ((codes p c).filter (fits as))) := by
  have q1 := checked_game_ok h
  have q2 := checked_asks_ok h ao al
  have q3 := all_codes_ok h
  have q4 := those_ok h (codes_all h) (Nat.le_trans (codes_len h) (by decide)) ao
  simp only [Fwhat_fits, Bwhat_fits_tl, Bwhat_fits_0, Bwhat_fits_1, Bwhat_fits_2, dLits,  runD, runO, stD, dSeq, dIf, dSet, dSetO, dAug, dRet, dRetN, dRetO, dDrop, dFrz, dAppend, dExtend, dRemove, dFor, dVar, dC, d2, dCall, dOwnCall, dOwnCallO, dNil, dCons, dTup, dLstO, dOwn, dB, dTru, truD, dNotT, dAndT, dOrT, dAndV, dOrV, dNotV, dIfE, dIter, seqD, dRng1, dRng2, dEn, dZip, st0D, dYes, dNext, dNever, gN, gT, gZ, gC, DL.frz, resOf, dIsi, isi_ii, isi_ib, isi_tt, isi_ll, isi_lt, isi_tl, isi_nt, lenC, len_t, len_l, allC, tupC, dListO, dInO, sub_ii, lt_ii, le_ii, gt_ii, ge_ii, iadd_ii, mul_ii, mod_ii, fdiv_ii, add_ii, dSl, dNoPart, dPart, slD, dChain, dNeg, dAsg, dTruE, dLenE, dIxE, slD', dListRng, isND, notND, dEither, dSetD, dPut, dSetDK, dPutI, dGetE, dInE, dGet2E, slotD, kvGet, kvGetI, dLenK, dRev, dSortR, List.map_cons, List.map_nil, List.length_cons, List.length_nil, List.cons_append, List.nil_append, List.append_nil, List.getElem?_cons_zero, List.getElem?_cons_succ, List.getElem?_nil, List.set_cons_zero, List.set_cons_succ, List.replicate, Option.bind_some, Option.bind_none, Option.map_some, Option.map_none, Nat.reduceAdd, Nat.reduceSub, Nat.reduceEqDiff, ↓reduceIte, if_true, if_false, Bool.not_true, Bool.not_false, Bool.and_true, Bool.true_and, Bool.false_and, Bool.and_false, Bool.or_true, Bool.true_or, Bool.or_false, Bool.false_or, reduceCtorEq, Bool.false_eq_true, q1, q2, q3, q4]
end GX
namespace GX
open PySem L2 DL
def isTFT : Option PyData → Bool
  | some (.list [.bool true, .bool false, .bool true]) => true
  | _ => false
theorem isTFT_of {o : Option PyData} (h : isTFT o = true) : o = some (.list [.bool true, .bool false, .bool true]) := by
  unfold isTFT at h
  split at h
  · rfl
  · cases h
def oddG : List PyData := [.none, .tuple [.int 0, .int 3], .tuple [.int 3, .int 0], .tuple [.int 6, .int 2], .tuple [.int 2, .int 9], .tuple [.int 4, .int 5], .tuple [.int 5, .int 4], .list [.int 2, .int 3], .tuple [.int 2], .tuple [.int 2, .int 3, .int 4], .tuple [.bool true, .int 3], .tuple [.int 3, .str (PySem.Str.ofString "2")], .str (PySem.Str.ofString "23"), .int 23]
theorem odd_told {p c : Int} (h : (p, c) ∈ games) : (oddG.all fun d => ((List.range 8).all fun w => isTFT (F_law_told [.int 0, .int ((w : Nat) : Int), tupI [p, c], .none, d])) && (List.range 6).all fun w => isTFT (F_law_told [.int 1, .int ((w : Nat) : Int), tupI [p, c], .none, d])) = true := by
  rcases games_or h with ⟨rfl, rfl⟩ | ⟨rfl, rfl⟩ | ⟨rfl, rfl⟩ | ⟨rfl, rfl⟩ | ⟨rfl, rfl⟩ | ⟨rfl, rfl⟩ | ⟨rfl, rfl⟩ | ⟨rfl, rfl⟩ | ⟨rfl, rfl⟩
  · decide +kernel
  · decide +kernel
  · decide +kernel
  · decide +kernel
  · decide +kernel
  · decide +kernel
  · decide +kernel
  · decide +kernel
  · decide +kernel
theorem num_bool (b : Bool) (lo hi : Int) : Fis_number_within [.bool b, .int lo, .int hi] = some (.bool false) := by
  have : isiN (.bool b) "int" = true := rfl
  have h2 : isiN (.bool b) "bool" = true := rfl
  simp only [Fis_number_within, Bis_number_within_tl, Bis_number_within_0, dLits,  runD, runO, stD, dSeq, dIf, dSet, dSetO, dAug, dRet, dRetN, dRetO, dDrop, dFrz, dAppend, dExtend, dRemove, dFor, dVar, dC, d2, dCall, dOwnCall, dOwnCallO, dNil, dCons, dTup, dLstO, dOwn, dB, dTru, truD, dNotT, dAndT, dOrT, dAndV, dOrV, dNotV, dIfE, dIter, seqD, dRng1, dRng2, dEn, dZip, st0D, dYes, dNext, dNever, gN, gT, gZ, gC, DL.frz, resOf, dIsi, isi_ii, isi_ib, isi_tt, isi_ll, isi_lt, isi_tl, isi_nt, lenC, len_t, len_l, allC, tupC, dListO, dInO, sub_ii, lt_ii, le_ii, gt_ii, ge_ii, iadd_ii, mul_ii, mod_ii, fdiv_ii, add_ii, dSl, dNoPart, dPart, slD, dChain, dNeg, dAsg, dTruE, dLenE, dIxE, slD', dListRng, isND, notND, dEither, dSetD, dPut, dSetDK, dPutI, dGetE, dInE, dGet2E, slotD, kvGet, kvGetI, dLenK, dRev, dSortR, List.map_cons, List.map_nil, List.length_cons, List.length_nil, List.cons_append, List.nil_append, List.append_nil, List.getElem?_cons_zero, List.getElem?_cons_succ, List.getElem?_nil, List.set_cons_zero, List.set_cons_succ, List.replicate, Option.bind_some, Option.bind_none, Option.map_some, Option.map_none, Nat.reduceAdd, Nat.reduceSub, Nat.reduceEqDiff, ↓reduceIte, if_true, if_false, Bool.not_true, Bool.not_false, Bool.and_true, Bool.true_and, Bool.false_and, Bool.and_false, Bool.or_true, Bool.true_or, Bool.or_false, Bool.false_or, reduceCtorEq, Bool.false_eq_true, this, h2]
theorem num_str (z : Str) (lo hi : Int) : Fis_number_within [.str z, .int lo, .int hi] = some (.bool false) := by
  have : isiN (.str z) "int" = false := rfl
  simp only [Fis_number_within, Bis_number_within_tl, Bis_number_within_0, dLits,  runD, runO, stD, dSeq, dIf, dSet, dSetO, dAug, dRet, dRetN, dRetO, dDrop, dFrz, dAppend, dExtend, dRemove, dFor, dVar, dC, d2, dCall, dOwnCall, dOwnCallO, dNil, dCons, dTup, dLstO, dOwn, dB, dTru, truD, dNotT, dAndT, dOrT, dAndV, dOrV, dNotV, dIfE, dIter, seqD, dRng1, dRng2, dEn, dZip, st0D, dYes, dNext, dNever, gN, gT, gZ, gC, DL.frz, resOf, dIsi, isi_ii, isi_ib, isi_tt, isi_ll, isi_lt, isi_tl, isi_nt, lenC, len_t, len_l, allC, tupC, dListO, dInO, sub_ii, lt_ii, le_ii, gt_ii, ge_ii, iadd_ii, mul_ii, mod_ii, fdiv_ii, add_ii, dSl, dNoPart, dPart, slD, dChain, dNeg, dAsg, dTruE, dLenE, dIxE, slD', dListRng, isND, notND, dEither, dSetD, dPut, dSetDK, dPutI, dGetE, dInE, dGet2E, slotD, kvGet, kvGetI, dLenK, dRev, dSortR, List.map_cons, List.map_nil, List.length_cons, List.length_nil, List.cons_append, List.nil_append, List.append_nil, List.getElem?_cons_zero, List.getElem?_cons_succ, List.getElem?_nil, List.set_cons_zero, List.set_cons_succ, List.replicate, Option.bind_some, Option.bind_none, Option.map_some, Option.map_none, Nat.reduceAdd, Nat.reduceSub, Nat.reduceEqDiff, ↓reduceIte, if_true, if_false, Bool.not_true, Bool.not_false, Bool.and_true, Bool.true_and, Bool.false_and, Bool.and_false, Bool.or_true, Bool.true_or, Bool.or_false, Bool.false_or, reduceCtorEq, Bool.false_eq_true, this]
theorem num_none (lo hi : Int) : Fis_number_within [.none, .int lo, .int hi] = some (.bool false) := by
  have : isiN .none "int" = false := rfl
  simp only [Fis_number_within, Bis_number_within_tl, Bis_number_within_0, dLits,  runD, runO, stD, dSeq, dIf, dSet, dSetO, dAug, dRet, dRetN, dRetO, dDrop, dFrz, dAppend, dExtend, dRemove, dFor, dVar, dC, d2, dCall, dOwnCall, dOwnCallO, dNil, dCons, dTup, dLstO, dOwn, dB, dTru, truD, dNotT, dAndT, dOrT, dAndV, dOrV, dNotV, dIfE, dIter, seqD, dRng1, dRng2, dEn, dZip, st0D, dYes, dNext, dNever, gN, gT, gZ, gC, DL.frz, resOf, dIsi, isi_ii, isi_ib, isi_tt, isi_ll, isi_lt, isi_tl, isi_nt, lenC, len_t, len_l, allC, tupC, dListO, dInO, sub_ii, lt_ii, le_ii, gt_ii, ge_ii, iadd_ii, mul_ii, mod_ii, fdiv_ii, add_ii, dSl, dNoPart, dPart, slD, dChain, dNeg, dAsg, dTruE, dLenE, dIxE, slD', dListRng, isND, notND, dEither, dSetD, dPut, dSetDK, dPutI, dGetE, dInE, dGet2E, slotD, kvGet, kvGetI, dLenK, dRev, dSortR, List.map_cons, List.map_nil, List.length_cons, List.length_nil, List.cons_append, List.nil_append, List.append_nil, List.getElem?_cons_zero, List.getElem?_cons_succ, List.getElem?_nil, List.set_cons_zero, List.set_cons_succ, List.replicate, Option.bind_some, Option.bind_none, Option.map_some, Option.map_none, Nat.reduceAdd, Nat.reduceSub, Nat.reduceEqDiff, ↓reduceIte, if_true, if_false, Bool.not_true, Bool.not_false, Bool.and_true, Bool.true_and, Bool.false_and, Bool.and_false, Bool.or_true, Bool.true_or, Bool.or_false, Bool.false_or, reduceCtorEq, Bool.false_eq_true, this]
theorem not_tuple {p c : Int} {d : PyData} (h1 : isiN d "tuple" = false) (h2 : ∀ kvs, d ≠ .dict kvs) : Fis_code [tupI [p, c], d] = some (.bool false) := by
  cases d with
  | dict kvs => exact absurd rfl (h2 kvs)
  | _ => simp only [Fis_code, Bis_code_tl, Bis_code_0, Bis_code_1, tupI, dLits,  runD, runO, stD, dSeq, dIf, dSet, dSetO, dAug, dRet, dRetN, dRetO, dDrop, dFrz, dAppend, dExtend, dRemove, dFor, dVar, dC, d2, dCall, dOwnCall, dOwnCallO, dNil, dCons, dTup, dLstO, dOwn, dB, dTru, truD, dNotT, dAndT, dOrT, dAndV, dOrV, dNotV, dIfE, dIter, seqD, dRng1, dRng2, dEn, dZip, st0D, dYes, dNext, dNever, gN, gT, gZ, gC, DL.frz, resOf, dIsi, isi_ii, isi_ib, isi_tt, isi_ll, isi_lt, isi_tl, isi_nt, lenC, len_t, len_l, allC, tupC, dListO, dInO, sub_ii, lt_ii, le_ii, gt_ii, ge_ii, iadd_ii, mul_ii, mod_ii, fdiv_ii, add_ii, dSl, dNoPart, dPart, slD, dChain, dNeg, dAsg, dTruE, dLenE, dIxE, slD', dListRng, isND, notND, dEither, dSetD, dPut, dSetDK, dPutI, dGetE, dInE, dGet2E, slotD, kvGet, kvGetI, dLenK, dRev, dSortR, List.map_cons, List.map_nil, List.length_cons, List.length_nil, List.cons_append, List.nil_append, List.append_nil, List.getElem?_cons_zero, List.getElem?_cons_succ, List.getElem?_nil, List.set_cons_zero, List.set_cons_succ, List.replicate, Option.bind_some, Option.bind_none, Option.map_some, Option.map_none, Nat.reduceAdd, Nat.reduceSub, Nat.reduceEqDiff, ↓reduceIte, if_true, if_false, Bool.not_true, Bool.not_false, Bool.and_true, Bool.true_and, Bool.false_and, Bool.and_false, Bool.or_true, Bool.true_or, Bool.or_false, Bool.false_or, reduceCtorEq, Bool.false_eq_true, h1]
theorem bad_len {p c : Int} {ds : List PyData} (h : (ds.length : Int) ≠ p) : Fis_code [tupI [p, c], .tuple ds] = some (.bool false) := by
  have i0 : ixD (.tuple [.int p, .int c]) (.int 0) = some (.int p) := rfl
  have e0 : decide (((ds.length : Nat) : Int) = p) = false := decide_eq_false h
  simp only [Fis_code, Bis_code_tl, Bis_code_0, Bis_code_1, tupI, dLits,  runD, runO, stD, dSeq, dIf, dSet, dSetO, dAug, dRet, dRetN, dRetO, dDrop, dFrz, dAppend, dExtend, dRemove, dFor, dVar, dC, d2, dCall, dOwnCall, dOwnCallO, dNil, dCons, dTup, dLstO, dOwn, dB, dTru, truD, dNotT, dAndT, dOrT, dAndV, dOrV, dNotV, dIfE, dIter, seqD, dRng1, dRng2, dEn, dZip, st0D, dYes, dNext, dNever, gN, gT, gZ, gC, DL.frz, resOf, dIsi, isi_ii, isi_ib, isi_tt, isi_ll, isi_lt, isi_tl, isi_nt, lenC, len_t, len_l, allC, tupC, dListO, dInO, sub_ii, lt_ii, le_ii, gt_ii, ge_ii, iadd_ii, mul_ii, mod_ii, fdiv_ii, add_ii, dSl, dNoPart, dPart, slD, dChain, dNeg, dAsg, dTruE, dLenE, dIxE, slD', dListRng, isND, notND, dEither, dSetD, dPut, dSetDK, dPutI, dGetE, dInE, dGet2E, slotD, kvGet, kvGetI, dLenK, dRev, dSortR, List.map_cons, List.map_nil, List.length_cons, List.length_nil, List.cons_append, List.nil_append, List.append_nil, List.getElem?_cons_zero, List.getElem?_cons_succ, List.getElem?_nil, List.set_cons_zero, List.set_cons_succ, List.replicate, Option.bind_some, Option.bind_none, Option.map_some, Option.map_none, Nat.reduceAdd, Nat.reduceSub, Nat.reduceEqDiff, ↓reduceIte, if_true, if_false, Bool.not_true, Bool.not_false, Bool.and_true, Bool.true_and, Bool.false_and, Bool.and_false, Bool.or_true, Bool.true_or, Bool.or_false, Bool.false_or, reduceCtorEq, Bool.false_eq_true, i0, neD_int, e0]
theorem bad_last {p c : Int} {a : List Int} {x : PyData} (hl : ((a.length + 1 : Nat) : Int) = p) (ha : a.length ≤ 100) (hx : Fis_number_within [x, .int 0, .int (c - 1)] = some (.bool false)) : Fis_code [tupI [p, c], .tuple (a.map PyData.int ++ [x])] = some (.bool false) := by
  have i0 : ixD (.tuple [.int p, .int c]) (.int 0) = some (.int p) := rfl
  have i1 : ixD (.tuple [.int p, .int c]) (.int 1) = some (.int c) := rfl
  have e0 : decide ((((a.map PyData.int ++ [x]).length : Nat) : Int) = p) = true := decide_eq_true (by simp; omega)
  have l1 : (a.map PyData.int ++ [x]).length ≤ LIM := Nat.le_trans (show _ ≤ 1000 by simp; omega) (by decide)
  have num : ∀ d ∈ a.map PyData.int ++ [x], ∃ b : Bool, Fis_number_within [d, .int 0, .int (c - 1)] = some (.bool b) := fun d hd => by
    rcases List.mem_append.mp hd with z | z
    · obtain ⟨n, _, rfl⟩ := List.mem_map.mp z
      exact ⟨_, is_num_ok n 0 (c - 1)⟩
    · rw [List.mem_singleton.mp z]
      exact ⟨_, hx⟩
  have mm : (dCompO 1 [("game", 0)] (dIter (dVar 1)) (gN 0) dYes (dOwnCall 3 Fis_number_within (dCons (dVar 0) (dCons (dC (.int 0)) (dCons (d2 subD (d2 ixD (dVar 1) (dC (.int 1))) (dC (.int 1))) dNil))))) [some (.fz (.tuple [.int p, .int c])), some (.fz (.tuple (a.map PyData.int ++ [x])))] = some ((a.map PyData.int ++ [x]).map fun d => (Fis_number_within [d, .int 0, .int (c - 1)]).getD .none) := by
    refine dCompO_map _ rfl l1 fun d hd => ?_
    obtain ⟨b, hb⟩ := num d hd
    simp only [dLits,  runD, runO, stD, dSeq, dIf, dSet, dSetO, dAug, dRet, dRetN, dRetO, dDrop, dFrz, dAppend, dExtend, dRemove, dFor, dVar, dC, d2, dCall, dOwnCall, dOwnCallO, dNil, dCons, dTup, dLstO, dOwn, dB, dTru, truD, dNotT, dAndT, dOrT, dAndV, dOrV, dNotV, dIfE, dIter, seqD, dRng1, dRng2, dEn, dZip, st0D, dYes, dNext, dNever, gN, gT, gZ, gC, DL.frz, resOf, dIsi, isi_ii, isi_ib, isi_tt, isi_ll, isi_lt, isi_tl, isi_nt, lenC, len_t, len_l, allC, tupC, dListO, dInO, sub_ii, lt_ii, le_ii, gt_ii, ge_ii, iadd_ii, mul_ii, mod_ii, fdiv_ii, add_ii, dSl, dNoPart, dPart, slD, dChain, dNeg, dAsg, dTruE, dLenE, dIxE, slD', dListRng, isND, notND, dEither, dSetD, dPut, dSetDK, dPutI, dGetE, dInE, dGet2E, slotD, kvGet, kvGetI, dLenK, dRev, dSortR, List.map_cons, List.map_nil, List.length_cons, List.length_nil, List.cons_append, List.nil_append, List.append_nil, List.getElem?_cons_zero, List.getElem?_cons_succ, List.getElem?_nil, List.set_cons_zero, List.set_cons_succ, List.replicate, Option.bind_some, Option.bind_none, Option.map_some, Option.map_none, Nat.reduceAdd, Nat.reduceSub, Nat.reduceEqDiff, ↓reduceIte, if_true, if_false, Bool.not_true, Bool.not_false, Bool.and_true, Bool.true_and, Bool.false_and, Bool.and_false, Bool.or_true, Bool.true_or, Bool.or_false, Bool.false_or, reduceCtorEq, Bool.false_eq_true, i1, hb, Option.getD_some]
  have bs : boolsD ((a.map PyData.int ++ [x]).map fun d => (Fis_number_within [d, .int 0, .int (c - 1)]).getD .none) = some ((a.map fun n => decide ((0 : Int) ≤ n) && decide (n ≤ c - 1)) ++ [false]) := by
    rw [show ((a.map PyData.int ++ [x]).map fun d => (Fis_number_within [d, .int 0, .int (c - 1)]).getD .none) = ((a.map fun n => decide ((0 : Int) ≤ n) && decide (n ≤ c - 1)) ++ [false]).map PyData.bool by
      rw [List.map_append, List.map_append, List.map_map, List.map_map]
      congr 1
      · apply List.map_congr_left
        intro n _
        show (Fis_number_within [.int n, .int 0, .int (c - 1)]).getD .none = _
        rw [is_num_ok]
        rfl
      · simp [hx]]
    exact boolsD_map _
  have al2 : ((a.map fun n => decide ((0 : Int) ≤ n) && decide (n ≤ c - 1)) ++ [false]).all id = false := by simp
  simp only [Fis_code, Bis_code_tl, Bis_code_0, Bis_code_1, tupI, dLits,  runD, runO, stD, dSeq, dIf, dSet, dSetO, dAug, dRet, dRetN, dRetO, dDrop, dFrz, dAppend, dExtend, dRemove, dFor, dVar, dC, d2, dCall, dOwnCall, dOwnCallO, dNil, dCons, dTup, dLstO, dOwn, dB, dTru, truD, dNotT, dAndT, dOrT, dAndV, dOrV, dNotV, dIfE, dIter, seqD, dRng1, dRng2, dEn, dZip, st0D, dYes, dNext, dNever, gN, gT, gZ, gC, DL.frz, resOf, dIsi, isi_ii, isi_ib, isi_tt, isi_ll, isi_lt, isi_tl, isi_nt, lenC, len_t, len_l, allC, tupC, dListO, dInO, sub_ii, lt_ii, le_ii, gt_ii, ge_ii, iadd_ii, mul_ii, mod_ii, fdiv_ii, add_ii, dSl, dNoPart, dPart, slD, dChain, dNeg, dAsg, dTruE, dLenE, dIxE, slD', dListRng, isND, notND, dEither, dSetD, dPut, dSetDK, dPutI, dGetE, dInE, dGet2E, slotD, kvGet, kvGetI, dLenK, dRev, dSortR, List.map_cons, List.map_nil, List.length_cons, List.length_nil, List.cons_append, List.nil_append, List.append_nil, List.getElem?_cons_zero, List.getElem?_cons_succ, List.getElem?_nil, List.set_cons_zero, List.set_cons_succ, List.replicate, Option.bind_some, Option.bind_none, Option.map_some, Option.map_none, Nat.reduceAdd, Nat.reduceSub, Nat.reduceEqDiff, ↓reduceIte, if_true, if_false, Bool.not_true, Bool.not_false, Bool.and_true, Bool.true_and, Bool.false_and, Bool.and_false, Bool.or_true, Bool.true_or, Bool.or_false, Bool.false_or, reduceCtorEq, Bool.false_eq_true, i0, i1, neD_int, e0, l1, mm, bs, al2]
theorem told_bad {p c : Int} (h : (p, c) ∈ games) {x : List Int} (cx : Code p c x) {d : PyData} (hd : Fis_code [tupI [p, c], d] = some (.bool false)) (w : Nat) (hw : w < 6) : F_law_told [.int 2, .int ((w : Nat) : Int), tupI [p, c], tupI x, d] = some (.list [.bool false, .bool true, .bool true]) := by
  have g1 := checked_game_ok h
  have g2 := checked_code_ok h cx
  have g3 := what_fits_ok h (as := []) (fun a ha => nomatch ha) (by decide)
  have g3' : Fwhat_fits [tupI [p, c], .list []] = some (lstC ((codes p c).filter (fits []))) := g3
  have l0 : (0 : Nat) ≤ LIM := Nat.zero_le _
  have xc : Xchecked_code_BadCode [tupI [p, c], d] = true := by
    simp only [Xchecked_code_BadCode, runX, xIf2, xRaise, dLits,  runD, runO, stD, dSeq, dIf, dSet, dSetO, dAug, dRet, dRetN, dRetO, dDrop, dFrz, dAppend, dExtend, dRemove, dFor, dVar, dC, d2, dCall, dOwnCall, dOwnCallO, dNil, dCons, dTup, dLstO, dOwn, dB, dTru, truD, dNotT, dAndT, dOrT, dAndV, dOrV, dNotV, dIfE, dIter, seqD, dRng1, dRng2, dEn, dZip, st0D, dYes, dNext, dNever, gN, gT, gZ, gC, DL.frz, resOf, dIsi, isi_ii, isi_ib, isi_tt, isi_ll, isi_lt, isi_tl, isi_nt, lenC, len_t, len_l, allC, tupC, dListO, dInO, sub_ii, lt_ii, le_ii, gt_ii, ge_ii, iadd_ii, mul_ii, mod_ii, fdiv_ii, add_ii, dSl, dNoPart, dPart, slD, dChain, dNeg, dAsg, dTruE, dLenE, dIxE, slD', dListRng, isND, notND, dEither, dSetD, dPut, dSetDK, dPutI, dGetE, dInE, dGet2E, slotD, kvGet, kvGetI, dLenK, dRev, dSortR, List.map_cons, List.map_nil, List.length_cons, List.length_nil, List.cons_append, List.nil_append, List.append_nil, List.getElem?_cons_zero, List.getElem?_cons_succ, List.getElem?_nil, List.set_cons_zero, List.set_cons_succ, List.replicate, Option.bind_some, Option.bind_none, Option.map_some, Option.map_none, Nat.reduceAdd, Nat.reduceSub, Nat.reduceEqDiff, ↓reduceIte, if_true, if_false, Bool.not_true, Bool.not_false, Bool.and_true, Bool.true_and, Bool.false_and, Bool.and_false, Bool.or_true, Bool.true_or, Bool.or_false, Bool.false_or, reduceCtorEq, Bool.false_eq_true, hd]
    rfl
  have e20 : eqD (.int 2) (.int 0) = some (.bool false) := by rw [eqD_int]; rfl
  have e21 : eqD (.int 2) (.int 1) = some (.bool false) := by rw [eqD_int]; rfl
  have six : w = 0 ∨ w = 1 ∨ w = 2 ∨ w = 3 ∨ w = 4 ∨ w = 5 := by omega
  have e0_0 : eqD (.int 0) (.int 0) = some (.bool true) := by rw [eqD_int]; rfl
  have e0_1 : eqD (.int 0) (.int 1) = some (.bool false) := by rw [eqD_int]; rfl
  have e0_2 : eqD (.int 0) (.int 2) = some (.bool false) := by rw [eqD_int]; rfl
  have e0_3 : eqD (.int 0) (.int 3) = some (.bool false) := by rw [eqD_int]; rfl
  have e0_4 : eqD (.int 0) (.int 4) = some (.bool false) := by rw [eqD_int]; rfl
  have e1_0 : eqD (.int 1) (.int 0) = some (.bool false) := by rw [eqD_int]; rfl
  have e1_1 : eqD (.int 1) (.int 1) = some (.bool true) := by rw [eqD_int]; rfl
  have e1_2 : eqD (.int 1) (.int 2) = some (.bool false) := by rw [eqD_int]; rfl
  have e1_3 : eqD (.int 1) (.int 3) = some (.bool false) := by rw [eqD_int]; rfl
  have e1_4 : eqD (.int 1) (.int 4) = some (.bool false) := by rw [eqD_int]; rfl
  have e2_0 : eqD (.int 2) (.int 0) = some (.bool false) := by rw [eqD_int]; rfl
  have e2_1 : eqD (.int 2) (.int 1) = some (.bool false) := by rw [eqD_int]; rfl
  have e2_2 : eqD (.int 2) (.int 2) = some (.bool true) := by rw [eqD_int]; rfl
  have e2_3 : eqD (.int 2) (.int 3) = some (.bool false) := by rw [eqD_int]; rfl
  have e2_4 : eqD (.int 2) (.int 4) = some (.bool false) := by rw [eqD_int]; rfl
  have e3_0 : eqD (.int 3) (.int 0) = some (.bool false) := by rw [eqD_int]; rfl
  have e3_1 : eqD (.int 3) (.int 1) = some (.bool false) := by rw [eqD_int]; rfl
  have e3_2 : eqD (.int 3) (.int 2) = some (.bool false) := by rw [eqD_int]; rfl
  have e3_3 : eqD (.int 3) (.int 3) = some (.bool true) := by rw [eqD_int]; rfl
  have e3_4 : eqD (.int 3) (.int 4) = some (.bool false) := by rw [eqD_int]; rfl
  have e4_0 : eqD (.int 4) (.int 0) = some (.bool false) := by rw [eqD_int]; rfl
  have e4_1 : eqD (.int 4) (.int 1) = some (.bool false) := by rw [eqD_int]; rfl
  have e4_2 : eqD (.int 4) (.int 2) = some (.bool false) := by rw [eqD_int]; rfl
  have e4_3 : eqD (.int 4) (.int 3) = some (.bool false) := by rw [eqD_int]; rfl
  have e4_4 : eqD (.int 4) (.int 4) = some (.bool true) := by rw [eqD_int]; rfl
  have e5_0 : eqD (.int 5) (.int 0) = some (.bool false) := by rw [eqD_int]; rfl
  have e5_1 : eqD (.int 5) (.int 1) = some (.bool false) := by rw [eqD_int]; rfl
  have e5_2 : eqD (.int 5) (.int 2) = some (.bool false) := by rw [eqD_int]; rfl
  have e5_3 : eqD (.int 5) (.int 3) = some (.bool false) := by rw [eqD_int]; rfl
  have e5_4 : eqD (.int 5) (.int 4) = some (.bool false) := by rw [eqD_int]; rfl
  have x0 : XB_law_told_BadCode (stD 6 [.int 2, .int 0, tupI [p, c], tupI x, d]) = true := by
    simp only [XB_law_told_BadCode, X_law_by_code_BadCode, Xanswer_BadCode, Xsplit_BadCode, Xfoe_answer_BadCode, Xplayed_BadCode, Xleast_guess_like_BadCode, runX, xIf2, xCall, xEither, xSeq, xNext, xNo, dLits,  runD, runO, stD, dSeq, dIf, dSet, dSetO, dAug, dRet, dRetN, dRetO, dDrop, dFrz, dAppend, dExtend, dRemove, dFor, dVar, dC, d2, dCall, dOwnCall, dOwnCallO, dNil, dCons, dTup, dLstO, dOwn, dB, dTru, truD, dNotT, dAndT, dOrT, dAndV, dOrV, dNotV, dIfE, dIter, seqD, dRng1, dRng2, dEn, dZip, st0D, dYes, dNext, dNever, gN, gT, gZ, gC, DL.frz, resOf, dIsi, isi_ii, isi_ib, isi_tt, isi_ll, isi_lt, isi_tl, isi_nt, lenC, len_t, len_l, allC, tupC, dListO, dInO, sub_ii, lt_ii, le_ii, gt_ii, ge_ii, iadd_ii, mul_ii, mod_ii, fdiv_ii, add_ii, dSl, dNoPart, dPart, slD, dChain, dNeg, dAsg, dTruE, dLenE, dIxE, slD', dListRng, isND, notND, dEither, dSetD, dPut, dSetDK, dPutI, dGetE, dInE, dGet2E, slotD, kvGet, kvGetI, dLenK, dRev, dSortR, List.map_cons, List.map_nil, List.length_cons, List.length_nil, List.cons_append, List.nil_append, List.append_nil, List.getElem?_cons_zero, List.getElem?_cons_succ, List.getElem?_nil, List.set_cons_zero, List.set_cons_succ, List.replicate, Option.bind_some, Option.bind_none, Option.map_some, Option.map_none, Nat.reduceAdd, Nat.reduceSub, Nat.reduceEqDiff, ↓reduceIte, if_true, if_false, Bool.not_true, Bool.not_false, Bool.and_true, Bool.true_and, Bool.false_and, Bool.and_false, Bool.or_true, Bool.true_or, Bool.or_false, Bool.false_or, reduceCtorEq, Bool.false_eq_true, e20, e21, g1, g2, g3', l0, xc, Option.isSome_some, Bool.and_self, decide_true, e0_0, e0_1, e0_2, e0_3, e0_4]
  have x1 : XB_law_told_BadCode (stD 6 [.int 2, .int 1, tupI [p, c], tupI x, d]) = true := by
    simp only [XB_law_told_BadCode, X_law_by_code_BadCode, Xanswer_BadCode, Xsplit_BadCode, Xfoe_answer_BadCode, Xplayed_BadCode, Xleast_guess_like_BadCode, runX, xIf2, xCall, xEither, xSeq, xNext, xNo, dLits,  runD, runO, stD, dSeq, dIf, dSet, dSetO, dAug, dRet, dRetN, dRetO, dDrop, dFrz, dAppend, dExtend, dRemove, dFor, dVar, dC, d2, dCall, dOwnCall, dOwnCallO, dNil, dCons, dTup, dLstO, dOwn, dB, dTru, truD, dNotT, dAndT, dOrT, dAndV, dOrV, dNotV, dIfE, dIter, seqD, dRng1, dRng2, dEn, dZip, st0D, dYes, dNext, dNever, gN, gT, gZ, gC, DL.frz, resOf, dIsi, isi_ii, isi_ib, isi_tt, isi_ll, isi_lt, isi_tl, isi_nt, lenC, len_t, len_l, allC, tupC, dListO, dInO, sub_ii, lt_ii, le_ii, gt_ii, ge_ii, iadd_ii, mul_ii, mod_ii, fdiv_ii, add_ii, dSl, dNoPart, dPart, slD, dChain, dNeg, dAsg, dTruE, dLenE, dIxE, slD', dListRng, isND, notND, dEither, dSetD, dPut, dSetDK, dPutI, dGetE, dInE, dGet2E, slotD, kvGet, kvGetI, dLenK, dRev, dSortR, List.map_cons, List.map_nil, List.length_cons, List.length_nil, List.cons_append, List.nil_append, List.append_nil, List.getElem?_cons_zero, List.getElem?_cons_succ, List.getElem?_nil, List.set_cons_zero, List.set_cons_succ, List.replicate, Option.bind_some, Option.bind_none, Option.map_some, Option.map_none, Nat.reduceAdd, Nat.reduceSub, Nat.reduceEqDiff, ↓reduceIte, if_true, if_false, Bool.not_true, Bool.not_false, Bool.and_true, Bool.true_and, Bool.false_and, Bool.and_false, Bool.or_true, Bool.true_or, Bool.or_false, Bool.false_or, reduceCtorEq, Bool.false_eq_true, e20, e21, g1, g2, g3', l0, xc, Option.isSome_some, Bool.and_self, decide_true, e1_0, e1_1, e1_2, e1_3, e1_4]
  have x2 : XB_law_told_BadCode (stD 6 [.int 2, .int 2, tupI [p, c], tupI x, d]) = true := by
    simp only [XB_law_told_BadCode, X_law_by_code_BadCode, Xanswer_BadCode, Xsplit_BadCode, Xfoe_answer_BadCode, Xplayed_BadCode, Xleast_guess_like_BadCode, runX, xIf2, xCall, xEither, xSeq, xNext, xNo, dLits,  runD, runO, stD, dSeq, dIf, dSet, dSetO, dAug, dRet, dRetN, dRetO, dDrop, dFrz, dAppend, dExtend, dRemove, dFor, dVar, dC, d2, dCall, dOwnCall, dOwnCallO, dNil, dCons, dTup, dLstO, dOwn, dB, dTru, truD, dNotT, dAndT, dOrT, dAndV, dOrV, dNotV, dIfE, dIter, seqD, dRng1, dRng2, dEn, dZip, st0D, dYes, dNext, dNever, gN, gT, gZ, gC, DL.frz, resOf, dIsi, isi_ii, isi_ib, isi_tt, isi_ll, isi_lt, isi_tl, isi_nt, lenC, len_t, len_l, allC, tupC, dListO, dInO, sub_ii, lt_ii, le_ii, gt_ii, ge_ii, iadd_ii, mul_ii, mod_ii, fdiv_ii, add_ii, dSl, dNoPart, dPart, slD, dChain, dNeg, dAsg, dTruE, dLenE, dIxE, slD', dListRng, isND, notND, dEither, dSetD, dPut, dSetDK, dPutI, dGetE, dInE, dGet2E, slotD, kvGet, kvGetI, dLenK, dRev, dSortR, List.map_cons, List.map_nil, List.length_cons, List.length_nil, List.cons_append, List.nil_append, List.append_nil, List.getElem?_cons_zero, List.getElem?_cons_succ, List.getElem?_nil, List.set_cons_zero, List.set_cons_succ, List.replicate, Option.bind_some, Option.bind_none, Option.map_some, Option.map_none, Nat.reduceAdd, Nat.reduceSub, Nat.reduceEqDiff, ↓reduceIte, if_true, if_false, Bool.not_true, Bool.not_false, Bool.and_true, Bool.true_and, Bool.false_and, Bool.and_false, Bool.or_true, Bool.true_or, Bool.or_false, Bool.false_or, reduceCtorEq, Bool.false_eq_true, e20, e21, g1, g2, g3', l0, xc, Option.isSome_some, Bool.and_self, decide_true, e2_0, e2_1, e2_2, e2_3, e2_4]
  have x3 : XB_law_told_BadCode (stD 6 [.int 2, .int 3, tupI [p, c], tupI x, d]) = true := by
    simp only [XB_law_told_BadCode, X_law_by_code_BadCode, Xanswer_BadCode, Xsplit_BadCode, Xfoe_answer_BadCode, Xplayed_BadCode, Xleast_guess_like_BadCode, runX, xIf2, xCall, xEither, xSeq, xNext, xNo, dLits,  runD, runO, stD, dSeq, dIf, dSet, dSetO, dAug, dRet, dRetN, dRetO, dDrop, dFrz, dAppend, dExtend, dRemove, dFor, dVar, dC, d2, dCall, dOwnCall, dOwnCallO, dNil, dCons, dTup, dLstO, dOwn, dB, dTru, truD, dNotT, dAndT, dOrT, dAndV, dOrV, dNotV, dIfE, dIter, seqD, dRng1, dRng2, dEn, dZip, st0D, dYes, dNext, dNever, gN, gT, gZ, gC, DL.frz, resOf, dIsi, isi_ii, isi_ib, isi_tt, isi_ll, isi_lt, isi_tl, isi_nt, lenC, len_t, len_l, allC, tupC, dListO, dInO, sub_ii, lt_ii, le_ii, gt_ii, ge_ii, iadd_ii, mul_ii, mod_ii, fdiv_ii, add_ii, dSl, dNoPart, dPart, slD, dChain, dNeg, dAsg, dTruE, dLenE, dIxE, slD', dListRng, isND, notND, dEither, dSetD, dPut, dSetDK, dPutI, dGetE, dInE, dGet2E, slotD, kvGet, kvGetI, dLenK, dRev, dSortR, List.map_cons, List.map_nil, List.length_cons, List.length_nil, List.cons_append, List.nil_append, List.append_nil, List.getElem?_cons_zero, List.getElem?_cons_succ, List.getElem?_nil, List.set_cons_zero, List.set_cons_succ, List.replicate, Option.bind_some, Option.bind_none, Option.map_some, Option.map_none, Nat.reduceAdd, Nat.reduceSub, Nat.reduceEqDiff, ↓reduceIte, if_true, if_false, Bool.not_true, Bool.not_false, Bool.and_true, Bool.true_and, Bool.false_and, Bool.and_false, Bool.or_true, Bool.true_or, Bool.or_false, Bool.false_or, reduceCtorEq, Bool.false_eq_true, e20, e21, g1, g2, g3', l0, xc, Option.isSome_some, Bool.and_self, decide_true, e3_0, e3_1, e3_2, e3_3, e3_4]
  have x4 : XB_law_told_BadCode (stD 6 [.int 2, .int 4, tupI [p, c], tupI x, d]) = true := by
    simp only [XB_law_told_BadCode, X_law_by_code_BadCode, Xanswer_BadCode, Xsplit_BadCode, Xfoe_answer_BadCode, Xplayed_BadCode, Xleast_guess_like_BadCode, runX, xIf2, xCall, xEither, xSeq, xNext, xNo, dLits,  runD, runO, stD, dSeq, dIf, dSet, dSetO, dAug, dRet, dRetN, dRetO, dDrop, dFrz, dAppend, dExtend, dRemove, dFor, dVar, dC, d2, dCall, dOwnCall, dOwnCallO, dNil, dCons, dTup, dLstO, dOwn, dB, dTru, truD, dNotT, dAndT, dOrT, dAndV, dOrV, dNotV, dIfE, dIter, seqD, dRng1, dRng2, dEn, dZip, st0D, dYes, dNext, dNever, gN, gT, gZ, gC, DL.frz, resOf, dIsi, isi_ii, isi_ib, isi_tt, isi_ll, isi_lt, isi_tl, isi_nt, lenC, len_t, len_l, allC, tupC, dListO, dInO, sub_ii, lt_ii, le_ii, gt_ii, ge_ii, iadd_ii, mul_ii, mod_ii, fdiv_ii, add_ii, dSl, dNoPart, dPart, slD, dChain, dNeg, dAsg, dTruE, dLenE, dIxE, slD', dListRng, isND, notND, dEither, dSetD, dPut, dSetDK, dPutI, dGetE, dInE, dGet2E, slotD, kvGet, kvGetI, dLenK, dRev, dSortR, List.map_cons, List.map_nil, List.length_cons, List.length_nil, List.cons_append, List.nil_append, List.append_nil, List.getElem?_cons_zero, List.getElem?_cons_succ, List.getElem?_nil, List.set_cons_zero, List.set_cons_succ, List.replicate, Option.bind_some, Option.bind_none, Option.map_some, Option.map_none, Nat.reduceAdd, Nat.reduceSub, Nat.reduceEqDiff, ↓reduceIte, if_true, if_false, Bool.not_true, Bool.not_false, Bool.and_true, Bool.true_and, Bool.false_and, Bool.and_false, Bool.or_true, Bool.true_or, Bool.or_false, Bool.false_or, reduceCtorEq, Bool.false_eq_true, e20, e21, g1, g2, g3', l0, xc, Option.isSome_some, Bool.and_self, decide_true, e4_0, e4_1, e4_2, e4_3, e4_4]
  have x5 : XB_law_told_BadCode (stD 6 [.int 2, .int 5, tupI [p, c], tupI x, d]) = true := by
    simp only [XB_law_told_BadCode, X_law_by_code_BadCode, Xanswer_BadCode, Xsplit_BadCode, Xfoe_answer_BadCode, Xplayed_BadCode, Xleast_guess_like_BadCode, runX, xIf2, xCall, xEither, xSeq, xNext, xNo, dLits,  runD, runO, stD, dSeq, dIf, dSet, dSetO, dAug, dRet, dRetN, dRetO, dDrop, dFrz, dAppend, dExtend, dRemove, dFor, dVar, dC, d2, dCall, dOwnCall, dOwnCallO, dNil, dCons, dTup, dLstO, dOwn, dB, dTru, truD, dNotT, dAndT, dOrT, dAndV, dOrV, dNotV, dIfE, dIter, seqD, dRng1, dRng2, dEn, dZip, st0D, dYes, dNext, dNever, gN, gT, gZ, gC, DL.frz, resOf, dIsi, isi_ii, isi_ib, isi_tt, isi_ll, isi_lt, isi_tl, isi_nt, lenC, len_t, len_l, allC, tupC, dListO, dInO, sub_ii, lt_ii, le_ii, gt_ii, ge_ii, iadd_ii, mul_ii, mod_ii, fdiv_ii, add_ii, dSl, dNoPart, dPart, slD, dChain, dNeg, dAsg, dTruE, dLenE, dIxE, slD', dListRng, isND, notND, dEither, dSetD, dPut, dSetDK, dPutI, dGetE, dInE, dGet2E, slotD, kvGet, kvGetI, dLenK, dRev, dSortR, List.map_cons, List.map_nil, List.length_cons, List.length_nil, List.cons_append, List.nil_append, List.append_nil, List.getElem?_cons_zero, List.getElem?_cons_succ, List.getElem?_nil, List.set_cons_zero, List.set_cons_succ, List.replicate, Option.bind_some, Option.bind_none, Option.map_some, Option.map_none, Nat.reduceAdd, Nat.reduceSub, Nat.reduceEqDiff, ↓reduceIte, if_true, if_false, Bool.not_true, Bool.not_false, Bool.and_true, Bool.true_and, Bool.false_and, Bool.and_false, Bool.or_true, Bool.true_or, Bool.or_false, Bool.false_or, reduceCtorEq, Bool.false_eq_true, e20, e21, g1, g2, g3', l0, xc, Option.isSome_some, Bool.and_self, decide_true, e5_0, e5_1, e5_2, e5_3, e5_4]
  have xb : XB_law_told_BadCode (stD 6 [.int 2, .int ((w : Nat) : Int), tupI [p, c], tupI x, d]) = true := by
    rcases six with rfl | rfl | rfl | rfl | rfl | rfl
    · exact x0
    · exact x1
    · exact x2
    · exact x3
    · exact x4
    · exact x5
  unfold F_law_told
  rw [if_pos xb]
theorem atI_mem {L : List PyData} {m : Int} (h0 : 0 ≤ m) (h1 : m < (L.length : Int)) : ∃ d ∈ L, atI L m = some d := by
  have h2 : m.toNat < L.length := by omega
  refine ⟨L[m.toNat], List.getElem_mem h2, ?_⟩
  have := atI_nat' (xs := L) h2
  rwa [Int.toNat_of_nonneg h0] at this
theorem ne_t : neD (.list [.bool true, .bool false, .bool true]) (.list [.bool true, .bool false, .bool true]) = some (.bool false) := rfl
theorem ne_c : neD (.list [.bool false, .bool true, .bool true]) (.list [.bool false, .bool true, .bool true]) = some (.bool false) := rfl
theorem comp0 {p c : Int} {d : PyData} {s n : Nat} (hn : n ≤ 100) (H : ∀ w : Nat, w < n → F_law_told [.int ((s : Nat) : Int), .int ((w : Nat) : Int), tupI [p, c], .none, d] = some (.list [.bool true, .bool false, .bool true])) (v0 v2 v6 v7 : Option Sl) :
    (dCompO 1 [("_law_sort", 4), ("_law_game_here", 1), ("_law_bad", 3)] (dRng1 (dCons (dVar 5) dNil)) (gN 0) (dB (d2 neD (dOwnCall 5 F_law_told (dCons (dVar 1) (dCons (dVar 0) (dCons (dVar 2) (dCons (dC .none) (dCons (dVar 3) dNil)))))) (dOwn (dLstO (dCons (dC (.bool true)) (dCons (dC (.bool false)) (dCons (dC (.bool true)) dNil))))))) (dVar 0)) [v0, some (.fz (tupI [p, c])), v2, some (.fz d), some (.fz (.int ((s : Nat) : Int))), some (.fz (.int ((n : Nat) : Int))), v6, v7] = some [] := by
  have sm : smallI ((n : Nat) : Int) = true := rng_ok (by omega) (by omega)
  have l3 : (3 : Nat) ≤ LIM := lit_le 3
  have hi : (dRng1 (dCons (dVar 5) dNil)) [v0, some (.fz (tupI [p, c])), v2, some (.fz d), some (.fz (.int ((s : Nat) : Int))), some (.fz (.int ((n : Nat) : Int))), v6, v7] = some (rangeD 0 n) := by
    simp only [dLits,  runD, runO, stD, dSeq, dIf, dSet, dSetO, dAug, dRet, dRetN, dRetO, dDrop, dFrz, dAppend, dExtend, dRemove, dFor, dVar, dC, d2, dCall, dOwnCall, dOwnCallO, dNil, dCons, dTup, dLstO, dOwn, dB, dTru, truD, dNotT, dAndT, dOrT, dAndV, dOrV, dNotV, dIfE, dIter, seqD, dRng1, dRng2, dEn, dZip, st0D, dYes, dNext, dNever, gN, gT, gZ, gC, DL.frz, resOf, dIsi, isi_ii, isi_ib, isi_tt, isi_ll, isi_lt, isi_tl, isi_nt, lenC, len_t, len_l, allC, tupC, dListO, dInO, sub_ii, lt_ii, le_ii, gt_ii, ge_ii, iadd_ii, mul_ii, mod_ii, fdiv_ii, add_ii, dSl, dNoPart, dPart, slD, dChain, dNeg, dAsg, dTruE, dLenE, dIxE, slD', dListRng, isND, notND, dEither, dSetD, dPut, dSetDK, dPutI, dGetE, dInE, dGet2E, slotD, kvGet, kvGetI, dLenK, dRev, dSortR, List.map_cons, List.map_nil, List.length_cons, List.length_nil, List.cons_append, List.nil_append, List.append_nil, List.getElem?_cons_zero, List.getElem?_cons_succ, List.getElem?_nil, List.set_cons_zero, List.set_cons_succ, List.replicate, Option.bind_some, Option.bind_none, Option.map_some, Option.map_none, Nat.reduceAdd, Nat.reduceSub, Nat.reduceEqDiff, ↓reduceIte, if_true, if_false, Bool.not_true, Bool.not_false, Bool.and_true, Bool.true_and, Bool.false_and, Bool.and_false, Bool.or_true, Bool.true_or, Bool.or_false, Bool.false_or, reduceCtorEq, Bool.false_eq_true, sm, Int.toNat_natCast]
  rw [dCompO_filter (fun _ => false) id hi (by simp [rangeD]; exact lim625 (by omega)) (fun e he => by
    rw [range_int] at he
    obtain ⟨w, hw, rfl⟩ := List.mem_map.mp he
    have hw' := H w (by simpa using hw)
    simp only [dLits,  runD, runO, stD, dSeq, dIf, dSet, dSetO, dAug, dRet, dRetN, dRetO, dDrop, dFrz, dAppend, dExtend, dRemove, dFor, dVar, dC, d2, dCall, dOwnCall, dOwnCallO, dNil, dCons, dTup, dLstO, dOwn, dB, dTru, truD, dNotT, dAndT, dOrT, dAndV, dOrV, dNotV, dIfE, dIter, seqD, dRng1, dRng2, dEn, dZip, st0D, dYes, dNext, dNever, gN, gT, gZ, gC, DL.frz, resOf, dIsi, isi_ii, isi_ib, isi_tt, isi_ll, isi_lt, isi_tl, isi_nt, lenC, len_t, len_l, allC, tupC, dListO, dInO, sub_ii, lt_ii, le_ii, gt_ii, ge_ii, iadd_ii, mul_ii, mod_ii, fdiv_ii, add_ii, dSl, dNoPart, dPart, slD, dChain, dNeg, dAsg, dTruE, dLenE, dIxE, slD', dListRng, isND, notND, dEither, dSetD, dPut, dSetDK, dPutI, dGetE, dInE, dGet2E, slotD, kvGet, kvGetI, dLenK, dRev, dSortR, List.map_cons, List.map_nil, List.length_cons, List.length_nil, List.cons_append, List.nil_append, List.append_nil, List.getElem?_cons_zero, List.getElem?_cons_succ, List.getElem?_nil, List.set_cons_zero, List.set_cons_succ, List.replicate, Option.bind_some, Option.bind_none, Option.map_some, Option.map_none, Nat.reduceAdd, Nat.reduceSub, Nat.reduceEqDiff, ↓reduceIte, if_true, if_false, Bool.not_true, Bool.not_false, Bool.and_true, Bool.true_and, Bool.false_and, Bool.and_false, Bool.or_true, Bool.true_or, Bool.or_false, Bool.false_or, reduceCtorEq, Bool.false_eq_true, l3, hw', ne_t])]
  simp
theorem comp1 {p c : Int} {x : List Int} {d : PyData} (H : ∀ w : Nat, w < 6 → F_law_told [.int 2, .int ((w : Nat) : Int), tupI [p, c], tupI x, d] = some (.list [.bool false, .bool true, .bool true])) (v0 v2 v4 v5 v7 : Option Sl) :
    (dCompO 1 [("_law_game_here", 1), ("_law_good", 6), ("_law_bad", 3)] (dRng1 (dCons (dC (.int 6)) dNil)) (gN 0) (dB (d2 neD (dOwnCall 5 F_law_told (dCons (dC (.int 2)) (dCons (dVar 0) (dCons (dVar 1) (dCons (dVar 2) (dCons (dVar 3) dNil)))))) (dOwn (dLstO (dCons (dC (.bool false)) (dCons (dC (.bool true)) (dCons (dC (.bool true)) dNil))))))) (dVar 0)) [v0, some (.fz (tupI [p, c])), v2, some (.fz d), v4, v5, some (.fz (tupI x)), v7] = some [] := by
  have sm : smallI 6 = true := rng_ok (by omega) (by omega)
  have l3 : (3 : Nat) ≤ LIM := lit_le 3
  have hi : (dRng1 (dCons (dC (.int 6)) dNil)) [v0, some (.fz (tupI [p, c])), v2, some (.fz d), v4, v5, some (.fz (tupI x)), v7] = some (rangeD 0 6) := by
    simp only [dLits,  runD, runO, stD, dSeq, dIf, dSet, dSetO, dAug, dRet, dRetN, dRetO, dDrop, dFrz, dAppend, dExtend, dRemove, dFor, dVar, dC, d2, dCall, dOwnCall, dOwnCallO, dNil, dCons, dTup, dLstO, dOwn, dB, dTru, truD, dNotT, dAndT, dOrT, dAndV, dOrV, dNotV, dIfE, dIter, seqD, dRng1, dRng2, dEn, dZip, st0D, dYes, dNext, dNever, gN, gT, gZ, gC, DL.frz, resOf, dIsi, isi_ii, isi_ib, isi_tt, isi_ll, isi_lt, isi_tl, isi_nt, lenC, len_t, len_l, allC, tupC, dListO, dInO, sub_ii, lt_ii, le_ii, gt_ii, ge_ii, iadd_ii, mul_ii, mod_ii, fdiv_ii, add_ii, dSl, dNoPart, dPart, slD, dChain, dNeg, dAsg, dTruE, dLenE, dIxE, slD', dListRng, isND, notND, dEither, dSetD, dPut, dSetDK, dPutI, dGetE, dInE, dGet2E, slotD, kvGet, kvGetI, dLenK, dRev, dSortR, List.map_cons, List.map_nil, List.length_cons, List.length_nil, List.cons_append, List.nil_append, List.append_nil, List.getElem?_cons_zero, List.getElem?_cons_succ, List.getElem?_nil, List.set_cons_zero, List.set_cons_succ, List.replicate, Option.bind_some, Option.bind_none, Option.map_some, Option.map_none, Nat.reduceAdd, Nat.reduceSub, Nat.reduceEqDiff, ↓reduceIte, if_true, if_false, Bool.not_true, Bool.not_false, Bool.and_true, Bool.true_and, Bool.false_and, Bool.and_false, Bool.or_true, Bool.true_or, Bool.or_false, Bool.false_or, reduceCtorEq, Bool.false_eq_true, sm]
    rfl
  rw [dCompO_filter (fun _ => false) id hi (by simp [rangeD]; exact lim625 (by omega)) (fun e he => by
    rw [range_int] at he
    obtain ⟨w, hw, rfl⟩ := List.mem_map.mp he
    have hw' := H w (by simpa using hw)
    simp only [dLits,  runD, runO, stD, dSeq, dIf, dSet, dSetO, dAug, dRet, dRetN, dRetO, dDrop, dFrz, dAppend, dExtend, dRemove, dFor, dVar, dC, d2, dCall, dOwnCall, dOwnCallO, dNil, dCons, dTup, dLstO, dOwn, dB, dTru, truD, dNotT, dAndT, dOrT, dAndV, dOrV, dNotV, dIfE, dIter, seqD, dRng1, dRng2, dEn, dZip, st0D, dYes, dNext, dNever, gN, gT, gZ, gC, DL.frz, resOf, dIsi, isi_ii, isi_ib, isi_tt, isi_ll, isi_lt, isi_tl, isi_nt, lenC, len_t, len_l, allC, tupC, dListO, dInO, sub_ii, lt_ii, le_ii, gt_ii, ge_ii, iadd_ii, mul_ii, mod_ii, fdiv_ii, add_ii, dSl, dNoPart, dPart, slD, dChain, dNeg, dAsg, dTruE, dLenE, dIxE, slD', dListRng, isND, notND, dEither, dSetD, dPut, dSetDK, dPutI, dGetE, dInE, dGet2E, slotD, kvGet, kvGetI, dLenK, dRev, dSortR, List.map_cons, List.map_nil, List.length_cons, List.length_nil, List.cons_append, List.nil_append, List.append_nil, List.getElem?_cons_zero, List.getElem?_cons_succ, List.getElem?_nil, List.set_cons_zero, List.set_cons_succ, List.replicate, Option.bind_some, Option.bind_none, Option.map_some, Option.map_none, Nat.reduceAdd, Nat.reduceSub, Nat.reduceEqDiff, ↓reduceIte, if_true, if_false, Bool.not_true, Bool.not_false, Bool.and_true, Bool.true_and, Bool.false_and, Bool.and_false, Bool.or_true, Bool.true_or, Bool.or_false, Bool.false_or, reduceCtorEq, Bool.false_eq_true, l3, hw', ne_c])]
  simp
theorem odd_loop {p c : Int} (h : (p, c) ∈ games) {d : PyData} (hd : d ∈ oddG) (v0 v2 : Option Sl) : ∃ v4 v5, loopD ((gT 2 (gC (gN 4) (gC (gN 5) gZ)))) ((dIf (dTru (dOwn (dCompO 1 [("_law_sort", 4), ("_law_game_here", 1), ("_law_bad", 3)] (dRng1 (dCons (dVar 5) dNil)) (gN 0) (dB (d2 neD (dOwnCall 5 F_law_told (dCons (dVar 1) (dCons (dVar 0) (dCons (dVar 2) (dCons (dC .none) (dCons (dVar 3) dNil)))))) (dOwn (dLstO (dCons (dC (.bool true)) (dCons (dC (.bool false)) (dCons (dC (.bool true)) dNil))))))) (dVar 0)))) (dRet (dC (.bool false))) dNext)) [.tuple [.int 0, .int 8], .tuple [.int 1, .int 6]] [v0, some (.fz (tupI [p, c])), v2, some (.fz d), none, none, none, none] =
    some (.nx [v0, some (.fz (tupI [p, c])), v2, some (.fz d), v4, v5, none, none]) := by
  have q := List.all_eq_true.mp (odd_told h) d hd
  rw [Bool.and_eq_true, List.all_eq_true, List.all_eq_true] at q
  have q0 : ∀ w : Nat, w < 8 → F_law_told [.int ((0 : Nat) : Int), .int ((w : Nat) : Int), tupI [p, c], .none, d] = some (.list [.bool true, .bool false, .bool true]) := fun w hw => isTFT_of (q.1 w (List.mem_range.mpr hw))
  have q1 : ∀ w : Nat, w < 6 → F_law_told [.int ((1 : Nat) : Int), .int ((w : Nat) : Int), tupI [p, c], .none, d] = some (.list [.bool true, .bool false, .bool true]) := fun w hw => isTFT_of (q.2 w (List.mem_range.mpr hw))
  have c0 : (dCompO 1 [("_law_sort", 4), ("_law_game_here", 1), ("_law_bad", 3)] (dRng1 (dCons (dVar 5) dNil)) (gN 0) (dB (d2 neD (dOwnCall 5 F_law_told (dCons (dVar 1) (dCons (dVar 0) (dCons (dVar 2) (dCons (dC .none) (dCons (dVar 3) dNil)))))) (dOwn (dLstO (dCons (dC (.bool true)) (dCons (dC (.bool false)) (dCons (dC (.bool true)) dNil))))))) (dVar 0)) [v0, some (.fz (tupI [p, c])), v2, some (.fz d), some (.fz (.int 0)), some (.fz (.int 8)), none, none] = some [] := comp0 (s := 0) (n := 8) (by decide) q0 v0 v2 none none
  have c1 : (dCompO 1 [("_law_sort", 4), ("_law_game_here", 1), ("_law_bad", 3)] (dRng1 (dCons (dVar 5) dNil)) (gN 0) (dB (d2 neD (dOwnCall 5 F_law_told (dCons (dVar 1) (dCons (dVar 0) (dCons (dVar 2) (dCons (dC .none) (dCons (dVar 3) dNil)))))) (dOwn (dLstO (dCons (dC (.bool true)) (dCons (dC (.bool false)) (dCons (dC (.bool true)) dNil))))))) (dVar 0)) [v0, some (.fz (tupI [p, c])), v2, some (.fz d), some (.fz (.int 1)), some (.fz (.int 6)), none, none] = some [] := comp0 (s := 1) (n := 6) (by decide) q1 v0 v2 none none
  obtain ⟨δ', e1, v4, v5, e2⟩ := loopD_of (fg := (gT 2 (gC (gN 4) (gC (gN 5) gZ)))) (fb := (dIf (dTru (dOwn (dCompO 1 [("_law_sort", 4), ("_law_game_here", 1), ("_law_bad", 3)] (dRng1 (dCons (dVar 5) dNil)) (gN 0) (dB (d2 neD (dOwnCall 5 F_law_told (dCons (dVar 1) (dCons (dVar 0) (dCons (dVar 2) (dCons (dC .none) (dCons (dVar 3) dNil)))))) (dOwn (dLstO (dCons (dC (.bool true)) (dCons (dC (.bool false)) (dCons (dC (.bool true)) dNil))))))) (dVar 0)))) (dRet (dC (.bool false))) dNext)) (ds := [.tuple [.int 0, .int 8], .tuple [.int 1, .int 6]]) (δ := [v0, some (.fz (tupI [p, c])), v2, some (.fz d), none, none, none, none])
    (fun i δ => ∃ v4 v5, δ = [v0, some (.fz (tupI [p, c])), v2, some (.fz d), v4, v5, none, none]) ⟨none, none, rfl⟩ (by
      rintro i hi δ ⟨v4, v5, rfl⟩
      have : i = 0 ∨ i = 1 := by simp at hi; omega
      rcases this with rfl | rfl
      · refine ⟨_, _, rfl, ?_, some (.fz (.int 0)), some (.fz (.int 8)), rfl⟩
        simp only [dLits,  runD, runO, stD, dSeq, dIf, dSet, dSetO, dAug, dRet, dRetN, dRetO, dDrop, dFrz, dAppend, dExtend, dRemove, dFor, dVar, dC, d2, dCall, dOwnCall, dOwnCallO, dNil, dCons, dTup, dLstO, dOwn, dB, dTru, truD, dNotT, dAndT, dOrT, dAndV, dOrV, dNotV, dIfE, dIter, seqD, dRng1, dRng2, dEn, dZip, st0D, dYes, dNext, dNever, gN, gT, gZ, gC, DL.frz, resOf, dIsi, isi_ii, isi_ib, isi_tt, isi_ll, isi_lt, isi_tl, isi_nt, lenC, len_t, len_l, allC, tupC, dListO, dInO, sub_ii, lt_ii, le_ii, gt_ii, ge_ii, iadd_ii, mul_ii, mod_ii, fdiv_ii, add_ii, dSl, dNoPart, dPart, slD, dChain, dNeg, dAsg, dTruE, dLenE, dIxE, slD', dListRng, isND, notND, dEither, dSetD, dPut, dSetDK, dPutI, dGetE, dInE, dGet2E, slotD, kvGet, kvGetI, dLenK, dRev, dSortR, List.map_cons, List.map_nil, List.length_cons, List.length_nil, List.cons_append, List.nil_append, List.append_nil, List.getElem?_cons_zero, List.getElem?_cons_succ, List.getElem?_nil, List.set_cons_zero, List.set_cons_succ, List.replicate, Option.bind_some, Option.bind_none, Option.map_some, Option.map_none, Nat.reduceAdd, Nat.reduceSub, Nat.reduceEqDiff, ↓reduceIte, if_true, if_false, Bool.not_true, Bool.not_false, Bool.and_true, Bool.true_and, Bool.false_and, Bool.and_false, Bool.or_true, Bool.true_or, Bool.or_false, Bool.false_or, reduceCtorEq, Bool.false_eq_true, c0, List.isEmpty_nil]
      · refine ⟨_, _, rfl, ?_, some (.fz (.int 1)), some (.fz (.int 6)), rfl⟩
        simp only [dLits,  runD, runO, stD, dSeq, dIf, dSet, dSetO, dAug, dRet, dRetN, dRetO, dDrop, dFrz, dAppend, dExtend, dRemove, dFor, dVar, dC, d2, dCall, dOwnCall, dOwnCallO, dNil, dCons, dTup, dLstO, dOwn, dB, dTru, truD, dNotT, dAndT, dOrT, dAndV, dOrV, dNotV, dIfE, dIter, seqD, dRng1, dRng2, dEn, dZip, st0D, dYes, dNext, dNever, gN, gT, gZ, gC, DL.frz, resOf, dIsi, isi_ii, isi_ib, isi_tt, isi_ll, isi_lt, isi_tl, isi_nt, lenC, len_t, len_l, allC, tupC, dListO, dInO, sub_ii, lt_ii, le_ii, gt_ii, ge_ii, iadd_ii, mul_ii, mod_ii, fdiv_ii, add_ii, dSl, dNoPart, dPart, slD, dChain, dNeg, dAsg, dTruE, dLenE, dIxE, slD', dListRng, isND, notND, dEither, dSetD, dPut, dSetDK, dPutI, dGetE, dInE, dGet2E, slotD, kvGet, kvGetI, dLenK, dRev, dSortR, List.map_cons, List.map_nil, List.length_cons, List.length_nil, List.cons_append, List.nil_append, List.append_nil, List.getElem?_cons_zero, List.getElem?_cons_succ, List.getElem?_nil, List.set_cons_zero, List.set_cons_succ, List.replicate, Option.bind_some, Option.bind_none, Option.map_some, Option.map_none, Nat.reduceAdd, Nat.reduceSub, Nat.reduceEqDiff, ↓reduceIte, if_true, if_false, Bool.not_true, Bool.not_false, Bool.and_true, Bool.true_and, Bool.false_and, Bool.and_false, Bool.or_true, Bool.true_or, Bool.or_false, Bool.false_or, reduceCtorEq, Bool.false_eq_true, c1, List.isEmpty_nil])
  subst e2
  exact ⟨v4, v5, e1⟩
theorem neD_lst (a : List (List Int)) : neD (lstC a) (lstC a) = some (.bool false) := by
  have ok : okN 2 (lstC a) := okN_list fun d hd => by
    obtain ⟨x, _, rfl⟩ := tup_mem hd
    exact okN_tupI x
  have nb' : nb (lstC a) = true := nb_list fun d hd => by
    obtain ⟨x, _, rfl⟩ := tup_mem hd
    exact nb_tupI x
  rw [neD_of ok.ok ok.ok, (eqv_iff _ _ nb' nb').mpr rfl]
  rfl
theorem law_true (ns : List Int) (hl : ns.length ≤ 63) : Flaw [scr ns] = some (.bool true) := by
  obtain ⟨p, c, hg, hm⟩ := game_ok ns hl 2
  have b := games_b hm
  have hg' : F_law_game [scr ns, .int 2] = some (tupI [p, c]) := hg
  have k0 : F_law_cell [scr ns, .int 0] = some (.int (cellI ns 0)) := cell_ok ns 0
  have k1 : F_law_cell [scr ns, .int 1] = some (.int (cellI ns 1)) := cell_ok ns 1
  have k3 : F_law_cell [scr ns, .int 3] = some (.int (cellI ns 3)) := cell_ok ns 3
  have g1 := checked_game_ok hm
  have n1 : neD (tupI [p, c]) (tupI [p, c]) = some (.bool false) := by rw [neD_tupI, decide_eq_true rfl]; rfl
  have a1 := all_codes_ok hm
  have a2 := law_codes_ok hm
  have n2 := neD_lst (codes p c)
  have m14 : cMod (cellI ns 0) 14 = true := by unfold cMod; decide
  have m10 : cMod (cellI ns 1) 10 = true := by unfold cMod; decide
  obtain ⟨d, hd, ed⟩ := atI_mem (L := oddG) (m := cellI ns 0 % 14) (Int.emod_nonneg _ (by decide)) (Int.emod_lt_of_pos _ (by decide))
  have ed' : ixD (.list oddG) (.int (cellI ns 0 % 14)) = some d := ed
  obtain ⟨v4, v5, lp⟩ := odd_loop hm hd (some (.fz (scr ns))) (some (.fz (.list oddG)))
  have hc : F_law_code [tupI [p, c], .int (cellI ns 3)] = some (tupI (codeI p c (cellI ns 3))) := code_ok hm _
  have cx := codeI_code hm (cellI ns 3)
  generalize codeI p c (cellI ns 3) = x at hc cx
  have lx := cx.len
  have cut : cutD (x.map PyData.int) (some 1) none = (x.drop 1).map PyData.int := cut_from (a := x) (t := 1) (by decide) (by omega)
  have adE : ∀ (y : List Int) (e : PyData), y.length ≤ 100 → addD (.tuple (y.map PyData.int)) (.tuple [e]) = some (.tuple (y.map PyData.int ++ [e])) := fun y e hy => by
    have q : (y.map PyData.int).length + [e].length ≤ LIM := by rw [List.length_map]; exact lim625 (by simp; omega)
    simp only [addD, q, ↓reduceIte]
  have ad0 := adE x (.int 0) (by omega)
  have dl : (x.drop 1).length ≤ 100 := by rw [List.length_drop]; omega
  have ad1 := adE (x.drop 1) (.int c) dl
  have ad2 := adE (x.drop 1) (.int (-1)) dl
  have ad3 := adE (x.drop 1) (.bool false) dl
  have ad4 := adE (x.drop 1) (.str (PySem.Str.ofString "0")) dl
  have ad5 := adE (x.drop 1) .none dl
  have i0 : ixD (tupI [p, c]) (.int 0) = some (.int p) := rfl
  have i1 : ixD (tupI [p, c]) (.int 1) = some (.int c) := rfl
  have ms : mulSD (.str (PySem.Str.ofString "a")) (.int p) = some (.str (repA p)) := by
    show (if PySem.Str.ofString "a" = PySem.Str.ofString "a" ∧ 1 ≤ p ∧ p ≤ 5 then some (PyData.str (repA p)) else none) = _
    rw [if_pos ⟨rfl, by omega, by omega⟩]
  have lt1 : (((x.drop 1).length + 1 : Nat) : Int) = p := by rw [List.length_drop]; omega
  have bad : ∀ e ∈ [PyData.none, .list (x.map .int), .tuple (x.map .int ++ [.int 0]), .tuple ((x.drop 1).map .int), .tuple ((x.drop 1).map .int ++ [.int c]), .tuple ((x.drop 1).map .int ++ [.int (-1)]), .tuple ((x.drop 1).map .int ++ [.bool false]), .tuple ((x.drop 1).map .int ++ [.str (PySem.Str.ofString "0")]), .str (repA p), .tuple ((x.drop 1).map .int ++ [.none])], Fis_code [tupI [p, c], e] = some (.bool false) := by
    intro e he
    simp only [List.mem_cons, List.not_mem_nil, or_false] at he
    rcases he with rfl | rfl | rfl | rfl | rfl | rfl | rfl | rfl | rfl | rfl
    · exact not_tuple rfl (fun _ z => nomatch z)
    · exact not_tuple (by simp [isiN, tyD]) (fun _ z => nomatch z)
    · exact bad_len (by simp; omega)
    · exact bad_len (by simp; omega)
    · exact bad_last lt1 dl (by rw [is_num_ok, decide_eq_false (show ¬ c ≤ c - 1 by omega), Bool.and_false])
    · exact bad_last lt1 dl (by rw [is_num_ok, decide_eq_false (show ¬ (0 : Int) ≤ -1 by omega), Bool.false_and])
    · exact bad_last lt1 dl (num_bool false 0 (c - 1))
    · exact bad_last lt1 dl (num_str _ 0 (c - 1))
    · exact not_tuple (by simp [isiN, tyD]) (fun _ z => nomatch z)
    · exact bad_last lt1 dl (num_none 0 (c - 1))
  obtain ⟨e, he, ee⟩ := atI_mem (L := [PyData.none, .list (x.map .int), .tuple (x.map .int ++ [.int 0]), .tuple ((x.drop 1).map .int), .tuple ((x.drop 1).map .int ++ [.int c]), .tuple ((x.drop 1).map .int ++ [.int (-1)]), .tuple ((x.drop 1).map .int ++ [.bool false]), .tuple ((x.drop 1).map .int ++ [.str (PySem.Str.ofString "0")]), .str (repA p), .tuple ((x.drop 1).map .int ++ [.none])]) (m := cellI ns 1 % 10) (Int.emod_nonneg _ (by decide)) (Int.emod_lt_of_pos _ (by decide))
  have ee' : ixD (.list [PyData.none, .list (x.map .int), .tuple (x.map .int ++ [.int 0]), .tuple ((x.drop 1).map .int), .tuple ((x.drop 1).map .int ++ [.int c]), .tuple ((x.drop 1).map .int ++ [.int (-1)]), .tuple ((x.drop 1).map .int ++ [.bool false]), .tuple ((x.drop 1).map .int ++ [.str (PySem.Str.ofString "0")]), .str (repA p), .tuple ((x.drop 1).map .int ++ [.none])]) (.int (cellI ns 1 % 10)) = some e := ee
  have td := told_bad hm cx (bad e he)
  have l0 : (0 : Nat) ≤ LIM := Nat.zero_le _
  have l1 : (1 : Nat) ≤ LIM := lit_le 1
  have l2 : (2 : Nat) ≤ LIM := lit_le 2
  have l3 : (3 : Nat) ≤ LIM := lit_le 3
  have l7 : (7 : Nat) ≤ LIM := lit_le 7
  have l14 : (14 : Nat) ≤ LIM := lit_le 14
  have ca : addD (.list [PyData.none, .list (x.map .int), .tuple (x.map .int ++ [.int 0]), .tuple ((x.drop 1).map .int), .tuple ((x.drop 1).map .int ++ [.int c]), .tuple ((x.drop 1).map .int ++ [.int (-1)]), .tuple ((x.drop 1).map .int ++ [.bool false])]) (.list [.tuple ((x.drop 1).map .int ++ [.str (PySem.Str.ofString "0")]), .str (repA p), .tuple ((x.drop 1).map .int ++ [.none])]) = some (.list [PyData.none, .list (x.map .int), .tuple (x.map .int ++ [.int 0]), .tuple ((x.drop 1).map .int), .tuple ((x.drop 1).map .int ++ [.int c]), .tuple ((x.drop 1).map .int ++ [.int (-1)]), .tuple ((x.drop 1).map .int ++ [.bool false]), .tuple ((x.drop 1).map .int ++ [.str (PySem.Str.ofString "0")]), .str (repA p), .tuple ((x.drop 1).map .int ++ [.none])]) := by
    have q : (10 : Nat) ≤ LIM := lit_le 10
    simp only [addD, List.length_cons, List.length_nil, Nat.reduceAdd, q, ↓reduceIte, List.cons_append, List.nil_append]
  have cm := fun v7 => comp1 (p := p) (c := c) (x := x) (d := e) td (some (.fz (scr ns))) (some (.fz (.list oddG))) v4 v5 v7
  have q0 : eqD (.list []) (.list []) = some (.bool true) := rfl
  simp only [oddG] at ed' lp cm
  simp only [tupI, List.map_cons, List.map_nil] at hg' g1 n1 a1 a2 lp hc i0 i1 cm
  simp only [Flaw, Blaw_tl, Blaw_0, Blaw_1, Blaw_2, Blaw_3, Blaw_4, Blaw_5, Blaw_6, Blaw_7, Blaw_8, Blaw_9, dLits,  runD, runO, stD, dSeq, dIf, dSet, dSetO, dAug, dRet, dRetN, dRetO, dDrop, dFrz, dAppend, dExtend, dRemove, dFor, dVar, dC, d2, dCall, dOwnCall, dOwnCallO, dNil, dCons, dTup, dLstO, dOwn, dB, dTru, truD, dNotT, dAndT, dOrT, dAndV, dOrV, dNotV, dIfE, dIter, seqD, dRng1, dRng2, dEn, dZip, st0D, dYes, dNext, dNever, gN, gT, gZ, gC, DL.frz, resOf, dIsi, isi_ii, isi_ib, isi_tt, isi_ll, isi_lt, isi_tl, isi_nt, lenC, len_t, len_l, allC, tupC, dListO, dInO, sub_ii, lt_ii, le_ii, gt_ii, ge_ii, iadd_ii, mul_ii, mod_ii, fdiv_ii, add_ii, dSl, dNoPart, dPart, slD, dChain, dNeg, dAsg, dTruE, dLenE, dIxE, slD', dListRng, isND, notND, dEither, dSetD, dPut, dSetDK, dPutI, dGetE, dInE, dGet2E, slotD, kvGet, kvGetI, dLenK, dRev, dSortR, List.map_cons, List.map_nil, List.length_cons, List.length_nil, List.cons_append, List.nil_append, List.append_nil, List.getElem?_cons_zero, List.getElem?_cons_succ, List.getElem?_nil, List.set_cons_zero, List.set_cons_succ, List.replicate, Option.bind_some, Option.bind_none, Option.map_some, Option.map_none, Nat.reduceAdd, Nat.reduceSub, Nat.reduceEqDiff, ↓reduceIte, if_true, if_false, Bool.not_true, Bool.not_false, Bool.and_true, Bool.true_and, Bool.false_and, Bool.and_false, Bool.or_true, Bool.true_or, Bool.or_false, Bool.false_or, reduceCtorEq, Bool.false_eq_true, hg', k0, k1, k3, g1, n1, a1, a2, n2, m14, m10, ed', lp, hc, cut, ad0, ad1, ad2, ad3, ad4, ad5, i0, i1, ms, ee', l0, l1, l2, l3, l7, l14, ca, cm, q0]
end GX

namespace GX
open PySem L2 DL
def top (i : Nat) : Stmt := PySem.Challenge.pw_guesscode_k01_games_and_codes.main.body.getD i (.Pass ⟨0, 0, 0, 0⟩)
section
variable {P : Program} {w : World} {K : PySem.W.Frag} {mg : Str → Option Value} {base : Heap} {f : Addr} {fd : FuncData}
abbrev s_law_mix : Stmt := top 71
theorem sc_law_mix : FnScope ["_law_cell_here", "_law_prime", "_law_many"] ["_law_cell_here", "_law_prime", "_law_many"] (defScope s_law_mix) := ⟨rfl, rfl, rfl, by decide +kernel, rfl, by decide +kernel, by decide +kernel⟩
abbrev s_law_cell : Stmt := top 70
theorem sc_law_cell : FnScope ["_law_script", "_law_k"] ["_law_script", "_law_k"] (defScope s_law_cell) := ⟨rfl, rfl, rfl, by decide +kernel, rfl, by decide +kernel, by decide +kernel⟩
abbrev s_law_game : Stmt := top 72
theorem sc_law_game : FnScope ["_law_script", "_law_at", "_law_some", "_law_many"] ["_law_script", "_law_at"] (defScope s_law_game) := ⟨rfl, rfl, rfl, by decide +kernel, rfl, by decide +kernel, by decide +kernel⟩
abbrev sis_pair : Stmt := top 14
theorem scis_pair : FnScope ["thing"] ["thing"] (defScope sis_pair) := ⟨rfl, rfl, rfl, by decide +kernel, rfl, by decide +kernel, by decide +kernel⟩
abbrev sis_number_within : Stmt := top 13
theorem scis_number_within : FnScope ["thing", "low", "high"] ["thing", "low", "high"] (defScope sis_number_within) := ⟨rfl, rfl, rfl, by decide +kernel, rfl, by decide +kernel, by decide +kernel⟩
abbrev show_many_codes : Stmt := top 15
theorem schow_many_codes : FnScope ["places", "colours", "codes", "place"] ["places", "colours"] (defScope show_many_codes) := ⟨rfl, rfl, rfl, by decide +kernel, rfl, by decide +kernel, by decide +kernel⟩
abbrev sis_game : Stmt := top 16
theorem scis_game : FnScope ["thing"] ["thing"] (defScope sis_game) := ⟨rfl, rfl, rfl, by decide +kernel, rfl, by decide +kernel, by decide +kernel⟩
abbrev schecked_game : Stmt := top 17
theorem scchecked_game : FnScope ["game"] ["game"] (defScope schecked_game) := ⟨rfl, rfl, rfl, by decide +kernel, rfl, by decide +kernel, by decide +kernel⟩
abbrev sall_codes : Stmt := top 21
theorem scall_codes : FnScope ["game", "codes", "place", "longer", "code"] ["game"] (defScope sall_codes) := ⟨rfl, rfl, rfl, by decide +kernel, rfl, by decide +kernel, by decide +kernel⟩
abbrev s_law_codes : Stmt := top 74
theorem sc_law_codes : FnScope ["_law_game_here", "_law_found", "_law_place", "_law_more_here", "_law_code_here"] ["_law_game_here"] (defScope s_law_codes) := ⟨rfl, rfl, rfl, by decide +kernel, rfl, by decide +kernel, by decide +kernel⟩
abbrev sanswer_of : Stmt := top 22
theorem scanswer_of : FnScope ["hidden", "guess", "right", "shared", "unmatched", "place", "colour"] ["hidden", "guess"] (defScope sanswer_of) := ⟨rfl, rfl, rfl, by decide +kernel, rfl, by decide +kernel, by decide +kernel⟩
abbrev sis_code : Stmt := top 19
theorem scis_code : FnScope ["game", "thing"] ["game", "thing"] (defScope sis_code) := ⟨rfl, rfl, rfl, by decide +kernel, rfl, by decide +kernel, by decide +kernel⟩
abbrev schecked_code : Stmt := top 20
theorem scchecked_code : FnScope ["game", "code"] ["game", "code"] (defScope schecked_code) := ⟨rfl, rfl, rfl, by decide +kernel, rfl, by decide +kernel, by decide +kernel⟩
abbrev sanswer : Stmt := top 24
theorem scanswer : FnScope ["game", "hidden", "guess"] ["game", "hidden", "guess"] (defScope sanswer) := ⟨rfl, rfl, rfl, by decide +kernel, rfl, by decide +kernel, by decide +kernel⟩
abbrev s_law_deed : Stmt := top 75
theorem sc_law_deed : FnScope ["_law_way", "_law_bad"] ["_law_way", "_law_bad"] (defScope s_law_deed) := ⟨rfl, rfl, rfl, by decide +kernel, rfl, by decide +kernel, by decide +kernel⟩
abbrev sis_answer : Stmt := top 27
theorem scis_answer : FnScope ["game", "thing"] ["game", "thing"] (defScope sis_answer) := ⟨rfl, rfl, rfl, by decide +kernel, rfl, by decide +kernel, by decide +kernel⟩
abbrev sis_ask : Stmt := top 28
theorem scis_ask : FnScope ["game", "thing"] ["game", "thing"] (defScope sis_ask) := ⟨rfl, rfl, rfl, by decide +kernel, rfl, by decide +kernel, by decide +kernel⟩
abbrev schecked_list : Stmt := top 29
theorem scchecked_list : FnScope ["game", "things", "is_one", "at", "thing"] ["game", "things", "is_one"] (defScope schecked_list) := ⟨rfl, rfl, rfl, by decide +kernel, rfl, by decide +kernel, by decide +kernel⟩
abbrev schecked_asks : Stmt := top 30
theorem scchecked_asks : FnScope ["game", "asks"] ["game", "asks"] (defScope schecked_asks) := ⟨rfl, rfl, rfl, by decide +kernel, rfl, by decide +kernel, by decide +kernel⟩
abbrev sfits_ask : Stmt := top 32
theorem scfits_ask : FnScope ["code", "ask"] ["code", "ask"] (defScope sfits_ask) := ⟨rfl, rfl, rfl, by decide +kernel, rfl, by decide +kernel, by decide +kernel⟩
abbrev sthose_that_fit : Stmt := top 33
theorem scthose_that_fit : FnScope ["codes", "asks", "fitting", "ask"] ["codes", "asks"] (defScope sthose_that_fit) := ⟨rfl, rfl, rfl, by decide +kernel, rfl, by decide +kernel, by decide +kernel⟩
abbrev swhat_fits : Stmt := top 34
theorem scwhat_fits : FnScope ["game", "asks"] ["game", "asks"] (defScope swhat_fits) := ⟨rfl, rfl, rfl, by decide +kernel, rfl, by decide +kernel, by decide +kernel⟩
abbrev ssplit : Stmt := top 56
theorem scsplit : FnScope ["game", "asks", "guess", "fitting"] ["game", "asks", "guess"] (defScope ssplit) := ⟨rfl, rfl, rfl, by decide +kernel, rfl, by decide +kernel, by decide +kernel⟩
abbrev splayed : Stmt := top 61
theorem scplayed : FnScope ["game", "hidden", "codes", "fitting", "asks", "guess", "ask"] ["game", "hidden"] (defScope splayed) := ⟨rfl, rfl, rfl, by decide +kernel, rfl, by decide +kernel, by decide +kernel⟩
abbrev s_law_more : Stmt := top 76
theorem sc_law_more : FnScope ["_law_way", "_law_bad"] ["_law_way", "_law_bad"] (defScope s_law_more) := ⟨rfl, rfl, rfl, by decide +kernel, rfl, by decide +kernel, by decide +kernel⟩
abbrev sfound_or_clash : Stmt := top 35
theorem scfound_or_clash : FnScope ["found"] ["found"] (defScope sfound_or_clash) := ⟨rfl, rfl, rfl, by decide +kernel, rfl, by decide +kernel, by decide +kernel⟩
abbrev sfoe_answer : Stmt := top 57
theorem scfoe_answer : FnScope ["game", "asks", "guess", "rows", "best"] ["game", "asks", "guess"] (defScope sfoe_answer) := ⟨rfl, rfl, rfl, by decide +kernel, rfl, by decide +kernel, by decide +kernel⟩
abbrev sleast_guess_like : Stmt := top 43
theorem scleast_guess_like : FnScope ["game", "guess", "counts", "least", "colour", "many"] ["game", "guess"] (defScope sleast_guess_like) := ⟨rfl, rfl, rfl, by decide +kernel, rfl, by decide +kernel, by decide +kernel⟩
abbrev s_law_by_code : Stmt := top 77
theorem sc_law_by_code : FnScope ["_law_way", "_law_game_here", "_law_good", "_law_bad"] ["_law_way", "_law_game_here", "_law_good", "_law_bad"] (defScope s_law_by_code) := ⟨rfl, rfl, rfl, by decide +kernel, rfl, by decide +kernel, by decide +kernel⟩
abbrev sall_answers : Stmt := top 23
theorem scall_answers : FnScope ["game", "codes", "given", "at", "hidden", "guess"] ["game"] (defScope sall_answers) := ⟨rfl, rfl, rfl, by decide +kernel, rfl, by decide +kernel, by decide +kernel⟩
abbrev swhy_clash : Stmt := top 39
theorem scwhy_clash : FnScope ["game", "asks", "rows", "size", "choice"] ["game", "asks"] (defScope swhy_clash) := ⟨rfl, rfl, rfl, by decide +kernel, rfl, by decide +kernel, by decide +kernel⟩
abbrev sneedless : Stmt := top 40
theorem scneedless : FnScope ["game", "asks", "fitting", "codes"] ["game", "asks"] (defScope sneedless) := ⟨rfl, rfl, rfl, by decide +kernel, rfl, by decide +kernel, by decide +kernel⟩
abbrev ssettled : Stmt := top 41
theorem scsettled : FnScope ["game", "asks", "fitting"] ["game", "asks"] (defScope ssettled) := ⟨rfl, rfl, rfl, by decide +kernel, rfl, by decide +kernel, by decide +kernel⟩
abbrev sbest_guess : Stmt := top 60
theorem scbest_guess : FnScope ["game", "asks", "fitting"] ["game", "asks"] (defScope sbest_guess) := ⟨rfl, rfl, rfl, by decide +kernel, rfl, by decide +kernel, by decide +kernel⟩
abbrev sshortest : Stmt := top 47
theorem scshortest : FnScope ["game", "asks", "fitting", "planner", "most"] ["game", "asks"] (defScope sshortest) := ⟨rfl, rfl, rfl, by decide +kernel, rfl, by decide +kernel, by decide +kernel⟩
abbrev sa_plan : Stmt := top 48
theorem sca_plan : FnScope ["game", "asks"] ["game", "asks"] (defScope sa_plan) := ⟨rfl, rfl, rfl, by decide +kernel, rfl, by decide +kernel, by decide +kernel⟩
abbrev salike_by : Stmt := top 52
theorem scalike_by : FnScope ["game", "guesses"] ["game", "guesses"] (defScope salike_by) := ⟨rfl, rfl, rfl, by decide +kernel, rfl, by decide +kernel, by decide +kernel⟩
abbrev ssettle_all : Stmt := top 53
theorem scsettle_all : FnScope ["game", "guesses"] ["game", "guesses"] (defScope ssettle_all) := ⟨rfl, rfl, rfl, by decide +kernel, rfl, by decide +kernel, by decide +kernel⟩
abbrev sread : Stmt := top 68
theorem scread : FnScope ["game", "text", "lines", "ending"] ["game", "text"] (defScope sread) := ⟨rfl, rfl, rfl, by decide +kernel, rfl, by decide +kernel, by decide +kernel⟩
abbrev s_law_told : Stmt := top 78
theorem sc_law_told : FnScope ["_law_sort", "_law_way", "_law_game_here", "_law_good", "_law_bad", "e"] ["_law_sort", "_law_way", "_law_game_here", "_law_good", "_law_bad"] (defScope s_law_told) := ⟨rfl, rfl, rfl, by decide +kernel, rfl, by decide +kernel, by decide +kernel⟩
abbrev s_law_code : Stmt := top 73
theorem sc_law_code : FnScope ["_law_game_here", "_law_cell_here", "_law_found", "_law_place"] ["_law_game_here", "_law_cell_here"] (defScope s_law_code) := ⟨rfl, rfl, rfl, by decide +kernel, rfl, by decide +kernel, by decide +kernel⟩
abbrev slaw : Stmt := top 79
theorem sclaw : FnScope ["_law_script", "_law_game_here", "_law_odd", "_law_bad", "_law_sort", "_law_many", "_law_good", "_law_codes_here"] ["_law_script"] (defScope slaw) := ⟨rfl, rfl, rfl, by decide +kernel, rfl, by decide +kernel, by decide +kernel⟩
theorem ok_law_mix (F : Fun K "_law_mix" "_law_mix" s_law_mix f fd) (B : Bt mg) : FnOk P w K mg base CX0 1 f fd ["_law_cell_here", "_law_prime", "_law_many"] (spD K 3 F_law_mix) :=
  fun_okD F sc_law_mix rfl rfl fun cdv A outer s H E hr => have hu := hr.units
    ⟨_, (pss_one (ps_ret (pe_op op_mod (pe_op op_mod (pe_op op_mul (pv 0) pe_int) (pv 1)) (pv 2)))), (ss_ret (se_op od_mod (se_op od_mod (se_op od_mul (se_var 0) se_int) (se_var 1)) (se_var 2)))⟩
theorem ok_law_cell (F : Fun K "_law_cell" "_law_cell" s_law_cell f fd) (B : Bt mg) : FnOk P w K mg base CX0 1 f fd ["_law_script", "_law_k"] (spD K 2 F_law_cell) :=
  fun_okD F sc_law_cell rfl rfl fun cdv A outer s H E hr => have hu := hr.units
    ⟨_, (pss_cons (ps_if (pt_cmpR op_lt (pv 1) (pe_callB (kx_lenA K) (by rfl) B.len PySem.boot_len (pa_cons (pv 0) pa_nil)) (nomark _)) (pss_one (ps_ret (pe_ix (kx_ix K) (pv 0) (pv 1) (fun _ _ => rfl)))) pss_nil) (pss_one (ps_ret pe_int))), (ss_seq (ss_if (st_test (se_op od_lt (se_var 1) (se_callB cd_len (sa_cons (se_var 0) sa_nil)))) (ss_ret (se_op od_ix (se_var 0) (se_var 1))) ss_next) (ss_ret se_int))⟩
theorem ok_law_game (F : Fun K "_law_game" "_law_game" s_law_game f fd) (B : Bt mg) (O_law_mix : Own P w K mg base 1 "_law_mix" ["_law_cell_here", "_law_prime", "_law_many"] (spD K 3 F_law_mix)) (O_law_cell : Own P w K mg base 1 "_law_cell" ["_law_script", "_law_k"] (spD K 2 F_law_cell)) : FnOk P w K mg base CX0 2 f fd ["_law_script", "_law_at"] (spD K 2 F_law_game) :=
  fun_okD F sc_law_game rfl rfl fun cdv A outer s H E hr => have hu := hr.units
    ⟨_, (@pss_lits _ _ _ _ _ (@ps_lits _ 2 _ _ _ _ _ [.tuple [.int 2, .int 3], .tuple [.int 3, .int 2], .tuple [.int 3, .int 3], .tuple [.int 2, .int 4], .tuple [.int 4, .int 2], .tuple [.int 1, .int 5], .tuple [.int 2, .int 5], .tuple [.int 3, .int 4], .tuple [.int 4, .int 3], .tuple [.int 5, .int 2], .tuple [.int 2, .int 8], .tuple [.int 1, .int 1], .tuple [.int 2, .int 2]] sc_law_game.nd rfl (by first | exact Or.inl rfl | exact Or.inr rfl) (by rfl) (by rfl) (Or.inl rfl)) (pss_cons (ps_set (i := 3) sc_law_game.nd rfl (by first | exact Or.inl rfl | exact Or.inr rfl) pe_int) (pss_cons (ps_if (pt_cmpR op_gt (pe_callB (kx_lenA K) (by rfl) B.len PySem.boot_len (pa_cons (pv 0) pa_nil)) pe_int (nomark _)) (pss_one (ps_set (i := 3) sc_law_game.nd rfl (by first | exact Or.inl rfl | exact Or.inr rfl) pe_int)) pss_nil) (pss_one (ps_ret (pe_ix (kx_ix K) (pv 2) (pe_own O_law_mix hr (pa_cons (pe_own O_law_cell hr (pa_cons (pv 0) (pa_cons (pv 1) pa_nil))) (pa_cons pe_int (pa_cons (pv 3) pa_nil)))) (fun _ _ => rfl))))))), (ss_seq (ss_set 2 (se_own (so_lst (@sa_lits _ [.tuple [.int 2, .int 3], .tuple [.int 3, .int 2], .tuple [.int 3, .int 3], .tuple [.int 2, .int 4], .tuple [.int 4, .int 2], .tuple [.int 1, .int 5], .tuple [.int 2, .int 5], .tuple [.int 3, .int 4], .tuple [.int 4, .int 3], .tuple [.int 5, .int 2], .tuple [.int 2, .int 8], .tuple [.int 1, .int 1], .tuple [.int 2, .int 2]] (by rfl))))) (ss_seq (ss_set 3 se_int) (ss_seq (ss_if (st_test (se_op od_gt (se_callB cd_len (sa_cons (se_var 0) sa_nil)) se_int)) (ss_set 3 se_int) ss_next) (ss_ret (se_op od_ix (se_var 2) (se_call (sa_cons (se_call (sa_cons (se_var 0) (sa_cons (se_var 1) sa_nil))) (sa_cons se_int (sa_cons (se_var 3) sa_nil)))))))))⟩
theorem okis_pair (F : Fun K "is_pair" "is_pair" sis_pair f fd) (B : Bt mg) : FnOk P w K mg base CX0 1 f fd ["thing"] (spD K 1 Fis_pair) :=
  fun_okD F scis_pair rfl rfl fun cdv A outer s H E hr => have hu := hr.units
    ⟨_, (pss_one (ps_ret (pe_and (pe_callB (kx_isiD K) (by rfl) B.isinstance boot_isi (pa_cons (pv 0) (pa_cons (pe_bltn (v := .ty "tuple") rfl B.tuple PyProof.Rows.boot_tuple rfl) pa_nil))) (pe_one (pe_cmpR (kx_eqD K hu) (pe_callB (kx_lenA K) (by rfl) B.len PySem.boot_len (pa_cons (pv 0) pa_nil)) pe_int (nomark _)))))), (ss_ret (se_and (se_isi (se_var 0)) (se_op od_eq (se_callB cd_len (sa_cons (se_var 0) sa_nil)) se_int)))⟩
theorem okis_number_within (F : Fun K "is_number_within" "is_number_within" sis_number_within f fd) (B : Bt mg) : FnOk P w K mg base CX0 1 f fd ["thing", "low", "high"] (spD K 3 Fis_number_within) :=
  fun_okD F scis_number_within rfl rfl fun cdv A outer s H E hr => have hu := hr.units
    ⟨_, (pss_one (ps_ret (pe_and (pe_callB (kx_isiD K) (by rfl) B.isinstance boot_isi (pa_cons (pv 0) (pa_cons (pe_bltn (v := .ty "int") rfl B.int PyProof.Rows.boot_int rfl) pa_nil))) (pe_and (pe_not (pe_callB (kx_isiD K) (by rfl) B.isinstance boot_isi (pa_cons (pv 0) (pa_cons (pe_bltn (v := .ty "bool") rfl B.bool PyProof.Rows.boot_bool rfl) pa_nil)))) (pe_one (pe_chain op_le op_le (pv 1) (pv 0) (pv 2))))))), (ss_ret (se_and (se_isi (se_var 0)) (se_and (se_not (se_isi (se_var 0))) (se_chain od_le od_le (se_var 1) (se_var 0) (se_var 2)))))⟩
theorem okhow_many_codes (F : Fun K "how_many_codes" "how_many_codes" show_many_codes f fd) (B : Bt mg) : FnOk P w K mg base CX0 1 f fd ["places", "colours"] (spD K 2 Fhow_many_codes) :=
  fun_okD F schow_many_codes rfl rfl fun cdv A outer s H E hr => have hu := hr.units
    ⟨_, (pss_cons (ps_set (i := 2) schow_many_codes.nd rfl (by first | exact Or.inl rfl | exact Or.inr rfl) pe_int) (pss_cons (ps_for PassesOwn.never rfl (pi_range1 rfl B.range (pa_cons (pv 0) pa_nil)) (pg_name (i := 3) schow_many_codes.nd rfl (by first | exact Or.inl rfl | exact Or.inr rfl)) (pss_one (ps_aug (i := 2) schow_many_codes.nd rfl (by first | exact Or.inl rfl | exact Or.inr rfl) (pv 1) iop_mul))) (pss_one (ps_ret (pv 2))))), (ss_seq (ss_set 2 se_int) (ss_seq (ss_for (si_rng1 (sa_cons (se_var 0) sa_nil)) (sg_name 3) (ss_aug 2 od_mul (se_var 1))) (ss_ret (se_var 2))))⟩
theorem okis_game (F : Fun K "is_game" "is_game" sis_game f fd) (B : Bt mg) (Ois_pair : Own P w K mg base 1 "is_pair" ["thing"] (spD K 1 Fis_pair)) (Ohow_many_codes : Own P w K mg base 1 "how_many_codes" ["places", "colours"] (spD K 2 Fhow_many_codes)) (Ois_number_within : Own P w K mg base 1 "is_number_within" ["thing", "low", "high"] (spD K 3 Fis_number_within)) {tMOST_PLACES : Tok} (g_MOST_PLACES : mg "MOST_PLACES" = some (.int 5 tMOST_PLACES)) {tMOST_COLOURS : Tok} (g_MOST_COLOURS : mg "MOST_COLOURS" = some (.int 8 tMOST_COLOURS)) {tMOST_CODES : Tok} (g_MOST_CODES : mg "MOST_CODES" = some (.int 300 tMOST_CODES)) : FnOk P w K mg base CX0 2 f fd ["thing"] (spD K 1 Fis_game) :=
  fun_okD F scis_game rfl rfl fun cdv A outer s H E hr => have hu := hr.units
    ⟨_, (pss_cons (ps_if (pt_not (kx_tru K (pe_own Ois_pair hr (pa_cons (pv 0) pa_nil)))) (pss_one (ps_ret pe_bl)) pss_nil) (pss_cons (ps_if (PW.pt (pw_or (pt_not (kx_tru K (pe_own Ois_number_within hr (pa_cons (pe_ix (kx_ix K) (pv 0) pe_int (fun _ _ => rfl)) (pa_cons pe_int (pa_cons (pe_glob (v := .int 5) rfl g_MOST_PLACES ⟨_, rfl⟩) pa_nil)))))) (pw_or1 (pt_not (kx_tru K (pe_own Ois_number_within hr (pa_cons (pe_ix (kx_ix K) (pv 0) pe_int (fun _ _ => rfl)) (pa_cons pe_int (pa_cons (pe_glob (v := .int 8) rfl g_MOST_COLOURS ⟨_, rfl⟩) pa_nil))))))))) (pss_one (ps_ret pe_bl)) pss_nil) (pss_one (ps_ret (pe_cmpR op_le (pe_own Ohow_many_codes hr (pa_cons (pe_ix (kx_ix K) (pv 0) pe_int (fun _ _ => rfl)) (pa_cons (pe_ix (kx_ix K) (pv 0) pe_int (fun _ _ => rfl)) pa_nil))) (pe_glob (v := .int 300) rfl g_MOST_CODES ⟨_, rfl⟩) (nomark _)))))), (ss_seq (ss_if (st_not (st_tru (se_call (sa_cons (se_var 0) sa_nil)))) (ss_ret se_bl) ss_next) (ss_seq (ss_if (st_or (st_not (st_tru (se_call (sa_cons (se_op od_ix (se_var 0) se_int) (sa_cons se_int (sa_cons se_int sa_nil)))))) (st_not (st_tru (se_call (sa_cons (se_op od_ix (se_var 0) se_int) (sa_cons se_int (sa_cons se_int sa_nil))))))) (ss_ret se_bl) ss_next) (ss_ret (se_op od_le (se_call (sa_cons (se_op od_ix (se_var 0) se_int) (sa_cons (se_op od_ix (se_var 0) se_int) sa_nil))) se_int))))⟩
theorem okchecked_game (F : Fun K "checked_game" "checked_game" schecked_game f fd) (B : Bt mg) (Ois_game : Own P w K mg base 2 "is_game" ["thing"] (spD K 1 Fis_game)) : FnOk P w K mg base CX0 3 f fd ["game"] (spD K 1 Fchecked_game) :=
  fun_okD F scchecked_game rfl rfl fun cdv A outer s H E hr => have hu := hr.units
    ⟨_, (pss_cons (ps_if (pt_not (kx_tru K (pe_own Ois_game hr (pa_cons (pv 0) pa_nil)))) (pss_one ps_never) pss_nil) (pss_one (ps_ret (pv 0)))), (ss_seq (ss_if (st_not (st_tru (se_call (sa_cons (se_var 0) sa_nil)))) ss_never ss_next) (ss_ret (se_var 0)))⟩
theorem okall_codes (F : Fun K "all_codes" "all_codes" sall_codes f fd) (B : Bt mg) (Ochecked_game : Own P w K mg base 3 "checked_game" ["game"] (spD K 1 Fchecked_game)) : FnOk P w K mg base CX0 4 f fd ["game"] (spD K 1 Fall_codes) :=
  fun_okD F scall_codes rfl rfl fun cdv A outer s H E hr => have hu := hr.units
    ⟨_, (pss_cons (ps_expr (pe_own Ochecked_game hr (pa_cons (pv 0) pa_nil))) (pss_cons (ps_set (i := 1) scall_codes.nd rfl (by first | exact Or.inl rfl | exact Or.inr rfl) (pe_lst (pa_cons (pe_tup pa_nil) pa_nil))) (pss_cons (ps_for PassesOwn.never rfl (pi_range1 rfl B.range (pa_cons (pe_ix (kx_ix K) (pv 0) pe_int (fun _ _ => rfl)) pa_nil)) (pg_name (i := 2) scall_codes.nd rfl (by first | exact Or.inl rfl | exact Or.inr rfl)) (pss_cons (ps_set (i := 3) scall_codes.nd rfl (by first | exact Or.inl rfl | exact Or.inr rfl) (pe_lst pa_nil)) (pss_cons (ps_for PassesOwn.never rfl (kx_seq K (pv 1)) (pg_name (i := 4) scall_codes.nd rfl (by first | exact Or.inl rfl | exact Or.inr rfl)) (pss_one (ps_expr (pe_bm PySem.F.plainAttrs_list PySem.F.slot_list_extend PySem.F.type_list_extend mt_extend (pv 3) (pa_cons (pe_compC ["colour"] [("code", 4)] (pi_range1 rfl B.range (pa_cons (pe_ix (kx_ix K) (pv 0) pe_int (fun _ _ => rfl)) pa_nil)) (fun _ _ _ _ => (pg_name (i := 0) (show List.Nodup (["colour", "code"] : List Str) by decide +kernel) rfl (by first | exact Or.inl rfl | exact Or.inr rfl))) (fun _ _ _ _ => pts_nil) (fun _ _ _ _ => (pe_op (kx_add K) (pv 1) (pe_tup (pa_cons (pv 0) pa_nil))))) pa_nil))))) (pss_one (ps_set (i := 1) scall_codes.nd rfl (by first | exact Or.inl rfl | exact Or.inr rfl) (pv 3)))))) (pss_one (ps_ret (pv 1)))))), (ss_seq (ss_drop (se_call (sa_cons (se_var 0) sa_nil))) (ss_seq (ss_set 1 (se_own (so_lst (sa_cons (se_tup sa_nil) sa_nil)))) (ss_seq (ss_for (si_rng1 (sa_cons (se_op od_ix (se_var 0) se_int) sa_nil)) (sg_name 2) (ss_seq (ss_setO 3 (so_lst sa_nil)) (ss_seq (ss_for (si_seq (se_var 1)) (sg_name 4) (ss_extend 3 (se_own (so_comp (si_rng1 (sa_cons (se_op od_ix (se_var 0) se_int) sa_nil)) (sg_name 0) low_name st_yes (se_op od_add (se_var 1) (se_tup (sa_cons (se_var 0) sa_nil))))))) (ss_frz 3 (ss_set 1 (se_var 3)))))) (ss_ret (se_var 1)))))⟩
theorem ok_law_codes (F : Fun K "_law_codes" "_law_codes" s_law_codes f fd) (B : Bt mg) : FnOk P w K mg base CX0 1 f fd ["_law_game_here"] (spD K 1 F_law_codes) :=
  fun_okD F sc_law_codes rfl rfl fun cdv A outer s H E hr => have hu := hr.units
    ⟨_, (pss_cons (ps_set (i := 1) sc_law_codes.nd rfl (by first | exact Or.inl rfl | exact Or.inr rfl) (pe_lst (pa_cons (pe_tup pa_nil) pa_nil))) (pss_cons (ps_for PassesOwn.never rfl (pi_range1 rfl B.range (pa_cons (pe_ix (kx_ix K) (pv 0) pe_int (fun _ _ => rfl)) pa_nil)) (pg_name (i := 2) sc_law_codes.nd rfl (by first | exact Or.inl rfl | exact Or.inr rfl)) (pss_cons (ps_set (i := 3) sc_law_codes.nd rfl (by first | exact Or.inl rfl | exact Or.inr rfl) (pe_lst pa_nil)) (pss_cons (ps_for PassesOwn.never rfl (kx_seq K (pv 1)) (pg_name (i := 4) sc_law_codes.nd rfl (by first | exact Or.inl rfl | exact Or.inr rfl)) (pss_one (ps_set (i := 3) sc_law_codes.nd rfl (by first | exact Or.inl rfl | exact Or.inr rfl) (pe_op (kx_add K) (pv 3) (pe_compC ["_law_colour"] [("_law_code_here", 4)] (pi_range1 rfl B.range (pa_cons (pe_ix (kx_ix K) (pv 0) pe_int (fun _ _ => rfl)) pa_nil)) (fun _ _ _ _ => (pg_name (i := 0) (show List.Nodup (["_law_colour", "_law_code_here"] : List Str) by decide +kernel) rfl (by first | exact Or.inl rfl | exact Or.inr rfl))) (fun _ _ _ _ => pts_nil) (fun _ _ _ _ => (pe_op (kx_add K) (pv 1) (pe_tup (pa_cons (pv 0) pa_nil))))))))) (pss_one (ps_set (i := 1) sc_law_codes.nd rfl (by first | exact Or.inl rfl | exact Or.inr rfl) (pv 3)))))) (pss_one (ps_ret (pv 1))))), (ss_seq (ss_set 1 (se_own (so_lst (sa_cons (se_tup sa_nil) sa_nil)))) (ss_seq (ss_for (si_rng1 (sa_cons (se_op od_ix (se_var 0) se_int) sa_nil)) (sg_name 2) (ss_seq (ss_set 3 (se_own (so_lst sa_nil))) (ss_seq (ss_for (si_seq (se_var 1)) (sg_name 4) (ss_set 3 (se_op od_add (se_var 3) (se_own (so_comp (si_rng1 (sa_cons (se_op od_ix (se_var 0) se_int) sa_nil)) (sg_name 0) low_name st_yes (se_op od_add (se_var 1) (se_tup (sa_cons (se_var 0) sa_nil)))))))) (ss_set 1 (se_var 3))))) (ss_ret (se_var 1))))⟩
theorem okanswer_of (F : Fun K "answer_of" "answer_of" sanswer_of f fd) (B : Bt mg) : FnOk P w K mg base CX0 1 f fd ["hidden", "guess"] (spD K 2 Fanswer_of) :=
  fun_okD F scanswer_of rfl rfl fun cdv A outer s H E hr => have hu := hr.units
    ⟨_, (pss_cons (ps_set (i := 2) scanswer_of.nd rfl (by first | exact Or.inl rfl | exact Or.inr rfl) pe_int) (pss_cons (ps_set (i := 3) scanswer_of.nd rfl (by first | exact Or.inl rfl | exact Or.inr rfl) pe_int) (pss_cons (ps_set (i := 4) scanswer_of.nd rfl (by first | exact Or.inl rfl | exact Or.inr rfl) (pe_callTy (kx_list K) (by rfl) B.list PyProof.Rows.boot_list (pa_cons (pv 0) pa_nil))) (pss_cons (ps_for PassesOwn.never rfl (kx_en K B.enumerate (pa_cons (pv 1) pa_nil)) (kx_pair K (pgs_cons (pg_name (i := 5) scanswer_of.nd rfl (by first | exact Or.inl rfl | exact Or.inr rfl)) (pgs_cons (pg_name (i := 6) scanswer_of.nd rfl (by first | exact Or.inl rfl | exact Or.inr rfl)) pgs_nil))) (pss_cons (ps_if (pt_cmpR (kx_eqD K hu) (pe_ix (kx_ix K) (pv 0) (pv 5) (fun _ _ => rfl)) (pv 6) (nomark _)) (pss_one (ps_aug (i := 2) scanswer_of.nd rfl (by first | exact Or.inl rfl | exact Or.inr rfl) pe_int iop_add)) pss_nil) (pss_one (ps_if (pt_cmpR (kx_in K) (pv 6) (pv 4) (by rfl)) (pss_cons (ps_expr (pe_bm PySem.F.plainAttrs_list PySem.F.slot_list_remove PySem.F.type_list_remove mt_remove (pv 4) (pa_cons (pv 6) pa_nil))) (pss_one (ps_aug (i := 3) scanswer_of.nd rfl (by first | exact Or.inl rfl | exact Or.inr rfl) pe_int iop_add))) pss_nil)))) (pss_one (ps_ret (pe_tup (pa_cons (pv 2) (pa_cons (pe_op op_sub (pv 3) (pv 2)) pa_nil))))))))), (ss_seq (ss_set 2 se_int) (ss_seq (ss_set 3 se_int) (ss_seq (ss_setO 4 (so_listOf (sa_cons (se_var 0) sa_nil))) (ss_seq (ss_for (si_en (sa_cons (se_var 1) sa_nil)) (sg_tup (sgs_cons (sg_name 5) (sgs_cons (sg_name 6) sgs_nil))) (ss_seq (ss_if (st_test (se_op od_eq (se_op od_ix (se_var 0) (se_var 5)) (se_var 6))) (ss_aug 2 od_iadd se_int) ss_next) (ss_if (st_test (se_inO false 4 (se_var 6))) (ss_seq (ss_remove 4 (se_var 6)) (ss_aug 3 od_iadd se_int)) ss_next))) (ss_ret (se_tup (sa_cons (se_var 2) (sa_cons (se_op od_sub (se_var 3) (se_var 2)) sa_nil))))))))⟩
theorem okis_code (F : Fun K "is_code" "is_code" sis_code f fd) (B : Bt mg) (Ois_number_within : Own P w K mg base 1 "is_number_within" ["thing", "low", "high"] (spD K 3 Fis_number_within)) : FnOk P w K mg base CX0 2 f fd ["game", "thing"] (spD K 2 Fis_code) :=
  fun_okD F scis_code rfl rfl fun cdv A outer s H E hr => have hu := hr.units
    ⟨_, (pss_cons (ps_if (PW.pt (pw_or (pt_not (kx_tru K (pe_callB (kx_isiD K) (by rfl) B.isinstance boot_isi (pa_cons (pv 1) (pa_cons (pe_bltn (v := .ty "tuple") rfl B.tuple PyProof.Rows.boot_tuple rfl) pa_nil))))) (pw_or1 (pt_cmpR (kx_neD K hu) (pe_callB (kx_lenA K) (by rfl) B.len PySem.boot_len (pa_cons (pv 1) pa_nil)) (pe_ix (kx_ix K) (pv 0) pe_int (fun _ _ => rfl)) (nomark _))))) (pss_one (ps_ret pe_bl)) pss_nil) (pss_one (ps_ret (pe_callB (kx_all K) (by rfl) B.all PyProof.Rows.boot_all (pa_cons (pe_compC ["colour"] [("game", 0)] (kx_seq K (pv 1)) (fun _ _ _ _ => (pg_name (i := 0) (show List.Nodup (["colour", "game"] : List Str) by decide +kernel) rfl (by first | exact Or.inl rfl | exact Or.inr rfl))) (fun _ _ _ _ => pts_nil) (fun _ _ _ _ => (pe_own Ois_number_within hr (pa_cons (pv 0) (pa_cons pe_int (pa_cons (pe_op op_sub (pe_ix (kx_ix K) (pv 1) pe_int (fun _ _ => rfl)) pe_int) pa_nil)))))) pa_nil))))), (ss_seq (ss_if (st_or (st_not (st_tru (se_isi (se_var 1)))) (st_test (se_op od_ne (se_callB cd_len (sa_cons (se_var 1) sa_nil)) (se_op od_ix (se_var 0) se_int)))) (ss_ret se_bl) ss_next) (ss_ret (se_callB cd_all (sa_cons (se_own (so_comp (si_seq (se_var 1)) (sg_name 0) low_name st_yes (se_call (sa_cons (se_var 0) (sa_cons se_int (sa_cons (se_op od_sub (se_op od_ix (se_var 1) se_int) se_int) sa_nil)))))) sa_nil))))⟩
theorem okchecked_code (F : Fun K "checked_code" "checked_code" schecked_code f fd) (B : Bt mg) (Ois_code : Own P w K mg base 2 "is_code" ["game", "thing"] (spD K 2 Fis_code)) : FnOk P w K mg base CX0 3 f fd ["game", "code"] (spD K 2 Fchecked_code) :=
  fun_okD F scchecked_code rfl rfl fun cdv A outer s H E hr => have hu := hr.units
    ⟨_, (pss_cons (ps_if (pt_not (kx_tru K (pe_own Ois_code hr (pa_cons (pv 0) (pa_cons (pv 1) pa_nil))))) (pss_one ps_never) pss_nil) (pss_one (ps_ret (pv 1)))), (ss_seq (ss_if (st_not (st_tru (se_call (sa_cons (se_var 0) (sa_cons (se_var 1) sa_nil))))) ss_never ss_next) (ss_ret (se_var 1)))⟩
theorem okXchecked_code_BadCode {C : Addr} (F : Fun K "checked_code" "checked_code" schecked_code f fd) (B : Bt mg) (Ois_code : Own P w K mg base 2 "is_code" ["game", "thing"] (spD K 2 Fis_code)) (gC_BadCode : mg "BadCode" = some (.ref C)) (xC_BadCode : PySem.W.excIn K C [.type "ValueError", .type "Exception", .type "BaseException", .type "object"] "ValueError.__new__" = true) : FnOk P w K mg base (CXF P w) 3 f fd ["game", "code"] (spX K 2 C Xchecked_code_BadCode) :=
  fun_okX F scchecked_code rfl rfl fun cdv A outer s H E hr => have hu := hr.units
    ⟨_, (pss_cons (ps_if (pt_not (kx_tru K (pe_own Ois_code hr (pa_cons (pv 0) (pa_cons (pv 1) pa_nil))))) (pss_one (ps_raise gC_BadCode xC_BadCode PySem.F.excBase_ValueError (pa_cons pe_str pa_nil))) pss_any) pss_any), (sx_seq1 (sx_if (st_not (st_tru (se_call (sa_cons (se_var 0) (sa_cons (se_var 1) sa_nil))))) (sx_raise (sa_cons se_str sa_nil)) sx_no))⟩
theorem okXanswer_BadCode {C : Addr} (F : Fun K "answer" "answer" sanswer f fd) (B : Bt mg) (Ochecked_game : Own P w K mg base 3 "checked_game" ["game"] (spD K 1 Fchecked_game)) (Oanswer_of : Own P w K mg base 1 "answer_of" ["hidden", "guess"] (spD K 2 Fanswer_of)) (Ochecked_code : Own P w K mg base 3 "checked_code" ["game", "code"] (spD K 2 Fchecked_code)) (OXchecked_code_BadCode : OwnX P w K mg base 3 "checked_code" ["game", "code"] (spX K 2 C Xchecked_code_BadCode)) : FnOk P w K mg base (CXF P w) 4 f fd ["game", "hidden", "guess"] (spX K 3 C Xanswer_BadCode) :=
  fun_okX F scanswer rfl rfl fun cdv A outer s H E hr => have hu := hr.units
    ⟨_, (pss_cons (ps_expr (pe_own Ochecked_game hr (pa_cons (pv 0) pa_nil))) (pss_one (ps_ret (pe_either (pe_own Oanswer_of hr (pa_cons (pe_ownX OXchecked_code_BadCode hr pass_flown (pa_cons (pv 0) (pa_cons (pv 1) pa_nil))) pa_any)) (pe_own Oanswer_of hr (pa_cons (pe_own Ochecked_code hr (pa_cons (pv 0) (pa_cons (pv 1) pa_nil))) (pa_cons (pe_ownX OXchecked_code_BadCode hr pass_flown (pa_cons (pv 0) (pa_cons (pv 2) pa_nil))) pa_any))))))), (sx_seq2 (ss_drop (se_call (sa_cons (se_var 0) sa_nil))) (sx_ret (sxe_either (sxe_arg (sxa_here (sxe_call (sa_cons (se_var 0) (sa_cons (se_var 1) sa_nil))))) (sxe_arg (sxa_next (se_call (sa_cons (se_var 0) (sa_cons (se_var 1) sa_nil))) (sxa_here (sxe_call (sa_cons (se_var 0) (sa_cons (se_var 2) sa_nil)))))))))⟩
theorem okX_law_deed_BadCode {C : Addr} (F : Fun K "_law_deed" "_law_deed" s_law_deed f fd) (B : Bt mg) (OXanswer_BadCode : OwnX P w K mg base 4 "answer" ["game", "hidden", "guess"] (spX K 3 C Xanswer_BadCode)) : FnOk P w K mg base (CXF P w) 8 f fd ["_law_way", "_law_bad"] (spX K 2 C X_law_deed_BadCode) :=
  fun_okX F sc_law_deed rfl rfl fun cdv A outer s H E hr => have hu := hr.units
    ⟨_, (pss_cons (ps_if (pt_cmpR (kx_eqD K hu) (pv 0) pe_int (nomark _)) pss_any pss_nil) (pss_cons (ps_if (pt_cmpR (kx_eqD K hu) (pv 0) pe_int (nomark _)) pss_any pss_nil) (pss_cons (ps_if (pt_cmpR (kx_eqD K hu) (pv 0) pe_int (nomark _)) pss_any pss_nil) (pss_cons (ps_if (pt_cmpR (kx_eqD K hu) (pv 0) pe_int (nomark _)) (pss_one (ps_ret (pe_ownX OXanswer_BadCode hr pass_flown (pa_cons (pv 1) (pa_cons pe_non (pa_cons pe_non pa_nil)))))) pss_any) pss_any)))), (sx_seq2 (ss_if (st_test (se_op od_eq (se_var 0) se_int)) ss_any ss_next) (sx_seq2 (ss_if (st_test (se_op od_eq (se_var 0) se_int)) ss_any ss_next) (sx_seq2 (ss_if (st_test (se_op od_eq (se_var 0) se_int)) ss_any ss_next) (sx_seq1 (sx_if (st_test (se_op od_eq (se_var 0) se_int)) (sx_ret (sxe_call (sa_cons (se_var 1) (sa_cons se_non (sa_cons se_non sa_nil))))) sx_no)))))⟩
theorem okis_answer (F : Fun K "is_answer" "is_answer" sis_answer f fd) (B : Bt mg) (Ois_pair : Own P w K mg base 1 "is_pair" ["thing"] (spD K 1 Fis_pair)) (Ois_number_within : Own P w K mg base 1 "is_number_within" ["thing", "low", "high"] (spD K 3 Fis_number_within)) : FnOk P w K mg base CX0 2 f fd ["game", "thing"] (spD K 2 Fis_answer) :=
  fun_okD F scis_answer rfl rfl fun cdv A outer s H E hr => have hu := hr.units
    ⟨_, (pss_one (ps_ret (pe_and (pe_own Ois_pair hr (pa_cons (pv 1) pa_nil)) (pe_one (pe_callB (kx_all K) (by rfl) B.all PyProof.Rows.boot_all (pa_cons (pe_compC ["number"] [("game", 0)] (kx_seq K (pv 1)) (fun _ _ _ _ => (pg_name (i := 0) (show List.Nodup (["number", "game"] : List Str) by decide +kernel) rfl (by first | exact Or.inl rfl | exact Or.inr rfl))) (fun _ _ _ _ => pts_nil) (fun _ _ _ _ => (pe_own Ois_number_within hr (pa_cons (pv 0) (pa_cons pe_int (pa_cons (pe_ix (kx_ix K) (pv 1) pe_int (fun _ _ => rfl)) pa_nil)))))) pa_nil)))))), (ss_ret (se_and (se_call (sa_cons (se_var 1) sa_nil)) (se_callB cd_all (sa_cons (se_own (so_comp (si_seq (se_var 1)) (sg_name 0) low_name st_yes (se_call (sa_cons (se_var 0) (sa_cons se_int (sa_cons (se_op od_ix (se_var 1) se_int) sa_nil)))))) sa_nil))))⟩
theorem okis_ask (F : Fun K "is_ask" "is_ask" sis_ask f fd) (B : Bt mg) (Ois_pair : Own P w K mg base 1 "is_pair" ["thing"] (spD K 1 Fis_pair)) (Ois_code : Own P w K mg base 2 "is_code" ["game", "thing"] (spD K 2 Fis_code)) (Ois_answer : Own P w K mg base 2 "is_answer" ["game", "thing"] (spD K 2 Fis_answer)) : FnOk P w K mg base CX0 3 f fd ["game", "thing"] (spD K 2 Fis_ask) :=
  fun_okD F scis_ask rfl rfl fun cdv A outer s H E hr => have hu := hr.units
    ⟨_, (pss_one (ps_ret (pe_and (pe_own Ois_pair hr (pa_cons (pv 1) pa_nil)) (pe_and (pe_own Ois_code hr (pa_cons (pv 0) (pa_cons (pe_ix (kx_ix K) (pv 1) pe_int (fun _ _ => rfl)) pa_nil))) (pe_one (pe_own Ois_answer hr (pa_cons (pv 0) (pa_cons (pe_ix (kx_ix K) (pv 1) pe_int (fun _ _ => rfl)) pa_nil)))))))), (ss_ret (se_and (se_call (sa_cons (se_var 1) sa_nil)) (se_and (se_call (sa_cons (se_var 0) (sa_cons (se_op od_ix (se_var 1) se_int) sa_nil))) (se_call (sa_cons (se_var 0) (sa_cons (se_op od_ix (se_var 1) se_int) sa_nil))))))⟩
theorem okchecked_list (F : Fun K "checked_list" "checked_list" schecked_list f fd) (B : Bt mg) (Nis_ask : OwnN P w K mg base 3 "is_ask" ["game", "thing"] (spD K 2 Fis_ask)) (Nis_code : OwnN P w K mg base 2 "is_code" ["game", "thing"] (spD K 2 Fis_code)) {tMOST_ASKS : Tok} (g_MOST_ASKS : mg "MOST_ASKS" = some (.int 8 tMOST_ASKS)) : FnOk P w K mg base CX0 4 f fd ["game", "things", "is_one"] (spD K 3 Fchecked_list) :=
  fun_okD F scchecked_list rfl rfl fun cdv A outer s H E hr => have hu := hr.units
    ⟨_, (pss_cons (ps_if (PW.pt (pw_or (pt_not (kx_tru K (pe_callB (kx_isiD K) (by rfl) B.isinstance boot_isi (pa_cons (pv 1) (pa_cons (pe_bltn (v := .ty "list") rfl B.list PyProof.Rows.boot_list rfl) pa_nil))))) (pw_or1 (pt_cmpR op_gt (pe_callB (kx_lenA K) (by rfl) B.len PySem.boot_len (pa_cons (pv 1) pa_nil)) (pe_glob (v := .int 8) rfl g_MOST_ASKS ⟨_, rfl⟩) (nomark _))))) (pss_one ps_never) pss_nil) (pss_cons (ps_for PassesOwn.never rfl (kx_en K B.enumerate (pa_cons (pv 1) pa_nil)) (kx_pair K (pgs_cons (pg_name (i := 3) scchecked_list.nd rfl (by first | exact Or.inl rfl | exact Or.inr rfl)) (pgs_cons (pg_name (i := 4) scchecked_list.nd rfl (by first | exact Or.inl rfl | exact Or.inr rfl)) pgs_nil))) (pss_one (ps_if (pt_not (kx_tru K (pe_either (pe_ownV Nis_ask hr (pv 2) (pa_cons (pv 0) (pa_cons (pv 4) pa_nil))) (pe_ownV Nis_code hr (pv 2) (pa_cons (pv 0) (pa_cons (pv 4) pa_nil)))))) (pss_one ps_never) pss_nil))) (pss_one (ps_ret (pv 1))))), (ss_seq (ss_if (st_or (st_not (st_tru (se_isi (se_var 1)))) (st_test (se_op od_gt (se_callB cd_len (sa_cons (se_var 1) sa_nil)) se_int))) ss_never ss_next) (ss_seq (ss_for (si_en (sa_cons (se_var 1) sa_nil)) (sg_tup (sgs_cons (sg_name 3) (sgs_cons (sg_name 4) sgs_nil))) (ss_if (st_not (st_tru (se_either (se_callV (sa_cons (se_var 0) (sa_cons (se_var 4) sa_nil))) (se_callV (sa_cons (se_var 0) (sa_cons (se_var 4) sa_nil)))))) ss_never ss_next)) (ss_ret (se_var 1))))⟩
theorem okchecked_asks (F : Fun K "checked_asks" "checked_asks" schecked_asks f fd) (B : Bt mg) (Ochecked_list : Own P w K mg base 4 "checked_list" ["game", "things", "is_one"] (spD K 3 Fchecked_list)) {Ais_ask : Addr} (mis_ask : mg "is_ask" = some (.ref Ais_ask)) (nis_ask : PySem.W.nsIn K mainGlobals "is_ask" = some (some (.ref Ais_ask))) : FnOk P w K mg base CX0 5 f fd ["game", "asks"] (spD K 2 Fchecked_asks) :=
  fun_okD F scchecked_asks rfl rfl fun cdv A outer s H E hr => have hu := hr.units
    ⟨_, (pss_one (ps_ret (pe_own Ochecked_list hr (pa_cons (pv 0) (pa_cons (pv 1) (pa_cons (pe_glob (v := .ref Ais_ask) rfl mis_ask rfl) pa_nil)))))), (ss_ret (se_call (sa_cons (se_var 0) (sa_cons (se_var 1) (sa_cons (se_fn nis_ask) sa_nil)))))⟩
theorem okfits_ask (F : Fun K "fits_ask" "fits_ask" sfits_ask f fd) (B : Bt mg) (Oanswer_of : Own P w K mg base 1 "answer_of" ["hidden", "guess"] (spD K 2 Fanswer_of)) : FnOk P w K mg base CX0 2 f fd ["code", "ask"] (spD K 2 Ffits_ask) :=
  fun_okD F scfits_ask rfl rfl fun cdv A outer s H E hr => have hu := hr.units
    ⟨_, (pss_one (ps_ret (pe_cmpR (kx_eqD K hu) (pe_own Oanswer_of hr (pa_cons (pv 0) (pa_cons (pe_ix (kx_ix K) (pv 1) pe_int (fun _ _ => rfl)) pa_nil))) (pe_ix (kx_ix K) (pv 1) pe_int (fun _ _ => rfl)) (nomark _)))), (ss_ret (se_op od_eq (se_call (sa_cons (se_var 0) (sa_cons (se_op od_ix (se_var 1) se_int) sa_nil))) (se_op od_ix (se_var 1) se_int)))⟩
theorem okthose_that_fit (F : Fun K "those_that_fit" "those_that_fit" sthose_that_fit f fd) (B : Bt mg) (Ofits_ask : Own P w K mg base 2 "fits_ask" ["code", "ask"] (spD K 2 Ffits_ask)) : FnOk P w K mg base CX0 3 f fd ["codes", "asks"] (spD K 2 Fthose_that_fit) :=
  fun_okD F scthose_that_fit rfl rfl fun cdv A outer s H E hr => have hu := hr.units
    ⟨_, (pss_cons (ps_set (i := 2) scthose_that_fit.nd rfl (by first | exact Or.inl rfl | exact Or.inr rfl) (pv 0)) (pss_cons (ps_for PassesOwn.never rfl (kx_seq K (pv 1)) (pg_name (i := 3) scthose_that_fit.nd rfl (by first | exact Or.inl rfl | exact Or.inr rfl)) (pss_one (ps_setC (i := 2) ["code"] [("ask", 3)] scthose_that_fit.nd rfl (by first | exact Or.inl rfl | exact Or.inr rfl) (kx_seq K (pv 2)) (fun _ _ _ _ => (pg_name (i := 0) (show List.Nodup (["code", "ask"] : List Str) by decide +kernel) rfl (by first | exact Or.inl rfl | exact Or.inr rfl))) (fun _ _ _ _ => (pts_one (kx_tru K (pe_own Ofits_ask hr (pa_cons (pv 0) (pa_cons (pv 1) pa_nil)))))) (fun _ _ _ _ => (pv 0))))) (pss_one (ps_ret (pv 2))))), (ss_seq (ss_set 2 (se_var 0)) (ss_seq (ss_for (si_seq (se_var 1)) (sg_name 3) (ss_set 2 (se_own (so_comp (si_seq (se_var 2)) (sg_name 0) low_name (st_tru (se_call (sa_cons (se_var 0) (sa_cons (se_var 1) sa_nil)))) (se_var 0))))) (ss_ret (se_var 2))))⟩
theorem okwhat_fits (F : Fun K "what_fits" "what_fits" swhat_fits f fd) (B : Bt mg) (Ochecked_game : Own P w K mg base 3 "checked_game" ["game"] (spD K 1 Fchecked_game)) (Ochecked_asks : Own P w K mg base 5 "checked_asks" ["game", "asks"] (spD K 2 Fchecked_asks)) (Othose_that_fit : Own P w K mg base 3 "those_that_fit" ["codes", "asks"] (spD K 2 Fthose_that_fit)) (Oall_codes : Own P w K mg base 4 "all_codes" ["game"] (spD K 1 Fall_codes)) : FnOk P w K mg base CX0 6 f fd ["game", "asks"] (spD K 2 Fwhat_fits) :=
  fun_okD F scwhat_fits rfl rfl fun cdv A outer s H E hr => have hu := hr.units
    ⟨_, (pss_cons (ps_expr (pe_own Ochecked_game hr (pa_cons (pv 0) pa_nil))) (pss_cons (ps_expr (pe_own Ochecked_asks hr (pa_cons (pv 0) (pa_cons (pv 1) pa_nil)))) (pss_one (ps_ret (pe_own Othose_that_fit hr (pa_cons (pe_own Oall_codes hr (pa_cons (pv 0) pa_nil)) (pa_cons (pv 1) pa_nil))))))), (ss_seq (ss_drop (se_call (sa_cons (se_var 0) sa_nil))) (ss_seq (ss_drop (se_call (sa_cons (se_var 0) (sa_cons (se_var 1) sa_nil)))) (ss_ret (se_call (sa_cons (se_call (sa_cons (se_var 0) sa_nil)) (sa_cons (se_var 1) sa_nil))))))⟩
theorem okXsplit_BadCode {C : Addr} (F : Fun K "split" "split" ssplit f fd) (B : Bt mg) (Owhat_fits : Own P w K mg base 6 "what_fits" ["game", "asks"] (spD K 2 Fwhat_fits)) (OXchecked_code_BadCode : OwnX P w K mg base 3 "checked_code" ["game", "code"] (spX K 2 C Xchecked_code_BadCode)) : FnOk P w K mg base (CXF P w) 7 f fd ["game", "asks", "guess"] (spX K 3 C Xsplit_BadCode) :=
  fun_okX F scsplit rfl rfl fun cdv A outer s H E hr => have hu := hr.units
    ⟨_, (pss_cons (ps_set (i := 3) scsplit.nd rfl (by first | exact Or.inl rfl | exact Or.inr rfl) (pe_own Owhat_fits hr (pa_cons (pv 0) (pa_cons (pv 1) pa_nil)))) (pss_cons (ps_expr (pe_ownX OXchecked_code_BadCode hr pass_flown (pa_cons (pv 0) (pa_cons (pv 2) pa_nil)))) pss_any)), (sx_seq2 (ss_set 3 (se_call (sa_cons (se_var 0) (sa_cons (se_var 1) sa_nil)))) (sx_seq1 (sx_drop (sxe_call (sa_cons (se_var 0) (sa_cons (se_var 2) sa_nil))))))⟩
theorem okXplayed_BadCode {C : Addr} (F : Fun K "played" "played" splayed f fd) (B : Bt mg) (Ochecked_game : Own P w K mg base 3 "checked_game" ["game"] (spD K 1 Fchecked_game)) (OXchecked_code_BadCode : OwnX P w K mg base 3 "checked_code" ["game", "code"] (spX K 2 C Xchecked_code_BadCode)) : FnOk P w K mg base (CXF P w) 5 f fd ["game", "hidden"] (spX K 2 C Xplayed_BadCode) :=
  fun_okX F scplayed rfl rfl fun cdv A outer s H E hr => have hu := hr.units
    ⟨_, (pss_cons (ps_expr (pe_own Ochecked_game hr (pa_cons (pv 0) pa_nil))) (pss_cons (ps_expr (pe_ownX OXchecked_code_BadCode hr pass_flown (pa_cons (pv 0) (pa_cons (pv 1) pa_nil)))) pss_any)), (sx_seq2 (ss_drop (se_call (sa_cons (se_var 0) sa_nil))) (sx_seq1 (sx_drop (sxe_call (sa_cons (se_var 0) (sa_cons (se_var 1) sa_nil))))))⟩
theorem okX_law_more_BadCode {C : Addr} (F : Fun K "_law_more" "_law_more" s_law_more f fd) (B : Bt mg) (OXsplit_BadCode : OwnX P w K mg base 7 "split" ["game", "asks", "guess"] (spX K 3 C Xsplit_BadCode)) (OXplayed_BadCode : OwnX P w K mg base 5 "played" ["game", "hidden"] (spX K 2 C Xplayed_BadCode)) : FnOk P w K mg base (CXF P w) 9 f fd ["_law_way", "_law_bad"] (spX K 2 C X_law_more_BadCode) :=
  fun_okX F sc_law_more rfl rfl fun cdv A outer s H E hr => have hu := hr.units
    ⟨_, (pss_either (pss_cons (ps_if (pt_cmpR (kx_eqD K hu) (pv 0) pe_int (nomark _)) (pss_one (ps_ret (pe_ownX OXsplit_BadCode hr pass_flown (pa_cons (pv 1) (pa_cons pe_non (pa_cons pe_non pa_nil)))))) pss_any) pss_any) (pss_cons (ps_if (pt_cmpR (kx_eqD K hu) (pv 0) pe_int (nomark _)) pss_any pss_nil) (pss_cons (ps_if (pt_cmpR (kx_eqD K hu) (pv 0) pe_int (nomark _)) pss_any pss_nil) (pss_cons (ps_if (pt_cmpR (kx_eqD K hu) (pv 0) pe_int (nomark _)) (pss_one (ps_ret (pe_ownX OXplayed_BadCode hr pass_flown (pa_cons (pv 1) (pa_cons pe_non pa_nil))))) pss_any) pss_any)))), (sx_either (sx_seq1 (sx_if (st_test (se_op od_eq (se_var 0) se_int)) (sx_ret (sxe_call (sa_cons (se_var 1) (sa_cons se_non (sa_cons se_non sa_nil))))) sx_no)) (sx_seq2 (ss_if (st_test (se_op od_eq (se_var 0) se_int)) ss_any ss_next) (sx_seq2 (ss_if (st_test (se_op od_eq (se_var 0) se_int)) ss_any ss_next) (sx_seq1 (sx_if (st_test (se_op od_eq (se_var 0) se_int)) (sx_ret (sxe_call (sa_cons (se_var 1) (sa_cons se_non sa_nil)))) sx_no)))))⟩
theorem okfound_or_clash (F : Fun K "found_or_clash" "found_or_clash" sfound_or_clash f fd) (B : Bt mg) : FnOk P w K mg base CX0 1 f fd ["found"] (spD K 1 Ffound_or_clash) :=
  fun_okD F scfound_or_clash rfl rfl fun cdv A outer s H E hr => have hu := hr.units
    ⟨_, (pss_cons (ps_if (pt_not (kx_tru K (pv 0))) (pss_one ps_never) pss_nil) (pss_one (ps_ret (pv 0)))), (ss_seq (ss_if (st_not (st_tru (se_var 0))) ss_never ss_next) (ss_ret (se_var 0)))⟩
theorem okXfoe_answer_BadCode {C : Addr} (F : Fun K "foe_answer" "foe_answer" sfoe_answer f fd) (B : Bt mg) (Ofound_or_clash : Own P w K mg base 1 "found_or_clash" ["found"] (spD K 1 Ffound_or_clash)) (OXsplit_BadCode : OwnX P w K mg base 7 "split" ["game", "asks", "guess"] (spX K 3 C Xsplit_BadCode)) : FnOk P w K mg base (CXF P w) 8 f fd ["game", "asks", "guess"] (spX K 3 C Xfoe_answer_BadCode) :=
  fun_okX F scfoe_answer rfl rfl fun cdv A outer s H E hr => have hu := hr.units
    ⟨_, (pss_cons (ps_set (i := 3) scfoe_answer.nd rfl (by first | exact Or.inl rfl | exact Or.inr rfl) (pe_own Ofound_or_clash hr (pa_cons (pe_ownX OXsplit_BadCode hr pass_flown (pa_cons (pv 0) (pa_cons (pv 1) (pa_cons (pv 2) pa_nil)))) pa_any))) pss_any), (sx_seq1 (sx_asg (sxe_arg (sxa_here (sxe_call (sa_cons (se_var 0) (sa_cons (se_var 1) (sa_cons (se_var 2) sa_nil))))))))⟩
theorem okXleast_guess_like_BadCode {C : Addr} (F : Fun K "least_guess_like" "least_guess_like" sleast_guess_like f fd) (B : Bt mg) (Ochecked_game : Own P w K mg base 3 "checked_game" ["game"] (spD K 1 Fchecked_game)) (OXchecked_code_BadCode : OwnX P w K mg base 3 "checked_code" ["game", "code"] (spX K 2 C Xchecked_code_BadCode)) : FnOk P w K mg base (CXF P w) 4 f fd ["game", "guess"] (spX K 2 C Xleast_guess_like_BadCode) :=
  fun_okX F scleast_guess_like rfl rfl fun cdv A outer s H E hr => have hu := hr.units
    ⟨_, (pss_cons (ps_expr (pe_own Ochecked_game hr (pa_cons (pv 0) pa_nil))) (pss_cons (ps_expr (pe_ownX OXchecked_code_BadCode hr pass_flown (pa_cons (pv 0) (pa_cons (pv 1) pa_nil)))) pss_any)), (sx_seq2 (ss_drop (se_call (sa_cons (se_var 0) sa_nil))) (sx_seq1 (sx_drop (sxe_call (sa_cons (se_var 0) (sa_cons (se_var 1) sa_nil))))))⟩
theorem okX_law_by_code_BadCode {C : Addr} (F : Fun K "_law_by_code" "_law_by_code" s_law_by_code f fd) (B : Bt mg) (OXanswer_BadCode : OwnX P w K mg base 4 "answer" ["game", "hidden", "guess"] (spX K 3 C Xanswer_BadCode)) (OXsplit_BadCode : OwnX P w K mg base 7 "split" ["game", "asks", "guess"] (spX K 3 C Xsplit_BadCode)) (OXfoe_answer_BadCode : OwnX P w K mg base 8 "foe_answer" ["game", "asks", "guess"] (spX K 3 C Xfoe_answer_BadCode)) (OXplayed_BadCode : OwnX P w K mg base 5 "played" ["game", "hidden"] (spX K 2 C Xplayed_BadCode)) (OXleast_guess_like_BadCode : OwnX P w K mg base 4 "least_guess_like" ["game", "guess"] (spX K 2 C Xleast_guess_like_BadCode)) : FnOk P w K mg base (CXF P w) 9 f fd ["_law_way", "_law_game_here", "_law_good", "_law_bad"] (spX K 4 C X_law_by_code_BadCode) :=
  fun_okX F sc_law_by_code rfl rfl fun cdv A outer s H E hr => have hu := hr.units
    ⟨_, (pss_either (pss_cons (ps_if (pt_cmpR (kx_eqD K hu) (pv 0) pe_int (nomark _)) (pss_one (ps_ret (pe_ownX OXanswer_BadCode hr pass_flown (pa_cons (pv 1) (pa_cons (pv 3) (pa_cons (pv 2) pa_nil)))))) pss_any) pss_any) (pss_cons (ps_if (pt_cmpR (kx_eqD K hu) (pv 0) pe_int (nomark _)) pss_any pss_nil) (pss_either (pss_cons (ps_if (pt_cmpR (kx_eqD K hu) (pv 0) pe_int (nomark _)) (pss_one (ps_ret (pe_ownX OXanswer_BadCode hr pass_flown (pa_cons (pv 1) (pa_cons (pv 2) (pa_cons (pv 3) pa_nil)))))) pss_any) pss_any) (pss_cons (ps_if (pt_cmpR (kx_eqD K hu) (pv 0) pe_int (nomark _)) pss_any pss_nil) (pss_either (pss_cons (ps_if (pt_cmpR (kx_eqD K hu) (pv 0) pe_int (nomark _)) (pss_one (ps_ret (pe_ownX OXsplit_BadCode hr pass_flown (pa_cons (pv 1) (pa_cons (pe_lst pa_nil) (pa_cons (pv 3) pa_nil)))))) pss_any) pss_any) (pss_cons (ps_if (pt_cmpR (kx_eqD K hu) (pv 0) pe_int (nomark _)) pss_any pss_nil) (pss_either (pss_cons (ps_if (pt_cmpR (kx_eqD K hu) (pv 0) pe_int (nomark _)) (pss_one (ps_ret (pe_ownX OXfoe_answer_BadCode hr pass_flown (pa_cons (pv 1) (pa_cons (pe_lst pa_nil) (pa_cons (pv 3) pa_nil)))))) pss_any) pss_any) (pss_cons (ps_if (pt_cmpR (kx_eqD K hu) (pv 0) pe_int (nomark _)) pss_any pss_nil) (pss_either (pss_cons (ps_if (pt_cmpR (kx_eqD K hu) (pv 0) pe_int (nomark _)) (pss_one (ps_ret (pe_ownX OXplayed_BadCode hr pass_flown (pa_cons (pv 1) (pa_cons (pv 3) pa_nil))))) pss_any) pss_any) (pss_cons (ps_if (pt_cmpR (kx_eqD K hu) (pv 0) pe_int (nomark _)) pss_any pss_nil) (pss_one (ps_ret (pe_ownX OXleast_guess_like_BadCode hr pass_flown (pa_cons (pv 1) (pa_cons (pv 3) pa_nil))))))))))))))), (sx_either (sx_seq1 (sx_if (st_test (se_op od_eq (se_var 0) se_int)) (sx_ret (sxe_call (sa_cons (se_var 1) (sa_cons (se_var 3) (sa_cons (se_var 2) sa_nil))))) sx_no)) (sx_seq2 (ss_if (st_test (se_op od_eq (se_var 0) se_int)) ss_any ss_next) (sx_either (sx_seq1 (sx_if (st_test (se_op od_eq (se_var 0) se_int)) (sx_ret (sxe_call (sa_cons (se_var 1) (sa_cons (se_var 2) (sa_cons (se_var 3) sa_nil))))) sx_no)) (sx_seq2 (ss_if (st_test (se_op od_eq (se_var 0) se_int)) ss_any ss_next) (sx_either (sx_seq1 (sx_if (st_test (se_op od_eq (se_var 0) se_int)) (sx_ret (sxe_call (sa_cons (se_var 1) (sa_cons (se_own (so_lst sa_nil)) (sa_cons (se_var 3) sa_nil))))) sx_no)) (sx_seq2 (ss_if (st_test (se_op od_eq (se_var 0) se_int)) ss_any ss_next) (sx_either (sx_seq1 (sx_if (st_test (se_op od_eq (se_var 0) se_int)) (sx_ret (sxe_call (sa_cons (se_var 1) (sa_cons (se_own (so_lst sa_nil)) (sa_cons (se_var 3) sa_nil))))) sx_no)) (sx_seq2 (ss_if (st_test (se_op od_eq (se_var 0) se_int)) ss_any ss_next) (sx_either (sx_seq1 (sx_if (st_test (se_op od_eq (se_var 0) se_int)) (sx_ret (sxe_call (sa_cons (se_var 1) (sa_cons (se_var 3) sa_nil)))) sx_no)) (sx_seq2 (ss_if (st_test (se_op od_eq (se_var 0) se_int)) ss_any ss_next) (sx_ret (sxe_call (sa_cons (se_var 1) (sa_cons (se_var 3) sa_nil))))))))))))))⟩
theorem okXchecked_game_BadGame {C : Addr} (F : Fun K "checked_game" "checked_game" schecked_game f fd) (B : Bt mg) (Ois_game : Own P w K mg base 2 "is_game" ["thing"] (spD K 1 Fis_game)) (gC_BadGame : mg "BadGame" = some (.ref C)) (xC_BadGame : PySem.W.excIn K C [.type "ValueError", .type "Exception", .type "BaseException", .type "object"] "ValueError.__new__" = true) : FnOk P w K mg base (CXF P w) 3 f fd ["game"] (spX K 1 C Xchecked_game_BadGame) :=
  fun_okX F scchecked_game rfl rfl fun cdv A outer s H E hr => have hu := hr.units
    ⟨_, (pss_cons (ps_if (pt_not (kx_tru K (pe_own Ois_game hr (pa_cons (pv 0) pa_nil)))) (pss_one (ps_raise gC_BadGame xC_BadGame PySem.F.excBase_ValueError (pa_cons pe_str pa_nil))) pss_any) pss_any), (sx_seq1 (sx_if (st_not (st_tru (se_call (sa_cons (se_var 0) sa_nil)))) (sx_raise (sa_cons se_str sa_nil)) sx_no))⟩
theorem okXall_codes_BadGame {C : Addr} (F : Fun K "all_codes" "all_codes" sall_codes f fd) (B : Bt mg) (OXchecked_game_BadGame : OwnX P w K mg base 3 "checked_game" ["game"] (spX K 1 C Xchecked_game_BadGame)) : FnOk P w K mg base (CXF P w) 4 f fd ["game"] (spX K 1 C Xall_codes_BadGame) :=
  fun_okX F scall_codes rfl rfl fun cdv A outer s H E hr => have hu := hr.units
    ⟨_, (pss_cons (ps_expr (pe_ownX OXchecked_game_BadGame hr pass_flown (pa_cons (pv 0) pa_nil))) pss_any), (sx_seq1 (sx_drop (sxe_call (sa_cons (se_var 0) sa_nil))))⟩
theorem okXall_answers_BadGame {C : Addr} (F : Fun K "all_answers" "all_answers" sall_answers f fd) (B : Bt mg) (OXall_codes_BadGame : OwnX P w K mg base 4 "all_codes" ["game"] (spX K 1 C Xall_codes_BadGame)) : FnOk P w K mg base (CXF P w) 5 f fd ["game"] (spX K 1 C Xall_answers_BadGame) :=
  fun_okX F scall_answers rfl rfl fun cdv A outer s H E hr => have hu := hr.units
    ⟨_, (pss_cons (ps_set (i := 1) scall_answers.nd rfl (by first | exact Or.inl rfl | exact Or.inr rfl) (pe_ownX OXall_codes_BadGame hr pass_flown (pa_cons (pv 0) pa_nil))) pss_any), (sx_seq1 (sx_asg (sxe_call (sa_cons (se_var 0) sa_nil))))⟩
theorem okXanswer_BadGame {C : Addr} (F : Fun K "answer" "answer" sanswer f fd) (B : Bt mg) (OXchecked_game_BadGame : OwnX P w K mg base 3 "checked_game" ["game"] (spX K 1 C Xchecked_game_BadGame)) : FnOk P w K mg base (CXF P w) 4 f fd ["game", "hidden", "guess"] (spX K 3 C Xanswer_BadGame) :=
  fun_okX F scanswer rfl rfl fun cdv A outer s H E hr => have hu := hr.units
    ⟨_, (pss_cons (ps_expr (pe_ownX OXchecked_game_BadGame hr pass_flown (pa_cons (pv 0) pa_nil))) pss_any), (sx_seq1 (sx_drop (sxe_call (sa_cons (se_var 0) sa_nil))))⟩
theorem okXwhat_fits_BadGame {C : Addr} (F : Fun K "what_fits" "what_fits" swhat_fits f fd) (B : Bt mg) (Ochecked_game : Own P w K mg base 3 "checked_game" ["game"] (spD K 1 Fchecked_game)) (Ochecked_asks : Own P w K mg base 5 "checked_asks" ["game", "asks"] (spD K 2 Fchecked_asks)) (Othose_that_fit : Own P w K mg base 3 "those_that_fit" ["codes", "asks"] (spD K 2 Fthose_that_fit)) (OXchecked_game_BadGame : OwnX P w K mg base 3 "checked_game" ["game"] (spX K 1 C Xchecked_game_BadGame)) (OXall_codes_BadGame : OwnX P w K mg base 4 "all_codes" ["game"] (spX K 1 C Xall_codes_BadGame)) : FnOk P w K mg base (CXF P w) 6 f fd ["game", "asks"] (spX K 2 C Xwhat_fits_BadGame) :=
  fun_okX F scwhat_fits rfl rfl fun cdv A outer s H E hr => have hu := hr.units
    ⟨_, (pss_either (pss_cons (ps_expr (pe_ownX OXchecked_game_BadGame hr pass_flown (pa_cons (pv 0) pa_nil))) pss_any) (pss_cons (ps_expr (pe_own Ochecked_game hr (pa_cons (pv 0) pa_nil))) (pss_cons (ps_expr (pe_own Ochecked_asks hr (pa_cons (pv 0) (pa_cons (pv 1) pa_nil)))) (pss_one (ps_ret (pe_own Othose_that_fit hr (pa_cons (pe_ownX OXall_codes_BadGame hr pass_flown (pa_cons (pv 0) pa_nil)) pa_any))))))), (sx_either (sx_seq1 (sx_drop (sxe_call (sa_cons (se_var 0) sa_nil)))) (sx_seq2 (ss_drop (se_call (sa_cons (se_var 0) sa_nil))) (sx_seq2 (ss_drop (se_call (sa_cons (se_var 0) (sa_cons (se_var 1) sa_nil)))) (sx_ret (sxe_arg (sxa_here (sxe_call (sa_cons (se_var 0) sa_nil))))))))⟩
theorem okXwhy_clash_BadGame {C : Addr} (F : Fun K "why_clash" "why_clash" swhy_clash f fd) (B : Bt mg) (OXwhat_fits_BadGame : OwnX P w K mg base 6 "what_fits" ["game", "asks"] (spX K 2 C Xwhat_fits_BadGame)) : FnOk P w K mg base (CXF P w) 7 f fd ["game", "asks"] (spX K 2 C Xwhy_clash_BadGame) :=
  fun_okX F scwhy_clash rfl rfl fun cdv A outer s H E hr => have hu := hr.units
    ⟨_, (pss_cons (ps_if (kx_tru K (pe_ownX OXwhat_fits_BadGame hr pass_flown (pa_cons (pv 0) (pa_cons (pv 1) pa_nil)))) pss_any pss_any) pss_any), (sx_seq1 (sx_iftest (sxe_call (sa_cons (se_var 0) (sa_cons (se_var 1) sa_nil)))))⟩
theorem okXneedless_BadGame {C : Addr} (F : Fun K "needless" "needless" sneedless f fd) (B : Bt mg) (Owhat_fits : Own P w K mg base 6 "what_fits" ["game", "asks"] (spD K 2 Fwhat_fits)) (OXwhat_fits_BadGame : OwnX P w K mg base 6 "what_fits" ["game", "asks"] (spX K 2 C Xwhat_fits_BadGame)) (OXall_codes_BadGame : OwnX P w K mg base 4 "all_codes" ["game"] (spX K 1 C Xall_codes_BadGame)) : FnOk P w K mg base (CXF P w) 7 f fd ["game", "asks"] (spX K 2 C Xneedless_BadGame) :=
  fun_okX F scneedless rfl rfl fun cdv A outer s H E hr => have hu := hr.units
    ⟨_, (pss_either (pss_cons (ps_set (i := 2) scneedless.nd rfl (by first | exact Or.inl rfl | exact Or.inr rfl) (pe_ownX OXwhat_fits_BadGame hr pass_flown (pa_cons (pv 0) (pa_cons (pv 1) pa_nil)))) pss_any) (pss_cons (ps_set (i := 2) scneedless.nd rfl (by first | exact Or.inl rfl | exact Or.inr rfl) (pe_own Owhat_fits hr (pa_cons (pv 0) (pa_cons (pv 1) pa_nil)))) (pss_cons (ps_set (i := 3) scneedless.nd rfl (by first | exact Or.inl rfl | exact Or.inr rfl) (pe_ownX OXall_codes_BadGame hr pass_flown (pa_cons (pv 0) pa_nil))) pss_any))), (sx_either (sx_seq1 (sx_asg (sxe_call (sa_cons (se_var 0) (sa_cons (se_var 1) sa_nil))))) (sx_seq2 (ss_set 2 (se_call (sa_cons (se_var 0) (sa_cons (se_var 1) sa_nil)))) (sx_seq1 (sx_asg (sxe_call (sa_cons (se_var 0) sa_nil))))))⟩
theorem okXsettled_BadGame {C : Addr} (F : Fun K "settled" "settled" ssettled f fd) (B : Bt mg) (Ofound_or_clash : Own P w K mg base 1 "found_or_clash" ["found"] (spD K 1 Ffound_or_clash)) (OXwhat_fits_BadGame : OwnX P w K mg base 6 "what_fits" ["game", "asks"] (spX K 2 C Xwhat_fits_BadGame)) : FnOk P w K mg base (CXF P w) 7 f fd ["game", "asks"] (spX K 2 C Xsettled_BadGame) :=
  fun_okX F scsettled rfl rfl fun cdv A outer s H E hr => have hu := hr.units
    ⟨_, (pss_cons (ps_set (i := 2) scsettled.nd rfl (by first | exact Or.inl rfl | exact Or.inr rfl) (pe_own Ofound_or_clash hr (pa_cons (pe_ownX OXwhat_fits_BadGame hr pass_flown (pa_cons (pv 0) (pa_cons (pv 1) pa_nil))) pa_any))) pss_any), (sx_seq1 (sx_asg (sxe_arg (sxa_here (sxe_call (sa_cons (se_var 0) (sa_cons (se_var 1) sa_nil)))))))⟩
theorem okX_law_deed_BadGame {C : Addr} (F : Fun K "_law_deed" "_law_deed" s_law_deed f fd) (B : Bt mg) (OXchecked_game_BadGame : OwnX P w K mg base 3 "checked_game" ["game"] (spX K 1 C Xchecked_game_BadGame)) (OXall_codes_BadGame : OwnX P w K mg base 4 "all_codes" ["game"] (spX K 1 C Xall_codes_BadGame)) (OXall_answers_BadGame : OwnX P w K mg base 5 "all_answers" ["game"] (spX K 1 C Xall_answers_BadGame)) (OXanswer_BadGame : OwnX P w K mg base 4 "answer" ["game", "hidden", "guess"] (spX K 3 C Xanswer_BadGame)) (OXwhat_fits_BadGame : OwnX P w K mg base 6 "what_fits" ["game", "asks"] (spX K 2 C Xwhat_fits_BadGame)) (OXwhy_clash_BadGame : OwnX P w K mg base 7 "why_clash" ["game", "asks"] (spX K 2 C Xwhy_clash_BadGame)) (OXneedless_BadGame : OwnX P w K mg base 7 "needless" ["game", "asks"] (spX K 2 C Xneedless_BadGame)) (OXsettled_BadGame : OwnX P w K mg base 7 "settled" ["game", "asks"] (spX K 2 C Xsettled_BadGame)) : FnOk P w K mg base (CXF P w) 8 f fd ["_law_way", "_law_bad"] (spX K 2 C X_law_deed_BadGame) :=
  fun_okX F sc_law_deed rfl rfl fun cdv A outer s H E hr => have hu := hr.units
    ⟨_, (pss_either (pss_cons (ps_if (pt_cmpR (kx_eqD K hu) (pv 0) pe_int (nomark _)) (pss_one (ps_ret (pe_ownX OXchecked_game_BadGame hr pass_flown (pa_cons (pv 1) pa_nil)))) pss_any) pss_any) (pss_cons (ps_if (pt_cmpR (kx_eqD K hu) (pv 0) pe_int (nomark _)) pss_any pss_nil) (pss_either (pss_cons (ps_if (pt_cmpR (kx_eqD K hu) (pv 0) pe_int (nomark _)) (pss_one (ps_ret (pe_ownX OXall_codes_BadGame hr pass_flown (pa_cons (pv 1) pa_nil)))) pss_any) pss_any) (pss_cons (ps_if (pt_cmpR (kx_eqD K hu) (pv 0) pe_int (nomark _)) pss_any pss_nil) (pss_either (pss_cons (ps_if (pt_cmpR (kx_eqD K hu) (pv 0) pe_int (nomark _)) (pss_one (ps_ret (pe_ownX OXall_answers_BadGame hr pass_flown (pa_cons (pv 1) pa_nil)))) pss_any) pss_any) (pss_cons (ps_if (pt_cmpR (kx_eqD K hu) (pv 0) pe_int (nomark _)) pss_any pss_nil) (pss_either (pss_cons (ps_if (pt_cmpR (kx_eqD K hu) (pv 0) pe_int (nomark _)) (pss_one (ps_ret (pe_ownX OXanswer_BadGame hr pass_flown (pa_cons (pv 1) (pa_cons pe_non (pa_cons pe_non pa_nil)))))) pss_any) pss_any) (pss_cons (ps_if (pt_cmpR (kx_eqD K hu) (pv 0) pe_int (nomark _)) pss_any pss_nil) (pss_either (pss_cons (ps_if (pt_cmpR (kx_eqD K hu) (pv 0) pe_int (nomark _)) (pss_one (ps_ret (pe_ownX OXwhat_fits_BadGame hr pass_flown (pa_cons (pv 1) (pa_cons pe_non pa_nil))))) pss_any) pss_any) (pss_cons (ps_if (pt_cmpR (kx_eqD K hu) (pv 0) pe_int (nomark _)) pss_any pss_nil) (pss_either (pss_cons (ps_if (pt_cmpR (kx_eqD K hu) (pv 0) pe_int (nomark _)) (pss_one (ps_ret (pe_ownX OXwhy_clash_BadGame hr pass_flown (pa_cons (pv 1) (pa_cons pe_non pa_nil))))) pss_any) pss_any) (pss_cons (ps_if (pt_cmpR (kx_eqD K hu) (pv 0) pe_int (nomark _)) pss_any pss_nil) (pss_either (pss_cons (ps_if (pt_cmpR (kx_eqD K hu) (pv 0) pe_int (nomark _)) (pss_one (ps_ret (pe_ownX OXneedless_BadGame hr pass_flown (pa_cons (pv 1) (pa_cons pe_non pa_nil))))) pss_any) pss_any) (pss_cons (ps_if (pt_cmpR (kx_eqD K hu) (pv 0) pe_int (nomark _)) pss_any pss_nil) (pss_one (ps_ret (pe_ownX OXsettled_BadGame hr pass_flown (pa_cons (pv 1) (pa_cons pe_non pa_nil))))))))))))))))))), (sx_either (sx_seq1 (sx_if (st_test (se_op od_eq (se_var 0) se_int)) (sx_ret (sxe_call (sa_cons (se_var 1) sa_nil))) sx_no)) (sx_seq2 (ss_if (st_test (se_op od_eq (se_var 0) se_int)) ss_any ss_next) (sx_either (sx_seq1 (sx_if (st_test (se_op od_eq (se_var 0) se_int)) (sx_ret (sxe_call (sa_cons (se_var 1) sa_nil))) sx_no)) (sx_seq2 (ss_if (st_test (se_op od_eq (se_var 0) se_int)) ss_any ss_next) (sx_either (sx_seq1 (sx_if (st_test (se_op od_eq (se_var 0) se_int)) (sx_ret (sxe_call (sa_cons (se_var 1) sa_nil))) sx_no)) (sx_seq2 (ss_if (st_test (se_op od_eq (se_var 0) se_int)) ss_any ss_next) (sx_either (sx_seq1 (sx_if (st_test (se_op od_eq (se_var 0) se_int)) (sx_ret (sxe_call (sa_cons (se_var 1) (sa_cons se_non (sa_cons se_non sa_nil))))) sx_no)) (sx_seq2 (ss_if (st_test (se_op od_eq (se_var 0) se_int)) ss_any ss_next) (sx_either (sx_seq1 (sx_if (st_test (se_op od_eq (se_var 0) se_int)) (sx_ret (sxe_call (sa_cons (se_var 1) (sa_cons se_non sa_nil)))) sx_no)) (sx_seq2 (ss_if (st_test (se_op od_eq (se_var 0) se_int)) ss_any ss_next) (sx_either (sx_seq1 (sx_if (st_test (se_op od_eq (se_var 0) se_int)) (sx_ret (sxe_call (sa_cons (se_var 1) (sa_cons se_non sa_nil)))) sx_no)) (sx_seq2 (ss_if (st_test (se_op od_eq (se_var 0) se_int)) ss_any ss_next) (sx_either (sx_seq1 (sx_if (st_test (se_op od_eq (se_var 0) se_int)) (sx_ret (sxe_call (sa_cons (se_var 1) (sa_cons se_non sa_nil)))) sx_no)) (sx_seq2 (ss_if (st_test (se_op od_eq (se_var 0) se_int)) ss_any ss_next) (sx_ret (sxe_call (sa_cons (se_var 1) (sa_cons se_non sa_nil))))))))))))))))))⟩
theorem okXsplit_BadGame {C : Addr} (F : Fun K "split" "split" ssplit f fd) (B : Bt mg) (OXwhat_fits_BadGame : OwnX P w K mg base 6 "what_fits" ["game", "asks"] (spX K 2 C Xwhat_fits_BadGame)) : FnOk P w K mg base (CXF P w) 7 f fd ["game", "asks", "guess"] (spX K 3 C Xsplit_BadGame) :=
  fun_okX F scsplit rfl rfl fun cdv A outer s H E hr => have hu := hr.units
    ⟨_, (pss_cons (ps_set (i := 3) scsplit.nd rfl (by first | exact Or.inl rfl | exact Or.inr rfl) (pe_ownX OXwhat_fits_BadGame hr pass_flown (pa_cons (pv 0) (pa_cons (pv 1) pa_nil)))) pss_any), (sx_seq1 (sx_asg (sxe_call (sa_cons (se_var 0) (sa_cons (se_var 1) sa_nil)))))⟩
theorem okXbest_guess_BadGame {C : Addr} (F : Fun K "best_guess" "best_guess" sbest_guess f fd) (B : Bt mg) (Ofound_or_clash : Own P w K mg base 1 "found_or_clash" ["found"] (spD K 1 Ffound_or_clash)) (OXwhat_fits_BadGame : OwnX P w K mg base 6 "what_fits" ["game", "asks"] (spX K 2 C Xwhat_fits_BadGame)) : FnOk P w K mg base (CXF P w) 7 f fd ["game", "asks"] (spX K 2 C Xbest_guess_BadGame) :=
  fun_okX F scbest_guess rfl rfl fun cdv A outer s H E hr => have hu := hr.units
    ⟨_, (pss_cons (ps_set (i := 2) scbest_guess.nd rfl (by first | exact Or.inl rfl | exact Or.inr rfl) (pe_own Ofound_or_clash hr (pa_cons (pe_ownX OXwhat_fits_BadGame hr pass_flown (pa_cons (pv 0) (pa_cons (pv 1) pa_nil))) pa_any))) pss_any), (sx_seq1 (sx_asg (sxe_arg (sxa_here (sxe_call (sa_cons (se_var 0) (sa_cons (se_var 1) sa_nil)))))))⟩
theorem okXplayed_BadGame {C : Addr} (F : Fun K "played" "played" splayed f fd) (B : Bt mg) (Ochecked_game : Own P w K mg base 3 "checked_game" ["game"] (spD K 1 Fchecked_game)) (Ochecked_code : Own P w K mg base 3 "checked_code" ["game", "code"] (spD K 2 Fchecked_code)) (OXchecked_game_BadGame : OwnX P w K mg base 3 "checked_game" ["game"] (spX K 1 C Xchecked_game_BadGame)) (OXall_codes_BadGame : OwnX P w K mg base 4 "all_codes" ["game"] (spX K 1 C Xall_codes_BadGame)) : FnOk P w K mg base (CXF P w) 5 f fd ["game", "hidden"] (spX K 2 C Xplayed_BadGame) :=
  fun_okX F scplayed rfl rfl fun cdv A outer s H E hr => have hu := hr.units
    ⟨_, (pss_either (pss_cons (ps_expr (pe_ownX OXchecked_game_BadGame hr pass_flown (pa_cons (pv 0) pa_nil))) pss_any) (pss_cons (ps_expr (pe_own Ochecked_game hr (pa_cons (pv 0) pa_nil))) (pss_cons (ps_expr (pe_own Ochecked_code hr (pa_cons (pv 0) (pa_cons (pv 1) pa_nil)))) (pss_cons (ps_set (i := 2) scplayed.nd rfl (by first | exact Or.inl rfl | exact Or.inr rfl) (pe_ownX OXall_codes_BadGame hr pass_flown (pa_cons (pv 0) pa_nil))) pss_any)))), (sx_either (sx_seq1 (sx_drop (sxe_call (sa_cons (se_var 0) sa_nil)))) (sx_seq2 (ss_drop (se_call (sa_cons (se_var 0) sa_nil))) (sx_seq2 (ss_drop (se_call (sa_cons (se_var 0) (sa_cons (se_var 1) sa_nil)))) (sx_seq1 (sx_asg (sxe_call (sa_cons (se_var 0) sa_nil)))))))⟩
theorem okXshortest_BadGame {C : Addr} (F : Fun K "shortest" "shortest" sshortest f fd) (B : Bt mg) (Ofound_or_clash : Own P w K mg base 1 "found_or_clash" ["found"] (spD K 1 Ffound_or_clash)) (OXwhat_fits_BadGame : OwnX P w K mg base 6 "what_fits" ["game", "asks"] (spX K 2 C Xwhat_fits_BadGame)) : FnOk P w K mg base (CXF P w) 7 f fd ["game", "asks"] (spX K 2 C Xshortest_BadGame) :=
  fun_okX F scshortest rfl rfl fun cdv A outer s H E hr => have hu := hr.units
    ⟨_, (pss_cons (ps_set (i := 2) scshortest.nd rfl (by first | exact Or.inl rfl | exact Or.inr rfl) (pe_own Ofound_or_clash hr (pa_cons (pe_ownX OXwhat_fits_BadGame hr pass_flown (pa_cons (pv 0) (pa_cons (pv 1) pa_nil))) pa_any))) pss_any), (sx_seq1 (sx_asg (sxe_arg (sxa_here (sxe_call (sa_cons (se_var 0) (sa_cons (se_var 1) sa_nil)))))))⟩
theorem okXa_plan_BadGame {C : Addr} (F : Fun K "a_plan" "a_plan" sa_plan f fd) (B : Bt mg) (OXshortest_BadGame : OwnX P w K mg base 7 "shortest" ["game", "asks"] (spX K 2 C Xshortest_BadGame)) : FnOk P w K mg base (CXF P w) 8 f fd ["game", "asks"] (spX K 2 C Xa_plan_BadGame) :=
  fun_okX F sca_plan rfl rfl fun cdv A outer s H E hr => have hu := hr.units
    ⟨_, (pss_one (ps_ret (pe_ix (kx_ix K) (pe_ownX OXshortest_BadGame hr pass_flown (pa_cons (pv 0) (pa_cons (pv 1) pa_nil))) pe_int (fun _ _ => rfl)))), (sx_ret (sxe_op1 (sxe_call (sa_cons (se_var 0) (sa_cons (se_var 1) sa_nil)))))⟩
theorem okXalike_by_BadGame {C : Addr} (F : Fun K "alike_by" "alike_by" salike_by f fd) (B : Bt mg) (OXchecked_game_BadGame : OwnX P w K mg base 3 "checked_game" ["game"] (spX K 1 C Xchecked_game_BadGame)) : FnOk P w K mg base (CXF P w) 6 f fd ["game", "guesses"] (spX K 2 C Xalike_by_BadGame) :=
  fun_okX F scalike_by rfl rfl fun cdv A outer s H E hr => have hu := hr.units
    ⟨_, (pss_cons (ps_expr (pe_ownX OXchecked_game_BadGame hr pass_flown (pa_cons (pv 0) pa_nil))) pss_any), (sx_seq1 (sx_drop (sxe_call (sa_cons (se_var 0) sa_nil))))⟩
theorem okXsettle_all_BadGame {C : Addr} (F : Fun K "settle_all" "settle_all" ssettle_all f fd) (B : Bt mg) (OXalike_by_BadGame : OwnX P w K mg base 6 "alike_by" ["game", "guesses"] (spX K 2 C Xalike_by_BadGame)) : FnOk P w K mg base (CXF P w) 7 f fd ["game", "guesses"] (spX K 2 C Xsettle_all_BadGame) :=
  fun_okX F scsettle_all rfl rfl fun cdv A outer s H E hr => have hu := hr.units
    ⟨_, (pss_one (ps_ret (pe_cmpR op_isN (pe_ownX OXalike_by_BadGame hr pass_flown (pa_cons (pv 0) (pa_cons (pv 1) pa_nil))) pe_non (nomark _)))), (sx_ret (sxe_op1 (sxe_call (sa_cons (se_var 0) (sa_cons (se_var 1) sa_nil)))))⟩
theorem okXread_BadGame {C : Addr} (F : Fun K "read" "read" sread f fd) (B : Bt mg) (OXchecked_game_BadGame : OwnX P w K mg base 3 "checked_game" ["game"] (spX K 1 C Xchecked_game_BadGame)) : FnOk P w K mg base (CXF P w) 5 f fd ["game", "text"] (spX K 2 C Xread_BadGame) :=
  fun_okX F scread rfl rfl fun cdv A outer s H E hr => have hu := hr.units
    ⟨_, (pss_cons (ps_expr (pe_ownX OXchecked_game_BadGame hr pass_flown (pa_cons (pv 0) pa_nil))) pss_any), (sx_seq1 (sx_drop (sxe_call (sa_cons (se_var 0) sa_nil))))⟩
theorem okX_law_more_BadGame {C : Addr} (F : Fun K "_law_more" "_law_more" s_law_more f fd) (B : Bt mg) (OXsplit_BadGame : OwnX P w K mg base 7 "split" ["game", "asks", "guess"] (spX K 3 C Xsplit_BadGame)) (OXbest_guess_BadGame : OwnX P w K mg base 7 "best_guess" ["game", "asks"] (spX K 2 C Xbest_guess_BadGame)) (OXplayed_BadGame : OwnX P w K mg base 5 "played" ["game", "hidden"] (spX K 2 C Xplayed_BadGame)) (OXa_plan_BadGame : OwnX P w K mg base 8 "a_plan" ["game", "asks"] (spX K 2 C Xa_plan_BadGame)) (OXsettle_all_BadGame : OwnX P w K mg base 7 "settle_all" ["game", "guesses"] (spX K 2 C Xsettle_all_BadGame)) (OXread_BadGame : OwnX P w K mg base 5 "read" ["game", "text"] (spX K 2 C Xread_BadGame)) : FnOk P w K mg base (CXF P w) 9 f fd ["_law_way", "_law_bad"] (spX K 2 C X_law_more_BadGame) :=
  fun_okX F sc_law_more rfl rfl fun cdv A outer s H E hr => have hu := hr.units
    ⟨_, (pss_either (pss_cons (ps_if (pt_cmpR (kx_eqD K hu) (pv 0) pe_int (nomark _)) (pss_one (ps_ret (pe_ownX OXsplit_BadGame hr pass_flown (pa_cons (pv 1) (pa_cons pe_non (pa_cons pe_non pa_nil)))))) pss_any) pss_any) (pss_cons (ps_if (pt_cmpR (kx_eqD K hu) (pv 0) pe_int (nomark _)) pss_any pss_nil) (pss_either (pss_cons (ps_if (pt_cmpR (kx_eqD K hu) (pv 0) pe_int (nomark _)) (pss_one (ps_ret (pe_ownX OXbest_guess_BadGame hr pass_flown (pa_cons (pv 1) (pa_cons pe_non pa_nil))))) pss_any) pss_any) (pss_cons (ps_if (pt_cmpR (kx_eqD K hu) (pv 0) pe_int (nomark _)) pss_any pss_nil) (pss_either (pss_cons (ps_if (pt_cmpR (kx_eqD K hu) (pv 0) pe_int (nomark _)) (pss_one (ps_ret (pe_ownX OXplayed_BadGame hr pass_flown (pa_cons (pv 1) (pa_cons pe_non pa_nil))))) pss_any) pss_any) (pss_cons (ps_if (pt_cmpR (kx_eqD K hu) (pv 0) pe_int (nomark _)) pss_any pss_nil) (pss_either (pss_cons (ps_if (pt_cmpR (kx_eqD K hu) (pv 0) pe_int (nomark _)) (pss_one (ps_ret (pe_ownX OXa_plan_BadGame hr pass_flown (pa_cons (pv 1) (pa_cons pe_non pa_nil))))) pss_any) pss_any) (pss_cons (ps_if (pt_cmpR (kx_eqD K hu) (pv 0) pe_int (nomark _)) pss_any pss_nil) (pss_either (pss_cons (ps_if (pt_cmpR (kx_eqD K hu) (pv 0) pe_int (nomark _)) (pss_one (ps_ret (pe_ownX OXsettle_all_BadGame hr pass_flown (pa_cons (pv 1) (pa_cons pe_non pa_nil))))) pss_any) pss_any) (pss_cons (ps_if (pt_cmpR (kx_eqD K hu) (pv 0) pe_int (nomark _)) pss_any pss_nil) (pss_one (ps_ret (pe_ownX OXread_BadGame hr pass_flown (pa_cons (pv 1) (pa_cons pe_non pa_nil))))))))))))))), (sx_either (sx_seq1 (sx_if (st_test (se_op od_eq (se_var 0) se_int)) (sx_ret (sxe_call (sa_cons (se_var 1) (sa_cons se_non (sa_cons se_non sa_nil))))) sx_no)) (sx_seq2 (ss_if (st_test (se_op od_eq (se_var 0) se_int)) ss_any ss_next) (sx_either (sx_seq1 (sx_if (st_test (se_op od_eq (se_var 0) se_int)) (sx_ret (sxe_call (sa_cons (se_var 1) (sa_cons se_non sa_nil)))) sx_no)) (sx_seq2 (ss_if (st_test (se_op od_eq (se_var 0) se_int)) ss_any ss_next) (sx_either (sx_seq1 (sx_if (st_test (se_op od_eq (se_var 0) se_int)) (sx_ret (sxe_call (sa_cons (se_var 1) (sa_cons se_non sa_nil)))) sx_no)) (sx_seq2 (ss_if (st_test (se_op od_eq (se_var 0) se_int)) ss_any ss_next) (sx_either (sx_seq1 (sx_if (st_test (se_op od_eq (se_var 0) se_int)) (sx_ret (sxe_call (sa_cons (se_var 1) (sa_cons se_non sa_nil)))) sx_no)) (sx_seq2 (ss_if (st_test (se_op od_eq (se_var 0) se_int)) ss_any ss_next) (sx_either (sx_seq1 (sx_if (st_test (se_op od_eq (se_var 0) se_int)) (sx_ret (sxe_call (sa_cons (se_var 1) (sa_cons se_non sa_nil)))) sx_no)) (sx_seq2 (ss_if (st_test (se_op od_eq (se_var 0) se_int)) ss_any ss_next) (sx_ret (sxe_call (sa_cons (se_var 1) (sa_cons se_non sa_nil))))))))))))))⟩
theorem okXfoe_answer_BadGame {C : Addr} (F : Fun K "foe_answer" "foe_answer" sfoe_answer f fd) (B : Bt mg) (Ofound_or_clash : Own P w K mg base 1 "found_or_clash" ["found"] (spD K 1 Ffound_or_clash)) (OXsplit_BadGame : OwnX P w K mg base 7 "split" ["game", "asks", "guess"] (spX K 3 C Xsplit_BadGame)) : FnOk P w K mg base (CXF P w) 8 f fd ["game", "asks", "guess"] (spX K 3 C Xfoe_answer_BadGame) :=
  fun_okX F scfoe_answer rfl rfl fun cdv A outer s H E hr => have hu := hr.units
    ⟨_, (pss_cons (ps_set (i := 3) scfoe_answer.nd rfl (by first | exact Or.inl rfl | exact Or.inr rfl) (pe_own Ofound_or_clash hr (pa_cons (pe_ownX OXsplit_BadGame hr pass_flown (pa_cons (pv 0) (pa_cons (pv 1) (pa_cons (pv 2) pa_nil)))) pa_any))) pss_any), (sx_seq1 (sx_asg (sxe_arg (sxa_here (sxe_call (sa_cons (se_var 0) (sa_cons (se_var 1) (sa_cons (se_var 2) sa_nil))))))))⟩
theorem okXleast_guess_like_BadGame {C : Addr} (F : Fun K "least_guess_like" "least_guess_like" sleast_guess_like f fd) (B : Bt mg) (OXchecked_game_BadGame : OwnX P w K mg base 3 "checked_game" ["game"] (spX K 1 C Xchecked_game_BadGame)) : FnOk P w K mg base (CXF P w) 4 f fd ["game", "guess"] (spX K 2 C Xleast_guess_like_BadGame) :=
  fun_okX F scleast_guess_like rfl rfl fun cdv A outer s H E hr => have hu := hr.units
    ⟨_, (pss_cons (ps_expr (pe_ownX OXchecked_game_BadGame hr pass_flown (pa_cons (pv 0) pa_nil))) pss_any), (sx_seq1 (sx_drop (sxe_call (sa_cons (se_var 0) sa_nil))))⟩
theorem okX_law_by_code_BadGame {C : Addr} (F : Fun K "_law_by_code" "_law_by_code" s_law_by_code f fd) (B : Bt mg) (OXanswer_BadGame : OwnX P w K mg base 4 "answer" ["game", "hidden", "guess"] (spX K 3 C Xanswer_BadGame)) (OXsplit_BadGame : OwnX P w K mg base 7 "split" ["game", "asks", "guess"] (spX K 3 C Xsplit_BadGame)) (OXfoe_answer_BadGame : OwnX P w K mg base 8 "foe_answer" ["game", "asks", "guess"] (spX K 3 C Xfoe_answer_BadGame)) (OXplayed_BadGame : OwnX P w K mg base 5 "played" ["game", "hidden"] (spX K 2 C Xplayed_BadGame)) (OXleast_guess_like_BadGame : OwnX P w K mg base 4 "least_guess_like" ["game", "guess"] (spX K 2 C Xleast_guess_like_BadGame)) : FnOk P w K mg base (CXF P w) 9 f fd ["_law_way", "_law_game_here", "_law_good", "_law_bad"] (spX K 4 C X_law_by_code_BadGame) :=
  fun_okX F sc_law_by_code rfl rfl fun cdv A outer s H E hr => have hu := hr.units
    ⟨_, (pss_either (pss_cons (ps_if (pt_cmpR (kx_eqD K hu) (pv 0) pe_int (nomark _)) (pss_one (ps_ret (pe_ownX OXanswer_BadGame hr pass_flown (pa_cons (pv 1) (pa_cons (pv 3) (pa_cons (pv 2) pa_nil)))))) pss_any) pss_any) (pss_cons (ps_if (pt_cmpR (kx_eqD K hu) (pv 0) pe_int (nomark _)) pss_any pss_nil) (pss_either (pss_cons (ps_if (pt_cmpR (kx_eqD K hu) (pv 0) pe_int (nomark _)) (pss_one (ps_ret (pe_ownX OXanswer_BadGame hr pass_flown (pa_cons (pv 1) (pa_cons (pv 2) (pa_cons (pv 3) pa_nil)))))) pss_any) pss_any) (pss_cons (ps_if (pt_cmpR (kx_eqD K hu) (pv 0) pe_int (nomark _)) pss_any pss_nil) (pss_either (pss_cons (ps_if (pt_cmpR (kx_eqD K hu) (pv 0) pe_int (nomark _)) (pss_one (ps_ret (pe_ownX OXsplit_BadGame hr pass_flown (pa_cons (pv 1) (pa_cons (pe_lst pa_nil) (pa_cons (pv 3) pa_nil)))))) pss_any) pss_any) (pss_cons (ps_if (pt_cmpR (kx_eqD K hu) (pv 0) pe_int (nomark _)) pss_any pss_nil) (pss_either (pss_cons (ps_if (pt_cmpR (kx_eqD K hu) (pv 0) pe_int (nomark _)) (pss_one (ps_ret (pe_ownX OXfoe_answer_BadGame hr pass_flown (pa_cons (pv 1) (pa_cons (pe_lst pa_nil) (pa_cons (pv 3) pa_nil)))))) pss_any) pss_any) (pss_cons (ps_if (pt_cmpR (kx_eqD K hu) (pv 0) pe_int (nomark _)) pss_any pss_nil) (pss_either (pss_cons (ps_if (pt_cmpR (kx_eqD K hu) (pv 0) pe_int (nomark _)) (pss_one (ps_ret (pe_ownX OXplayed_BadGame hr pass_flown (pa_cons (pv 1) (pa_cons (pv 3) pa_nil))))) pss_any) pss_any) (pss_cons (ps_if (pt_cmpR (kx_eqD K hu) (pv 0) pe_int (nomark _)) pss_any pss_nil) (pss_one (ps_ret (pe_ownX OXleast_guess_like_BadGame hr pass_flown (pa_cons (pv 1) (pa_cons (pv 3) pa_nil))))))))))))))), (sx_either (sx_seq1 (sx_if (st_test (se_op od_eq (se_var 0) se_int)) (sx_ret (sxe_call (sa_cons (se_var 1) (sa_cons (se_var 3) (sa_cons (se_var 2) sa_nil))))) sx_no)) (sx_seq2 (ss_if (st_test (se_op od_eq (se_var 0) se_int)) ss_any ss_next) (sx_either (sx_seq1 (sx_if (st_test (se_op od_eq (se_var 0) se_int)) (sx_ret (sxe_call (sa_cons (se_var 1) (sa_cons (se_var 2) (sa_cons (se_var 3) sa_nil))))) sx_no)) (sx_seq2 (ss_if (st_test (se_op od_eq (se_var 0) se_int)) ss_any ss_next) (sx_either (sx_seq1 (sx_if (st_test (se_op od_eq (se_var 0) se_int)) (sx_ret (sxe_call (sa_cons (se_var 1) (sa_cons (se_own (so_lst sa_nil)) (sa_cons (se_var 3) sa_nil))))) sx_no)) (sx_seq2 (ss_if (st_test (se_op od_eq (se_var 0) se_int)) ss_any ss_next) (sx_either (sx_seq1 (sx_if (st_test (se_op od_eq (se_var 0) se_int)) (sx_ret (sxe_call (sa_cons (se_var 1) (sa_cons (se_own (so_lst sa_nil)) (sa_cons (se_var 3) sa_nil))))) sx_no)) (sx_seq2 (ss_if (st_test (se_op od_eq (se_var 0) se_int)) ss_any ss_next) (sx_either (sx_seq1 (sx_if (st_test (se_op od_eq (se_var 0) se_int)) (sx_ret (sxe_call (sa_cons (se_var 1) (sa_cons (se_var 3) sa_nil)))) sx_no)) (sx_seq2 (ss_if (st_test (se_op od_eq (se_var 0) se_int)) ss_any ss_next) (sx_ret (sxe_call (sa_cons (se_var 1) (sa_cons (se_var 3) sa_nil))))))))))))))⟩
theorem ok_law_told {D ABadGame ABadCode : Addr} (F : Fun K "_law_told" "_law_told" s_law_told f fd) (B : Bt mg) (OX_law_deed_BadCode : OwnX P w K mg base 8 "_law_deed" ["_law_way", "_law_bad"] (spX K 2 ABadCode X_law_deed_BadCode)) (OX_law_more_BadCode : OwnX P w K mg base 9 "_law_more" ["_law_way", "_law_bad"] (spX K 2 ABadCode X_law_more_BadCode)) (OX_law_by_code_BadCode : OwnX P w K mg base 9 "_law_by_code" ["_law_way", "_law_game_here", "_law_good", "_law_bad"] (spX K 4 ABadCode X_law_by_code_BadCode)) (OX_law_deed_BadGame : OwnX P w K mg base 8 "_law_deed" ["_law_way", "_law_bad"] (spX K 2 ABadGame X_law_deed_BadGame)) (OX_law_more_BadGame : OwnX P w K mg base 9 "_law_more" ["_law_way", "_law_bad"] (spX K 2 ABadGame X_law_more_BadGame)) (OX_law_by_code_BadGame : OwnX P w K mg base 9 "_law_by_code" ["_law_way", "_law_game_here", "_law_good", "_law_bad"] (spX K 4 ABadGame X_law_by_code_BadGame)) (gD_ : mg "GuessError" = some (.ref D)) (gy_BadGame : mg "BadGame" = some (.ref ABadGame)) (gy_BadCode : mg "BadCode" = some (.ref ABadCode)) (zV_ : mg "ValueError" = none) (hex_BadCode : PySem.W.exmOne K (.ref ABadCode) (.ref D) = some true) (xc_BadCode : ExcCls K ABadCode) (k_BadCode_BadGame : PySem.W.kitOne K (.ref ABadCode) (.ref ABadGame) = some false) (k_BadCode_BadCode : PySem.W.kitOne K (.ref ABadCode) (.ref ABadCode) = some true) (k_BadCode_ValueError : PySem.W.kitOne K (.ref ABadCode) (.type "ValueError") = some true) (hex_BadGame : PySem.W.exmOne K (.ref ABadGame) (.ref D) = some true) (xc_BadGame : ExcCls K ABadGame) (k_BadGame_BadGame : PySem.W.kitOne K (.ref ABadGame) (.ref ABadGame) = some true) (k_BadGame_BadCode : PySem.W.kitOne K (.ref ABadGame) (.ref ABadCode) = some false) (k_BadGame_ValueError : PySem.W.kitOne K (.ref ABadGame) (.type "ValueError") = some true) : FnOk P w K mg base CX0 10 f fd ["_law_sort", "_law_way", "_law_game_here", "_law_good", "_law_bad"] (spD K 5 F_law_told) := by
  refine F.ok sc_law_told (fun vs H Q E h => ?_) (fun cdv A outer s H vs Q E hr h => ?_)
  · obtain ⟨_, ds, d, _, hl, _⟩ := h
    exact hl
  · obtain ⟨F2, ds, d, sF, hl, ar, e, q⟩ := h
    have hu := hr.units
    unfold F_law_told at e
    split at e
    · rename_i c
      cases e
      exact ⟨_, pss_cons (ps_try (i := 5) rfl rfl rfl sc_law_told.nd rfl rfl gD_ rfl (fun pn E2 E hp => (pss_one (ps_if (pt_cmpR (kx_eqD K hu) (pv 0) pe_int (nomark _)) (pss_one (ps_expr (pe_ownX OX_law_deed_BadCode hr hp (pa_cons (pv 1) (pa_cons (pv 4) pa_nil))))) (pss_one (ps_if (pt_cmpR (kx_eqD K hu) (pv 0) pe_int (nomark _)) (pss_one (ps_expr (pe_ownX OX_law_more_BadCode hr hp (pa_cons (pv 1) (pa_cons (pv 4) pa_nil))))) (pss_one (ps_expr (pe_ownX OX_law_by_code_BadCode hr hp (pa_cons (pv 1) (pa_cons (pv 2) (pa_cons (pv 3) (pa_cons (pv 4) pa_nil)))))))))))) (fun ea pn => pss_one (ps_ret (pe_lst (pa_cons (pe_callB call_isiB (by rfl) B.isinstance boot_isi (pa_cons (pv 5) (pa_cons (pe_glob (v := .ref ABadGame) rfl gy_BadGame rfl) pa_nil))) (pa_cons (pe_callB call_isiB (by rfl) B.isinstance boot_isi (pa_cons (pv 5) (pa_cons (pe_glob (v := .ref ABadCode) rfl gy_BadCode rfl) pa_nil))) (pa_cons (pe_callB call_isiB (by rfl) B.isinstance boot_isi (pa_cons (pv 5) (pa_cons (pe_bltn (v := .ty "ValueError") rfl zV_ (by decide +kernel) rfl) pa_nil))) pa_nil))))))) pss_any, try_told3 (N := ["_law_sort", "_law_way", "_law_game_here", "_law_good", "_law_bad", "e"]) (fun E => (sx_if (st_test (se_op od_eq (se_var 0) se_int)) (sx_drop (sxe_call (sa_cons (se_var 1) (sa_cons (se_var 4) sa_nil)))) (sx_if (st_test (se_op od_eq (se_var 0) se_int)) (sx_drop (sxe_call (sa_cons (se_var 1) (sa_cons (se_var 4) sa_nil)))) (sx_drop (sxe_call (sa_cons (se_var 1) (sa_cons (se_var 2) (sa_cons (se_var 3) (sa_cons (se_var 4) sa_nil))))))))) hex_BadCode xc_BadCode (Ans.cls k_BadCode_BadGame) (Ans.cls k_BadCode_BadCode) (Ans.ty k_BadCode_ValueError) (by decide) sF ar c q⟩
    · rename_i c0
      split at e
      · rename_i c
        cases e
        exact ⟨_, pss_cons (ps_try (i := 5) rfl rfl rfl sc_law_told.nd rfl rfl gD_ rfl (fun pn E2 E hp => (pss_one (ps_if (pt_cmpR (kx_eqD K hu) (pv 0) pe_int (nomark _)) (pss_one (ps_expr (pe_ownX OX_law_deed_BadGame hr hp (pa_cons (pv 1) (pa_cons (pv 4) pa_nil))))) (pss_one (ps_if (pt_cmpR (kx_eqD K hu) (pv 0) pe_int (nomark _)) (pss_one (ps_expr (pe_ownX OX_law_more_BadGame hr hp (pa_cons (pv 1) (pa_cons (pv 4) pa_nil))))) (pss_one (ps_expr (pe_ownX OX_law_by_code_BadGame hr hp (pa_cons (pv 1) (pa_cons (pv 2) (pa_cons (pv 3) (pa_cons (pv 4) pa_nil)))))))))))) (fun ea pn => pss_one (ps_ret (pe_lst (pa_cons (pe_callB call_isiB (by rfl) B.isinstance boot_isi (pa_cons (pv 5) (pa_cons (pe_glob (v := .ref ABadGame) rfl gy_BadGame rfl) pa_nil))) (pa_cons (pe_callB call_isiB (by rfl) B.isinstance boot_isi (pa_cons (pv 5) (pa_cons (pe_glob (v := .ref ABadCode) rfl gy_BadCode rfl) pa_nil))) (pa_cons (pe_callB call_isiB (by rfl) B.isinstance boot_isi (pa_cons (pv 5) (pa_cons (pe_bltn (v := .ty "ValueError") rfl zV_ (by decide +kernel) rfl) pa_nil))) pa_nil))))))) pss_any, try_told3 (N := ["_law_sort", "_law_way", "_law_game_here", "_law_good", "_law_bad", "e"]) (fun E => (sx_if (st_test (se_op od_eq (se_var 0) se_int)) (sx_drop (sxe_call (sa_cons (se_var 1) (sa_cons (se_var 4) sa_nil)))) (sx_if (st_test (se_op od_eq (se_var 0) se_int)) (sx_drop (sxe_call (sa_cons (se_var 1) (sa_cons (se_var 4) sa_nil)))) (sx_drop (sxe_call (sa_cons (se_var 1) (sa_cons (se_var 2) (sa_cons (se_var 3) (sa_cons (se_var 4) sa_nil))))))))) hex_BadGame xc_BadGame (Ans.cls k_BadGame_BadGame) (Ans.cls k_BadGame_BadCode) (Ans.ty k_BadGame_ValueError) (by decide) sF ar c q⟩
      · cases e
theorem ok_law_code (F : Fun K "_law_code" "_law_code" s_law_code f fd) (B : Bt mg) (O_law_mix : Own P w K mg base 1 "_law_mix" ["_law_cell_here", "_law_prime", "_law_many"] (spD K 3 F_law_mix)) : FnOk P w K mg base CX0 2 f fd ["_law_game_here", "_law_cell_here"] (spD K 2 F_law_code) :=
  fun_okD F sc_law_code rfl rfl fun cdv A outer s H E hr => have hu := hr.units
    ⟨_, (pss_cons (ps_set (i := 2) sc_law_code.nd rfl (by first | exact Or.inl rfl | exact Or.inr rfl) (pe_lst pa_nil)) (pss_cons (ps_for PassesOwn.never rfl (pi_range1 rfl B.range (pa_cons (pe_ix (kx_ix K) (pv 0) pe_int (fun _ _ => rfl)) pa_nil)) (pg_name (i := 3) sc_law_code.nd rfl (by first | exact Or.inl rfl | exact Or.inr rfl)) (pss_one (ps_expr (pe_bm PySem.F.plainAttrs_list PySem.F.slot_list_append PySem.F.type_list_append mt_append (pv 2) (pa_cons (pe_own O_law_mix hr (pa_cons (pe_op (kx_add K) (pe_op (kx_add K) (pv 1) (pe_op op_mul (pe_op op_mul pe_int (pv 3)) (pv 3))) (pe_op op_mul pe_int (pv 3))) (pa_cons pe_int (pa_cons (pe_ix (kx_ix K) (pv 0) pe_int (fun _ _ => rfl)) pa_nil)))) pa_nil))))) (pss_one (ps_ret (pe_callTy (kx_tuple K) (by rfl) B.tuple PyProof.Rows.boot_tuple (pa_cons (pv 2) pa_nil)))))), (ss_seq (ss_setO 2 (so_lst sa_nil)) (ss_seq (ss_for (si_rng1 (sa_cons (se_op od_ix (se_var 0) se_int) sa_nil)) (sg_name 3) (ss_append 2 (se_call (sa_cons (se_op od_add (se_op od_add (se_var 1) (se_op od_mul (se_op od_mul se_int (se_var 3)) (se_var 3))) (se_op od_mul se_int (se_var 3))) (sa_cons se_int (sa_cons (se_op od_ix (se_var 0) se_int) sa_nil)))))) (ss_frz 2 (ss_ret (se_callB cd_tup (sa_cons (se_var 2) sa_nil))))))⟩
theorem oklaw (F : Fun K "law" "law" slaw f fd) (B : Bt mg) (O_law_game : Own P w K mg base 2 "_law_game" ["_law_script", "_law_at"] (spD K 2 F_law_game)) (O_law_code : Own P w K mg base 2 "_law_code" ["_law_game_here", "_law_cell_here"] (spD K 2 F_law_code)) (O_law_cell : Own P w K mg base 1 "_law_cell" ["_law_script", "_law_k"] (spD K 2 F_law_cell)) (Ochecked_game : Own P w K mg base 3 "checked_game" ["game"] (spD K 1 Fchecked_game)) (Oall_codes : Own P w K mg base 4 "all_codes" ["game"] (spD K 1 Fall_codes)) (O_law_codes : Own P w K mg base 1 "_law_codes" ["_law_game_here"] (spD K 1 F_law_codes)) (O_law_told : Own P w K mg base 10 "_law_told" ["_law_sort", "_law_way", "_law_game_here", "_law_good", "_law_bad"] (spD K 5 F_law_told)) : FnOk P w K mg base CX0 11 f fd ["_law_script"] (spD K 1 Flaw) :=
  fun_okD F sclaw rfl rfl fun cdv A outer s H E hr => have hu := hr.units
    ⟨_, (pss_cons (ps_set (i := 1) sclaw.nd rfl (by first | exact Or.inl rfl | exact Or.inr rfl) (pe_own O_law_game hr (pa_cons (pv 0) (pa_cons pe_int pa_nil)))) (pss_cons (ps_if (PW.pt (pw_or (pt_cmpR (kx_neD K hu) (pe_own Ochecked_game hr (pa_cons (pv 1) pa_nil)) (pv 1) (nomark _)) (pw_or1 (pt_cmpR (kx_neD K hu) (pe_own Oall_codes hr (pa_cons (pv 1) pa_nil)) (pe_own O_law_codes hr (pa_cons (pv 1) pa_nil)) (nomark _))))) (pss_one (ps_ret pe_bl)) pss_nil) (@pss_lits _ _ _ _ _ (@ps_lits _ 2 _ _ _ _ _ [.none, .tuple [.int 0, .int 3], .tuple [.int 3, .int 0], .tuple [.int 6, .int 2], .tuple [.int 2, .int 9], .tuple [.int 4, .int 5], .tuple [.int 5, .int 4], .list [.int 2, .int 3], .tuple [.int 2], .tuple [.int 2, .int 3, .int 4], .tuple [.bool true, .int 3], .tuple [.int 3, .str (PySem.Str.ofString "2")], .str (PySem.Str.ofString "23"), .int 23] sclaw.nd rfl (by first | exact Or.inl rfl | exact Or.inr rfl) (by rfl) (by rfl) (Or.inl rfl)) (pss_cons (ps_set (i := 3) sclaw.nd rfl (by first | exact Or.inl rfl | exact Or.inr rfl) (pe_ix (kx_ix K) (pv 2) (pe_op op_mod (pe_own O_law_cell hr (pa_cons (pv 0) (pa_cons pe_int pa_nil))) pe_int) (fun _ _ => rfl))) (pss_cons (ps_for PassesOwn.never rfl (kx_seq K (pe_lst (pa_cons (pe_tup (pa_cons pe_int (pa_cons pe_int pa_nil))) (pa_cons (pe_tup (pa_cons pe_int (pa_cons pe_int pa_nil))) pa_nil)))) (kx_pair K (pgs_cons (pg_name (i := 4) sclaw.nd rfl (by first | exact Or.inl rfl | exact Or.inr rfl)) (pgs_cons (pg_name (i := 5) sclaw.nd rfl (by first | exact Or.inl rfl | exact Or.inr rfl)) pgs_nil))) (pss_one (ps_if (kx_tru K (pe_compC ["_law_way"] [("_law_sort", 4), ("_law_game_here", 1), ("_law_bad", 3)] (pi_range1 rfl B.range (pa_cons (pv 5) pa_nil)) (fun _ _ _ _ => (pg_name (i := 0) (show List.Nodup (["_law_way", "_law_sort", "_law_game_here", "_law_bad"] : List Str) by decide +kernel) rfl (by first | exact Or.inl rfl | exact Or.inr rfl))) (fun _ _ _ _ => (pts_one (pt_cmpR (kx_neD K hu) (pe_own O_law_told hr (pa_cons (pv 1) (pa_cons (pv 0) (pa_cons (pv 2) (pa_cons pe_non (pa_cons (pv 3) pa_nil)))))) (pe_lst (pa_cons pe_bl (pa_cons pe_bl (pa_cons pe_bl pa_nil)))) (nomark _)))) (fun _ _ _ _ => (pv 0)))) (pss_one (ps_ret pe_bl)) pss_nil))) (pss_cons (ps_set (i := 6) sclaw.nd rfl (by first | exact Or.inl rfl | exact Or.inr rfl) (pe_own O_law_code hr (pa_cons (pv 1) (pa_cons (pe_own O_law_cell hr (pa_cons (pv 0) (pa_cons pe_int pa_nil))) pa_nil)))) (pss_cons (ps_set (i := 7) sclaw.nd rfl (by first | exact Or.inl rfl | exact Or.inr rfl) (pe_lst (pa_cons pe_non (pa_cons (pe_callTy (kx_list K) (by rfl) B.list PyProof.Rows.boot_list (pa_cons (pv 6) pa_nil)) (pa_cons (pe_op (kx_add K) (pv 6) (pe_tup (pa_cons pe_int pa_nil))) (pa_cons (pe_slice (kx_slA K) (pv 6) (po_some pe_int) po_none) (pa_cons (pe_op (kx_add K) (pe_slice (kx_slA K) (pv 6) (po_some pe_int) po_none) (pe_tup (pa_cons (pe_ix (kx_ix K) (pv 1) pe_int (fun _ _ => rfl)) pa_nil))) (pa_cons (pe_op (kx_add K) (pe_slice (kx_slA K) (pv 6) (po_some pe_int) po_none) (pe_tup (pa_cons (pe_un un_neg pe_int) pa_nil))) (pa_cons (pe_op (kx_add K) (pe_slice (kx_slA K) (pv 6) (po_some pe_int) po_none) (pe_tup (pa_cons pe_bl pa_nil))) pa_nil))))))))) (pss_cons (ps_set (i := 7) sclaw.nd rfl (by first | exact Or.inl rfl | exact Or.inr rfl) (pe_op (kx_add K) (pv 7) (pe_lst (pa_cons (pe_op (kx_add K) (pe_slice (kx_slA K) (pv 6) (po_some pe_int) po_none) (pe_tup (pa_cons pe_str pa_nil))) (pa_cons (pe_op op_mulS pe_str (pe_ix (kx_ix K) (pv 1) pe_int (fun _ _ => rfl))) (pa_cons (pe_op (kx_add K) (pe_slice (kx_slA K) (pv 6) (po_some pe_int) po_none) (pe_tup (pa_cons pe_non pa_nil))) pa_nil)))))) (pss_cons (ps_set (i := 3) sclaw.nd rfl (by first | exact Or.inl rfl | exact Or.inr rfl) (pe_ix (kx_ix K) (pv 7) (pe_op op_mod (pe_own O_law_cell hr (pa_cons (pv 0) (pa_cons pe_int pa_nil))) pe_int) (fun _ _ => rfl))) (pss_one (ps_ret (pe_cmpR (kx_eqD K hu) (pe_compC ["_law_way"] [("_law_game_here", 1), ("_law_good", 6), ("_law_bad", 3)] (pi_range1 rfl B.range (pa_cons pe_int pa_nil)) (fun _ _ _ _ => (pg_name (i := 0) (show List.Nodup (["_law_way", "_law_game_here", "_law_good", "_law_bad"] : List Str) by decide +kernel) rfl (by first | exact Or.inl rfl | exact Or.inr rfl))) (fun _ _ _ _ => (pts_one (pt_cmpR (kx_neD K hu) (pe_own O_law_told hr (pa_cons pe_int (pa_cons (pv 0) (pa_cons (pv 1) (pa_cons (pv 2) (pa_cons (pv 3) pa_nil)))))) (pe_lst (pa_cons pe_bl (pa_cons pe_bl (pa_cons pe_bl pa_nil)))) (nomark _)))) (fun _ _ _ _ => (pv 0))) (pe_lst pa_nil) (nomark _))))))))))))), (ss_seq (ss_set 1 (se_call (sa_cons (se_var 0) (sa_cons se_int sa_nil)))) (ss_seq (ss_if (st_or (st_test (se_op od_ne (se_call (sa_cons (se_var 1) sa_nil)) (se_var 1))) (st_test (se_op od_ne (se_call (sa_cons (se_var 1) sa_nil)) (se_call (sa_cons (se_var 1) sa_nil))))) (ss_ret se_bl) ss_next) (ss_seq (ss_set 2 (se_own (so_lst (@sa_lits _ [.none, .tuple [.int 0, .int 3], .tuple [.int 3, .int 0], .tuple [.int 6, .int 2], .tuple [.int 2, .int 9], .tuple [.int 4, .int 5], .tuple [.int 5, .int 4], .list [.int 2, .int 3], .tuple [.int 2], .tuple [.int 2, .int 3, .int 4], .tuple [.bool true, .int 3], .tuple [.int 3, .str (PySem.Str.ofString "2")], .str (PySem.Str.ofString "23"), .int 23] (by rfl))))) (ss_seq (ss_set 3 (se_op od_ix (se_var 2) (se_op od_mod (se_call (sa_cons (se_var 0) (sa_cons se_int sa_nil))) se_int))) (ss_seq (ss_for (si_seq (se_own (so_lst (sa_cons (se_tup (sa_cons se_int (sa_cons se_int sa_nil))) (sa_cons (se_tup (sa_cons se_int (sa_cons se_int sa_nil))) sa_nil))))) (sg_tup (sgs_cons (sg_name 4) (sgs_cons (sg_name 5) sgs_nil))) (ss_if (st_tru (se_own (so_comp (si_rng1 (sa_cons (se_var 5) sa_nil)) (sg_name 0) low_name (st_test (se_op od_ne (se_call (sa_cons (se_var 1) (sa_cons (se_var 0) (sa_cons (se_var 2) (sa_cons se_non (sa_cons (se_var 3) sa_nil)))))) (se_own (so_lst (sa_cons se_bl (sa_cons se_bl (sa_cons se_bl sa_nil))))))) (se_var 0)))) (ss_ret se_bl) ss_next)) (ss_seq (ss_set 6 (se_call (sa_cons (se_var 1) (sa_cons (se_call (sa_cons (se_var 0) (sa_cons se_int sa_nil))) sa_nil)))) (ss_seq (ss_set 7 (se_own (so_lst (sa_cons se_non (sa_cons (se_own (so_listOf (sa_cons (se_var 6) sa_nil))) (sa_cons (se_op od_add (se_var 6) (se_tup (sa_cons se_int sa_nil))) (sa_cons (se_sl (se_var 6) (so_part se_int) so_none) (sa_cons (se_op od_add (se_sl (se_var 6) (so_part se_int) so_none) (se_tup (sa_cons (se_op od_ix (se_var 1) se_int) sa_nil))) (sa_cons (se_op od_add (se_sl (se_var 6) (so_part se_int) so_none) (se_tup (sa_cons (se_neg se_int) sa_nil))) (sa_cons (se_op od_add (se_sl (se_var 6) (so_part se_int) so_none) (se_tup (sa_cons se_bl sa_nil))) sa_nil)))))))))) (ss_seq (ss_set 7 (se_op od_add (se_var 7) (se_own (so_lst (sa_cons (se_op od_add (se_sl (se_var 6) (so_part se_int) so_none) (se_tup (sa_cons se_str sa_nil))) (sa_cons (se_op od_mulS se_str (se_op od_ix (se_var 1) se_int)) (sa_cons (se_op od_add (se_sl (se_var 6) (so_part se_int) so_none) (se_tup (sa_cons se_non sa_nil))) sa_nil))))))) (ss_seq (ss_set 3 (se_op od_ix (se_var 7) (se_op od_mod (se_call (sa_cons (se_var 0) (sa_cons se_int sa_nil))) se_int))) (ss_ret (se_op od_eq (se_own (so_comp (si_rng1 (sa_cons se_int sa_nil)) (sg_name 0) low_name (st_test (se_op od_ne (se_call (sa_cons se_int (sa_cons (se_var 0) (sa_cons (se_var 1) (sa_cons (se_var 2) (sa_cons (se_var 3) sa_nil)))))) (se_own (so_lst (sa_cons se_bl (sa_cons se_bl (sa_cons se_bl sa_nil))))))) (se_var 0))) (se_own (so_lst sa_nil)))))))))))))⟩
end
end GX

namespace GX
open PySem L2 DL
theorem all_mk {l : PySem.W.OpenLaw} {w : World} {K : PySem.W.Frag} {h : Heap} {mg : Str → Option Value} {fa : Addr} (X : K.In h) (G : h.Ns mainGlobals mg) (hfa : mg "law" = some (.ref fa))
    {od0 an0 : Option Addr} {sl0 : Array (Option Value)} {oc0 kV0 dc0 pm0 cd0 ct0 : Value} {f0 : Addr} {od1 an1 : Option Addr} {sl1 : Array (Option Value)} {oc1 kV1 dc1 pm1 cd1 ct1 : Value} {f1 : Addr} {od2 an2 : Option Addr} {sl2 : Array (Option Value)} {oc2 kV2 dc2 pm2 cd2 ct2 : Value} {f2 : Addr} {od3 an3 : Option Addr} {sl3 : Array (Option Value)} {oc3 kV3 dc3 pm3 cd3 ct3 : Value} {f3 : Addr} {od4 an4 : Option Addr} {sl4 : Array (Option Value)} {oc4 kV4 dc4 pm4 cd4 ct4 : Value} {f4 : Addr} {od5 an5 : Option Addr} {sl5 : Array (Option Value)} {oc5 kV5 dc5 pm5 cd5 ct5 : Value} {f5 : Addr} {od6 an6 : Option Addr} {sl6 : Array (Option Value)} {oc6 kV6 dc6 pm6 cd6 ct6 : Value} {f6 : Addr} {od7 an7 : Option Addr} {sl7 : Array (Option Value)} {oc7 kV7 dc7 pm7 cd7 ct7 : Value} {f7 : Addr} {od8 an8 : Option Addr} {sl8 : Array (Option Value)} {oc8 kV8 dc8 pm8 cd8 ct8 : Value} {f8 : Addr} {od9 an9 : Option Addr} {sl9 : Array (Option Value)} {oc9 kV9 dc9 pm9 cd9 ct9 : Value} {f9 : Addr} {od10 an10 : Option Addr} {sl10 : Array (Option Value)} {oc10 kV10 dc10 pm10 cd10 ct10 : Value} {f10 : Addr} {od11 an11 : Option Addr} {sl11 : Array (Option Value)} {oc11 kV11 dc11 pm11 cd11 ct11 : Value} {f11 : Addr} {od12 an12 : Option Addr} {sl12 : Array (Option Value)} {oc12 kV12 dc12 pm12 cd12 ct12 : Value} {f12 : Addr} {od13 an13 : Option Addr} {sl13 : Array (Option Value)} {oc13 kV13 dc13 pm13 cd13 ct13 : Value} {f13 : Addr} {od14 an14 : Option Addr} {sl14 : Array (Option Value)} {oc14 kV14 dc14 pm14 cd14 ct14 : Value} {f14 : Addr} {od15 an15 : Option Addr} {sl15 : Array (Option Value)} {oc15 kV15 dc15 pm15 cd15 ct15 : Value} {f15 : Addr} {od16 an16 : Option Addr} {sl16 : Array (Option Value)} {oc16 kV16 dc16 pm16 cd16 ct16 : Value} {f16 : Addr} {od17 an17 : Option Addr} {sl17 : Array (Option Value)} {oc17 kV17 dc17 pm17 cd17 ct17 : Value} {f17 : Addr} {od18 an18 : Option Addr} {sl18 : Array (Option Value)} {oc18 kV18 dc18 pm18 cd18 ct18 : Value} {f18 : Addr} {od19 an19 : Option Addr} {sl19 : Array (Option Value)} {oc19 kV19 dc19 pm19 cd19 ct19 : Value} {f19 : Addr} {od20 an20 : Option Addr} {sl20 : Array (Option Value)} {oc20 kV20 dc20 pm20 cd20 ct20 : Value} {f20 : Addr} {od21 an21 : Option Addr} {sl21 : Array (Option Value)} {oc21 kV21 dc21 pm21 cd21 ct21 : Value} {f21 : Addr} {od22 an22 : Option Addr} {sl22 : Array (Option Value)} {oc22 kV22 dc22 pm22 cd22 ct22 : Value} {f22 : Addr} {od23 an23 : Option Addr} {sl23 : Array (Option Value)} {oc23 kV23 dc23 pm23 cd23 ct23 : Value} {f23 : Addr} {od24 an24 : Option Addr} {sl24 : Array (Option Value)} {oc24 kV24 dc24 pm24 cd24 ct24 : Value} {f24 : Addr} {od25 an25 : Option Addr} {sl25 : Array (Option Value)} {oc25 kV25 dc25 pm25 cd25 ct25 : Value} {f25 : Addr} {od26 an26 : Option Addr} {sl26 : Array (Option Value)} {oc26 kV26 dc26 pm26 cd26 ct26 : Value} {f26 : Addr} {od27 an27 : Option Addr} {sl27 : Array (Option Value)} {oc27 kV27 dc27 pm27 cd27 ct27 : Value} {f27 : Addr} {od28 an28 : Option Addr} {sl28 : Array (Option Value)} {oc28 kV28 dc28 pm28 cd28 ct28 : Value} {f28 : Addr} {od29 an29 : Option Addr} {sl29 : Array (Option Value)} {oc29 kV29 dc29 pm29 cd29 ct29 : Value} {f29 : Addr} {od30 an30 : Option Addr} {sl30 : Array (Option Value)} {oc30 kV30 dc30 pm30 cd30 ct30 : Value} {f30 : Addr} {od31 an31 : Option Addr} {sl31 : Array (Option Value)} {oc31 kV31 dc31 pm31 cd31 ct31 : Value} {f31 : Addr} {od32 an32 : Option Addr} {sl32 : Array (Option Value)} {oc32 kV32 dc32 pm32 cd32 ct32 : Value} {f32 : Addr} {od33 an33 : Option Addr} {sl33 : Array (Option Value)} {oc33 kV33 dc33 pm33 cd33 ct33 : Value} {f33 : Addr} {od34 an34 : Option Addr} {sl34 : Array (Option Value)} {oc34 kV34 dc34 pm34 cd34 ct34 : Value} {f34 : Addr} {od35 an35 : Option Addr} {sl35 : Array (Option Value)} {oc35 kV35 dc35 pm35 cd35 ct35 : Value} {f35 : Addr} {od36 an36 : Option Addr} {sl36 : Array (Option Value)} {oc36 kV36 dc36 pm36 cd36 ct36 : Value} {f36 : Addr} {od37 an37 : Option Addr} {sl37 : Array (Option Value)} {oc37 kV37 dc37 pm37 cd37 ct37 : Value} {f37 : Addr} {od38 an38 : Option Addr} {sl38 : Array (Option Value)} {oc38 kV38 dc38 pm38 cd38 ct38 : Value} {f38 : Addr} {od39 an39 : Option Addr} {sl39 : Array (Option Value)} {oc39 kV39 dc39 pm39 cd39 ct39 : Value} {f39 : Addr} {od40 an40 : Option Addr} {sl40 : Array (Option Value)} {oc40 kV40 dc40 pm40 cd40 ct40 : Value} {f40 : Addr} {od41 an41 : Option Addr} {sl41 : Array (Option Value)} {oc41 kV41 dc41 pm41 cd41 ct41 : Value} {f41 : Addr} {CGuessError : Addr} {CBadGame : Addr} {CBadCode : Addr}
    (a0 : PySem.W.nsIn K mainGlobals "_law_mix" = some (some (.ref f0))) (l0 : K.lookup f0 = some ⟨oc0, od0, .func (PySem.W.fnOf "_law_mix" "_law_mix" (defArgs s_law_mix) (defBody s_law_mix) (defScope s_law_mix) .none kV0 dc0 pm0 an0 cd0 ct0), sl0⟩) (c0 : PySem.W.codeIn K cd0 "_law_mix" = true) (k0 : PySem.W.keepIn K (.ref f0) = true)
    (a1 : PySem.W.nsIn K mainGlobals "_law_cell" = some (some (.ref f1))) (l1 : K.lookup f1 = some ⟨oc1, od1, .func (PySem.W.fnOf "_law_cell" "_law_cell" (defArgs s_law_cell) (defBody s_law_cell) (defScope s_law_cell) .none kV1 dc1 pm1 an1 cd1 ct1), sl1⟩) (c1 : PySem.W.codeIn K cd1 "_law_cell" = true) (k1 : PySem.W.keepIn K (.ref f1) = true)
    (a2 : PySem.W.nsIn K mainGlobals "_law_game" = some (some (.ref f2))) (l2 : K.lookup f2 = some ⟨oc2, od2, .func (PySem.W.fnOf "_law_game" "_law_game" (defArgs s_law_game) (defBody s_law_game) (defScope s_law_game) .none kV2 dc2 pm2 an2 cd2 ct2), sl2⟩) (c2 : PySem.W.codeIn K cd2 "_law_game" = true) (k2 : PySem.W.keepIn K (.ref f2) = true)
    (a3 : PySem.W.nsIn K mainGlobals "is_pair" = some (some (.ref f3))) (l3 : K.lookup f3 = some ⟨oc3, od3, .func (PySem.W.fnOf "is_pair" "is_pair" (defArgs sis_pair) (defBody sis_pair) (defScope sis_pair) .none kV3 dc3 pm3 an3 cd3 ct3), sl3⟩) (c3 : PySem.W.codeIn K cd3 "is_pair" = true) (k3 : PySem.W.keepIn K (.ref f3) = true)
    (a4 : PySem.W.nsIn K mainGlobals "is_number_within" = some (some (.ref f4))) (l4 : K.lookup f4 = some ⟨oc4, od4, .func (PySem.W.fnOf "is_number_within" "is_number_within" (defArgs sis_number_within) (defBody sis_number_within) (defScope sis_number_within) .none kV4 dc4 pm4 an4 cd4 ct4), sl4⟩) (c4 : PySem.W.codeIn K cd4 "is_number_within" = true) (k4 : PySem.W.keepIn K (.ref f4) = true)
    (a5 : PySem.W.nsIn K mainGlobals "how_many_codes" = some (some (.ref f5))) (l5 : K.lookup f5 = some ⟨oc5, od5, .func (PySem.W.fnOf "how_many_codes" "how_many_codes" (defArgs show_many_codes) (defBody show_many_codes) (defScope show_many_codes) .none kV5 dc5 pm5 an5 cd5 ct5), sl5⟩) (c5 : PySem.W.codeIn K cd5 "how_many_codes" = true) (k5 : PySem.W.keepIn K (.ref f5) = true)
    (a6 : PySem.W.nsIn K mainGlobals "is_game" = some (some (.ref f6))) (l6 : K.lookup f6 = some ⟨oc6, od6, .func (PySem.W.fnOf "is_game" "is_game" (defArgs sis_game) (defBody sis_game) (defScope sis_game) .none kV6 dc6 pm6 an6 cd6 ct6), sl6⟩) (c6 : PySem.W.codeIn K cd6 "is_game" = true) (k6 : PySem.W.keepIn K (.ref f6) = true)
    (a7 : PySem.W.nsIn K mainGlobals "checked_game" = some (some (.ref f7))) (l7 : K.lookup f7 = some ⟨oc7, od7, .func (PySem.W.fnOf "checked_game" "checked_game" (defArgs schecked_game) (defBody schecked_game) (defScope schecked_game) .none kV7 dc7 pm7 an7 cd7 ct7), sl7⟩) (c7 : PySem.W.codeIn K cd7 "checked_game" = true) (k7 : PySem.W.keepIn K (.ref f7) = true)
    (a8 : PySem.W.nsIn K mainGlobals "all_codes" = some (some (.ref f8))) (l8 : K.lookup f8 = some ⟨oc8, od8, .func (PySem.W.fnOf "all_codes" "all_codes" (defArgs sall_codes) (defBody sall_codes) (defScope sall_codes) .none kV8 dc8 pm8 an8 cd8 ct8), sl8⟩) (c8 : PySem.W.codeIn K cd8 "all_codes" = true) (k8 : PySem.W.keepIn K (.ref f8) = true)
    (a9 : PySem.W.nsIn K mainGlobals "_law_codes" = some (some (.ref f9))) (l9 : K.lookup f9 = some ⟨oc9, od9, .func (PySem.W.fnOf "_law_codes" "_law_codes" (defArgs s_law_codes) (defBody s_law_codes) (defScope s_law_codes) .none kV9 dc9 pm9 an9 cd9 ct9), sl9⟩) (c9 : PySem.W.codeIn K cd9 "_law_codes" = true) (k9 : PySem.W.keepIn K (.ref f9) = true)
    (a10 : PySem.W.nsIn K mainGlobals "answer_of" = some (some (.ref f10))) (l10 : K.lookup f10 = some ⟨oc10, od10, .func (PySem.W.fnOf "answer_of" "answer_of" (defArgs sanswer_of) (defBody sanswer_of) (defScope sanswer_of) .none kV10 dc10 pm10 an10 cd10 ct10), sl10⟩) (c10 : PySem.W.codeIn K cd10 "answer_of" = true) (k10 : PySem.W.keepIn K (.ref f10) = true)
    (a11 : PySem.W.nsIn K mainGlobals "is_code" = some (some (.ref f11))) (l11 : K.lookup f11 = some ⟨oc11, od11, .func (PySem.W.fnOf "is_code" "is_code" (defArgs sis_code) (defBody sis_code) (defScope sis_code) .none kV11 dc11 pm11 an11 cd11 ct11), sl11⟩) (c11 : PySem.W.codeIn K cd11 "is_code" = true) (k11 : PySem.W.keepIn K (.ref f11) = true)
    (a12 : PySem.W.nsIn K mainGlobals "checked_code" = some (some (.ref f12))) (l12 : K.lookup f12 = some ⟨oc12, od12, .func (PySem.W.fnOf "checked_code" "checked_code" (defArgs schecked_code) (defBody schecked_code) (defScope schecked_code) .none kV12 dc12 pm12 an12 cd12 ct12), sl12⟩) (c12 : PySem.W.codeIn K cd12 "checked_code" = true) (k12 : PySem.W.keepIn K (.ref f12) = true)
    (a13 : PySem.W.nsIn K mainGlobals "answer" = some (some (.ref f13))) (l13 : K.lookup f13 = some ⟨oc13, od13, .func (PySem.W.fnOf "answer" "answer" (defArgs sanswer) (defBody sanswer) (defScope sanswer) .none kV13 dc13 pm13 an13 cd13 ct13), sl13⟩) (c13 : PySem.W.codeIn K cd13 "answer" = true) (k13 : PySem.W.keepIn K (.ref f13) = true)
    (a14 : PySem.W.nsIn K mainGlobals "_law_deed" = some (some (.ref f14))) (l14 : K.lookup f14 = some ⟨oc14, od14, .func (PySem.W.fnOf "_law_deed" "_law_deed" (defArgs s_law_deed) (defBody s_law_deed) (defScope s_law_deed) .none kV14 dc14 pm14 an14 cd14 ct14), sl14⟩) (c14 : PySem.W.codeIn K cd14 "_law_deed" = true) (k14 : PySem.W.keepIn K (.ref f14) = true)
    (a15 : PySem.W.nsIn K mainGlobals "is_answer" = some (some (.ref f15))) (l15 : K.lookup f15 = some ⟨oc15, od15, .func (PySem.W.fnOf "is_answer" "is_answer" (defArgs sis_answer) (defBody sis_answer) (defScope sis_answer) .none kV15 dc15 pm15 an15 cd15 ct15), sl15⟩) (c15 : PySem.W.codeIn K cd15 "is_answer" = true) (k15 : PySem.W.keepIn K (.ref f15) = true)
    (a16 : PySem.W.nsIn K mainGlobals "is_ask" = some (some (.ref f16))) (l16 : K.lookup f16 = some ⟨oc16, od16, .func (PySem.W.fnOf "is_ask" "is_ask" (defArgs sis_ask) (defBody sis_ask) (defScope sis_ask) .none kV16 dc16 pm16 an16 cd16 ct16), sl16⟩) (c16 : PySem.W.codeIn K cd16 "is_ask" = true) (k16 : PySem.W.keepIn K (.ref f16) = true)
    (a17 : PySem.W.nsIn K mainGlobals "checked_list" = some (some (.ref f17))) (l17 : K.lookup f17 = some ⟨oc17, od17, .func (PySem.W.fnOf "checked_list" "checked_list" (defArgs schecked_list) (defBody schecked_list) (defScope schecked_list) .none kV17 dc17 pm17 an17 cd17 ct17), sl17⟩) (c17 : PySem.W.codeIn K cd17 "checked_list" = true) (k17 : PySem.W.keepIn K (.ref f17) = true)
    (a18 : PySem.W.nsIn K mainGlobals "checked_asks" = some (some (.ref f18))) (l18 : K.lookup f18 = some ⟨oc18, od18, .func (PySem.W.fnOf "checked_asks" "checked_asks" (defArgs schecked_asks) (defBody schecked_asks) (defScope schecked_asks) .none kV18 dc18 pm18 an18 cd18 ct18), sl18⟩) (c18 : PySem.W.codeIn K cd18 "checked_asks" = true) (k18 : PySem.W.keepIn K (.ref f18) = true)
    (a19 : PySem.W.nsIn K mainGlobals "fits_ask" = some (some (.ref f19))) (l19 : K.lookup f19 = some ⟨oc19, od19, .func (PySem.W.fnOf "fits_ask" "fits_ask" (defArgs sfits_ask) (defBody sfits_ask) (defScope sfits_ask) .none kV19 dc19 pm19 an19 cd19 ct19), sl19⟩) (c19 : PySem.W.codeIn K cd19 "fits_ask" = true) (k19 : PySem.W.keepIn K (.ref f19) = true)
    (a20 : PySem.W.nsIn K mainGlobals "those_that_fit" = some (some (.ref f20))) (l20 : K.lookup f20 = some ⟨oc20, od20, .func (PySem.W.fnOf "those_that_fit" "those_that_fit" (defArgs sthose_that_fit) (defBody sthose_that_fit) (defScope sthose_that_fit) .none kV20 dc20 pm20 an20 cd20 ct20), sl20⟩) (c20 : PySem.W.codeIn K cd20 "those_that_fit" = true) (k20 : PySem.W.keepIn K (.ref f20) = true)
    (a21 : PySem.W.nsIn K mainGlobals "what_fits" = some (some (.ref f21))) (l21 : K.lookup f21 = some ⟨oc21, od21, .func (PySem.W.fnOf "what_fits" "what_fits" (defArgs swhat_fits) (defBody swhat_fits) (defScope swhat_fits) .none kV21 dc21 pm21 an21 cd21 ct21), sl21⟩) (c21 : PySem.W.codeIn K cd21 "what_fits" = true) (k21 : PySem.W.keepIn K (.ref f21) = true)
    (a22 : PySem.W.nsIn K mainGlobals "split" = some (some (.ref f22))) (l22 : K.lookup f22 = some ⟨oc22, od22, .func (PySem.W.fnOf "split" "split" (defArgs ssplit) (defBody ssplit) (defScope ssplit) .none kV22 dc22 pm22 an22 cd22 ct22), sl22⟩) (c22 : PySem.W.codeIn K cd22 "split" = true) (k22 : PySem.W.keepIn K (.ref f22) = true)
    (a23 : PySem.W.nsIn K mainGlobals "played" = some (some (.ref f23))) (l23 : K.lookup f23 = some ⟨oc23, od23, .func (PySem.W.fnOf "played" "played" (defArgs splayed) (defBody splayed) (defScope splayed) .none kV23 dc23 pm23 an23 cd23 ct23), sl23⟩) (c23 : PySem.W.codeIn K cd23 "played" = true) (k23 : PySem.W.keepIn K (.ref f23) = true)
    (a24 : PySem.W.nsIn K mainGlobals "_law_more" = some (some (.ref f24))) (l24 : K.lookup f24 = some ⟨oc24, od24, .func (PySem.W.fnOf "_law_more" "_law_more" (defArgs s_law_more) (defBody s_law_more) (defScope s_law_more) .none kV24 dc24 pm24 an24 cd24 ct24), sl24⟩) (c24 : PySem.W.codeIn K cd24 "_law_more" = true) (k24 : PySem.W.keepIn K (.ref f24) = true)
    (a25 : PySem.W.nsIn K mainGlobals "found_or_clash" = some (some (.ref f25))) (l25 : K.lookup f25 = some ⟨oc25, od25, .func (PySem.W.fnOf "found_or_clash" "found_or_clash" (defArgs sfound_or_clash) (defBody sfound_or_clash) (defScope sfound_or_clash) .none kV25 dc25 pm25 an25 cd25 ct25), sl25⟩) (c25 : PySem.W.codeIn K cd25 "found_or_clash" = true) (k25 : PySem.W.keepIn K (.ref f25) = true)
    (a26 : PySem.W.nsIn K mainGlobals "foe_answer" = some (some (.ref f26))) (l26 : K.lookup f26 = some ⟨oc26, od26, .func (PySem.W.fnOf "foe_answer" "foe_answer" (defArgs sfoe_answer) (defBody sfoe_answer) (defScope sfoe_answer) .none kV26 dc26 pm26 an26 cd26 ct26), sl26⟩) (c26 : PySem.W.codeIn K cd26 "foe_answer" = true) (k26 : PySem.W.keepIn K (.ref f26) = true)
    (a27 : PySem.W.nsIn K mainGlobals "least_guess_like" = some (some (.ref f27))) (l27 : K.lookup f27 = some ⟨oc27, od27, .func (PySem.W.fnOf "least_guess_like" "least_guess_like" (defArgs sleast_guess_like) (defBody sleast_guess_like) (defScope sleast_guess_like) .none kV27 dc27 pm27 an27 cd27 ct27), sl27⟩) (c27 : PySem.W.codeIn K cd27 "least_guess_like" = true) (k27 : PySem.W.keepIn K (.ref f27) = true)
    (a28 : PySem.W.nsIn K mainGlobals "_law_by_code" = some (some (.ref f28))) (l28 : K.lookup f28 = some ⟨oc28, od28, .func (PySem.W.fnOf "_law_by_code" "_law_by_code" (defArgs s_law_by_code) (defBody s_law_by_code) (defScope s_law_by_code) .none kV28 dc28 pm28 an28 cd28 ct28), sl28⟩) (c28 : PySem.W.codeIn K cd28 "_law_by_code" = true) (k28 : PySem.W.keepIn K (.ref f28) = true)
    (a29 : PySem.W.nsIn K mainGlobals "all_answers" = some (some (.ref f29))) (l29 : K.lookup f29 = some ⟨oc29, od29, .func (PySem.W.fnOf "all_answers" "all_answers" (defArgs sall_answers) (defBody sall_answers) (defScope sall_answers) .none kV29 dc29 pm29 an29 cd29 ct29), sl29⟩) (c29 : PySem.W.codeIn K cd29 "all_answers" = true) (k29 : PySem.W.keepIn K (.ref f29) = true)
    (a30 : PySem.W.nsIn K mainGlobals "why_clash" = some (some (.ref f30))) (l30 : K.lookup f30 = some ⟨oc30, od30, .func (PySem.W.fnOf "why_clash" "why_clash" (defArgs swhy_clash) (defBody swhy_clash) (defScope swhy_clash) .none kV30 dc30 pm30 an30 cd30 ct30), sl30⟩) (c30 : PySem.W.codeIn K cd30 "why_clash" = true) (k30 : PySem.W.keepIn K (.ref f30) = true)
    (a31 : PySem.W.nsIn K mainGlobals "needless" = some (some (.ref f31))) (l31 : K.lookup f31 = some ⟨oc31, od31, .func (PySem.W.fnOf "needless" "needless" (defArgs sneedless) (defBody sneedless) (defScope sneedless) .none kV31 dc31 pm31 an31 cd31 ct31), sl31⟩) (c31 : PySem.W.codeIn K cd31 "needless" = true) (k31 : PySem.W.keepIn K (.ref f31) = true)
    (a32 : PySem.W.nsIn K mainGlobals "settled" = some (some (.ref f32))) (l32 : K.lookup f32 = some ⟨oc32, od32, .func (PySem.W.fnOf "settled" "settled" (defArgs ssettled) (defBody ssettled) (defScope ssettled) .none kV32 dc32 pm32 an32 cd32 ct32), sl32⟩) (c32 : PySem.W.codeIn K cd32 "settled" = true) (k32 : PySem.W.keepIn K (.ref f32) = true)
    (a33 : PySem.W.nsIn K mainGlobals "best_guess" = some (some (.ref f33))) (l33 : K.lookup f33 = some ⟨oc33, od33, .func (PySem.W.fnOf "best_guess" "best_guess" (defArgs sbest_guess) (defBody sbest_guess) (defScope sbest_guess) .none kV33 dc33 pm33 an33 cd33 ct33), sl33⟩) (c33 : PySem.W.codeIn K cd33 "best_guess" = true) (k33 : PySem.W.keepIn K (.ref f33) = true)
    (a34 : PySem.W.nsIn K mainGlobals "shortest" = some (some (.ref f34))) (l34 : K.lookup f34 = some ⟨oc34, od34, .func (PySem.W.fnOf "shortest" "shortest" (defArgs sshortest) (defBody sshortest) (defScope sshortest) .none kV34 dc34 pm34 an34 cd34 ct34), sl34⟩) (c34 : PySem.W.codeIn K cd34 "shortest" = true) (k34 : PySem.W.keepIn K (.ref f34) = true)
    (a35 : PySem.W.nsIn K mainGlobals "a_plan" = some (some (.ref f35))) (l35 : K.lookup f35 = some ⟨oc35, od35, .func (PySem.W.fnOf "a_plan" "a_plan" (defArgs sa_plan) (defBody sa_plan) (defScope sa_plan) .none kV35 dc35 pm35 an35 cd35 ct35), sl35⟩) (c35 : PySem.W.codeIn K cd35 "a_plan" = true) (k35 : PySem.W.keepIn K (.ref f35) = true)
    (a36 : PySem.W.nsIn K mainGlobals "alike_by" = some (some (.ref f36))) (l36 : K.lookup f36 = some ⟨oc36, od36, .func (PySem.W.fnOf "alike_by" "alike_by" (defArgs salike_by) (defBody salike_by) (defScope salike_by) .none kV36 dc36 pm36 an36 cd36 ct36), sl36⟩) (c36 : PySem.W.codeIn K cd36 "alike_by" = true) (k36 : PySem.W.keepIn K (.ref f36) = true)
    (a37 : PySem.W.nsIn K mainGlobals "settle_all" = some (some (.ref f37))) (l37 : K.lookup f37 = some ⟨oc37, od37, .func (PySem.W.fnOf "settle_all" "settle_all" (defArgs ssettle_all) (defBody ssettle_all) (defScope ssettle_all) .none kV37 dc37 pm37 an37 cd37 ct37), sl37⟩) (c37 : PySem.W.codeIn K cd37 "settle_all" = true) (k37 : PySem.W.keepIn K (.ref f37) = true)
    (a38 : PySem.W.nsIn K mainGlobals "read" = some (some (.ref f38))) (l38 : K.lookup f38 = some ⟨oc38, od38, .func (PySem.W.fnOf "read" "read" (defArgs sread) (defBody sread) (defScope sread) .none kV38 dc38 pm38 an38 cd38 ct38), sl38⟩) (c38 : PySem.W.codeIn K cd38 "read" = true) (k38 : PySem.W.keepIn K (.ref f38) = true)
    (a39 : PySem.W.nsIn K mainGlobals "_law_told" = some (some (.ref f39))) (l39 : K.lookup f39 = some ⟨oc39, od39, .func (PySem.W.fnOf "_law_told" "_law_told" (defArgs s_law_told) (defBody s_law_told) (defScope s_law_told) .none kV39 dc39 pm39 an39 cd39 ct39), sl39⟩) (c39 : PySem.W.codeIn K cd39 "_law_told" = true) (k39 : PySem.W.keepIn K (.ref f39) = true)
    (a40 : PySem.W.nsIn K mainGlobals "_law_code" = some (some (.ref f40))) (l40 : K.lookup f40 = some ⟨oc40, od40, .func (PySem.W.fnOf "_law_code" "_law_code" (defArgs s_law_code) (defBody s_law_code) (defScope s_law_code) .none kV40 dc40 pm40 an40 cd40 ct40), sl40⟩) (c40 : PySem.W.codeIn K cd40 "_law_code" = true) (k40 : PySem.W.keepIn K (.ref f40) = true)
    (a41 : PySem.W.nsIn K mainGlobals "law" = some (some (.ref f41))) (l41 : K.lookup f41 = some ⟨oc41, od41, .func (PySem.W.fnOf "law" "law" (defArgs slaw) (defBody slaw) (defScope slaw) .none kV41 dc41 pm41 an41 cd41 ct41), sl41⟩) (c41 : PySem.W.codeIn K cd41 "law" = true) (k41 : PySem.W.keepIn K (.ref f41) = true)
    {tMOST_PLACES : Tok} (gMOST_PLACES : PySem.W.nsIn K mainGlobals "MOST_PLACES" = some (some (.int 5 tMOST_PLACES)))
    {tMOST_COLOURS : Tok} (gMOST_COLOURS : PySem.W.nsIn K mainGlobals "MOST_COLOURS" = some (some (.int 8 tMOST_COLOURS)))
    {tMOST_CODES : Tok} (gMOST_CODES : PySem.W.nsIn K mainGlobals "MOST_CODES" = some (some (.int 300 tMOST_CODES)))
    {tMOST_ASKS : Tok} (gMOST_ASKS : PySem.W.nsIn K mainGlobals "MOST_ASKS" = some (some (.int 8 tMOST_ASKS)))
    (yGuessError : PySem.W.nsIn K mainGlobals "GuessError" = some (some (.ref CGuessError)))
    (yBadGame : PySem.W.nsIn K mainGlobals "BadGame" = some (some (.ref CBadGame)))
    (yBadCode : PySem.W.nsIn K mainGlobals "BadCode" = some (some (.ref CBadCode)))
    (xBadCode : PySem.W.excIn K CBadCode [.type "ValueError", .type "Exception", .type "BaseException", .type "object"] "ValueError.__new__" = true)
    (eBadCode : PySem.W.exmOne K (.ref CBadCode) (.ref CGuessError) = some true)
    (uBadCodeBadGame : PySem.W.kitOne K (.ref CBadCode) (.ref CBadGame) = some false)
    (uBadCodeBadCode : PySem.W.kitOne K (.ref CBadCode) (.ref CBadCode) = some true)
    (uBadCodeValueError : PySem.W.kitOne K (.ref CBadCode) (.type "ValueError") = some true)
    (q0BadCode : PySem.W.findIn K (.ref CBadCode) "__getattribute__" = some (some (.builtin "BaseException.__getattribute__")))
    (q1BadCode : PySem.W.findIn K (.ref CBadCode) "__getattr__" = some none)
    (q4BadCode : PySem.W.mroIn K CBadCode (.type "BaseException") = some true)
    (q2BadCode : PySem.W.findIn K (.ref CBadCode) "__class__" = some (some (.builtin "object.__class__")))
    (q3BadCode : PySem.W.mroIn K CBadCode (.type "object") = some true)
    (xBadGame : PySem.W.excIn K CBadGame [.type "ValueError", .type "Exception", .type "BaseException", .type "object"] "ValueError.__new__" = true)
    (eBadGame : PySem.W.exmOne K (.ref CBadGame) (.ref CGuessError) = some true)
    (uBadGameBadGame : PySem.W.kitOne K (.ref CBadGame) (.ref CBadGame) = some true)
    (uBadGameBadCode : PySem.W.kitOne K (.ref CBadGame) (.ref CBadCode) = some false)
    (uBadGameValueError : PySem.W.kitOne K (.ref CBadGame) (.type "ValueError") = some true)
    (q0BadGame : PySem.W.findIn K (.ref CBadGame) "__getattribute__" = some (some (.builtin "BaseException.__getattribute__")))
    (q1BadGame : PySem.W.findIn K (.ref CBadGame) "__getattr__" = some none)
    (q4BadGame : PySem.W.mroIn K CBadGame (.type "BaseException") = some true)
    (q2BadGame : PySem.W.findIn K (.ref CBadGame) "__class__" = some (some (.builtin "object.__class__")))
    (q3BadGame : PySem.W.mroIn K CBadGame (.type "object") = some true)
    (r1 : PySem.W.specialIn K (.builtin "object.__class__") "__get__" = some (some (.builtin "getset_descriptor.__get__")))
    (r2 : PySem.W.takesIn K (.builtin "object.__class__") = some true)
    (zValueError : PySem.W.nsIn K mainGlobals "ValueError" = some none)
    (zlen : PySem.W.nsIn K mainGlobals "len" = some none)
    (zisinstance : PySem.W.nsIn K mainGlobals "isinstance" = some none)
    (zrange : PySem.W.nsIn K mainGlobals "range" = some none)
    (zint : PySem.W.nsIn K mainGlobals "int" = some none)
    (zbool : PySem.W.nsIn K mainGlobals "bool" = some none)
    (ztuple : PySem.W.nsIn K mainGlobals "tuple" = some none)
    (zlist : PySem.W.nsIn K mainGlobals "list" = some none)
    (zall : PySem.W.nsIn K mainGlobals "all" = some none)
    (zenumerate : PySem.W.nsIn K mainGlobals "enumerate" = some none)
    (zzip : PySem.W.nsIn K mainGlobals "zip" = some none)
    (zsum : PySem.W.nsIn K mainGlobals "sum" = some none)
    (zsorted : PySem.W.nsIn K mainGlobals "sorted" = some none)
    (zmax : PySem.W.nsIn K mainGlobals "max" = some none)
    (zmin : PySem.W.nsIn K mainGlobals "min" = some none)
    (zset : PySem.W.nsIn K mainGlobals "set" = some none)
    (zstr : PySem.W.nsIn K mainGlobals "str" = some none)
 :
    ∃ fd : FuncData, (∀ (s : Shared) (v : Value), BindsTo s fd ⟨[v], []⟩ [("_law_script", v)]) ∧ ∀ base : Heap, K.In base → base.Ns mainGlobals mg → FnOk l.prog w K mg base CX0 11 fa fd ["_law_script"] (spD K 1 Flaw) := by
  have e := hfa.symm.trans (PySem.W.mg_of X G a41)
  cases e
  have B : Bt mg := ⟨PySem.W.mg_none_of X G zlen, PySem.W.mg_none_of X G zisinstance, PySem.W.mg_none_of X G zrange, PySem.W.mg_none_of X G zint, PySem.W.mg_none_of X G zbool, PySem.W.mg_none_of X G ztuple, PySem.W.mg_none_of X G zlist, PySem.W.mg_none_of X G zall, PySem.W.mg_none_of X G zenumerate, PySem.W.mg_none_of X G zzip, PySem.W.mg_none_of X G zsum, PySem.W.mg_none_of X G zsorted, PySem.W.mg_none_of X G zmax, PySem.W.mg_none_of X G zmin, PySem.W.mg_none_of X G zset, PySem.W.mg_none_of X G zstr⟩
  have F0_ := fun_mk (st := s_law_mix) l0 c0 k0
  have F1_ := fun_mk (st := s_law_cell) l1 c1 k1
  have F2_ := fun_mk (st := s_law_game) l2 c2 k2
  have F3_ := fun_mk (st := sis_pair) l3 c3 k3
  have F4_ := fun_mk (st := sis_number_within) l4 c4 k4
  have F5_ := fun_mk (st := show_many_codes) l5 c5 k5
  have F6_ := fun_mk (st := sis_game) l6 c6 k6
  have F7_ := fun_mk (st := schecked_game) l7 c7 k7
  have F8_ := fun_mk (st := sall_codes) l8 c8 k8
  have F9_ := fun_mk (st := s_law_codes) l9 c9 k9
  have F10_ := fun_mk (st := sanswer_of) l10 c10 k10
  have F11_ := fun_mk (st := sis_code) l11 c11 k11
  have F12_ := fun_mk (st := schecked_code) l12 c12 k12
  have F13_ := fun_mk (st := sanswer) l13 c13 k13
  have F14_ := fun_mk (st := s_law_deed) l14 c14 k14
  have F15_ := fun_mk (st := sis_answer) l15 c15 k15
  have F16_ := fun_mk (st := sis_ask) l16 c16 k16
  have F17_ := fun_mk (st := schecked_list) l17 c17 k17
  have F18_ := fun_mk (st := schecked_asks) l18 c18 k18
  have F19_ := fun_mk (st := sfits_ask) l19 c19 k19
  have F20_ := fun_mk (st := sthose_that_fit) l20 c20 k20
  have F21_ := fun_mk (st := swhat_fits) l21 c21 k21
  have F22_ := fun_mk (st := ssplit) l22 c22 k22
  have F23_ := fun_mk (st := splayed) l23 c23 k23
  have F24_ := fun_mk (st := s_law_more) l24 c24 k24
  have F25_ := fun_mk (st := sfound_or_clash) l25 c25 k25
  have F26_ := fun_mk (st := sfoe_answer) l26 c26 k26
  have F27_ := fun_mk (st := sleast_guess_like) l27 c27 k27
  have F28_ := fun_mk (st := s_law_by_code) l28 c28 k28
  have F29_ := fun_mk (st := sall_answers) l29 c29 k29
  have F30_ := fun_mk (st := swhy_clash) l30 c30 k30
  have F31_ := fun_mk (st := sneedless) l31 c31 k31
  have F32_ := fun_mk (st := ssettled) l32 c32 k32
  have F33_ := fun_mk (st := sbest_guess) l33 c33 k33
  have F34_ := fun_mk (st := sshortest) l34 c34 k34
  have F35_ := fun_mk (st := sa_plan) l35 c35 k35
  have F36_ := fun_mk (st := salike_by) l36 c36 k36
  have F37_ := fun_mk (st := ssettle_all) l37 c37 k37
  have F38_ := fun_mk (st := sread) l38 c38 k38
  have F39_ := fun_mk (st := s_law_told) l39 c39 k39
  have F40_ := fun_mk (st := s_law_code) l40 c40 k40
  have F41_ := fun_mk (st := slaw) l41 c41 k41
  have b0 := F0_.binds (ps := ["_law_cell_here", "_law_prime", "_law_many"]) fun _ _ _ _ _ _ us hl => match us, hl with | [_, _, _], _ => rfl
  have b1 := F1_.binds (ps := ["_law_script", "_law_k"]) fun _ _ _ _ _ _ us hl => match us, hl with | [_, _], _ => rfl
  have b2 := F2_.binds (ps := ["_law_script", "_law_at"]) fun _ _ _ _ _ _ us hl => match us, hl with | [_, _], _ => rfl
  have b3 := F3_.binds (ps := ["thing"]) fun _ _ _ _ _ _ us hl => match us, hl with | [_], _ => rfl
  have b4 := F4_.binds (ps := ["thing", "low", "high"]) fun _ _ _ _ _ _ us hl => match us, hl with | [_, _, _], _ => rfl
  have b5 := F5_.binds (ps := ["places", "colours"]) fun _ _ _ _ _ _ us hl => match us, hl with | [_, _], _ => rfl
  have b6 := F6_.binds (ps := ["thing"]) fun _ _ _ _ _ _ us hl => match us, hl with | [_], _ => rfl
  have b7 := F7_.binds (ps := ["game"]) fun _ _ _ _ _ _ us hl => match us, hl with | [_], _ => rfl
  have b8 := F8_.binds (ps := ["game"]) fun _ _ _ _ _ _ us hl => match us, hl with | [_], _ => rfl
  have b9 := F9_.binds (ps := ["_law_game_here"]) fun _ _ _ _ _ _ us hl => match us, hl with | [_], _ => rfl
  have b10 := F10_.binds (ps := ["hidden", "guess"]) fun _ _ _ _ _ _ us hl => match us, hl with | [_, _], _ => rfl
  have b11 := F11_.binds (ps := ["game", "thing"]) fun _ _ _ _ _ _ us hl => match us, hl with | [_, _], _ => rfl
  have b12 := F12_.binds (ps := ["game", "code"]) fun _ _ _ _ _ _ us hl => match us, hl with | [_, _], _ => rfl
  have b13 := F13_.binds (ps := ["game", "hidden", "guess"]) fun _ _ _ _ _ _ us hl => match us, hl with | [_, _, _], _ => rfl
  have b14 := F14_.binds (ps := ["_law_way", "_law_bad"]) fun _ _ _ _ _ _ us hl => match us, hl with | [_, _], _ => rfl
  have b15 := F15_.binds (ps := ["game", "thing"]) fun _ _ _ _ _ _ us hl => match us, hl with | [_, _], _ => rfl
  have b16 := F16_.binds (ps := ["game", "thing"]) fun _ _ _ _ _ _ us hl => match us, hl with | [_, _], _ => rfl
  have b17 := F17_.binds (ps := ["game", "things", "is_one"]) fun _ _ _ _ _ _ us hl => match us, hl with | [_, _, _], _ => rfl
  have b18 := F18_.binds (ps := ["game", "asks"]) fun _ _ _ _ _ _ us hl => match us, hl with | [_, _], _ => rfl
  have b19 := F19_.binds (ps := ["code", "ask"]) fun _ _ _ _ _ _ us hl => match us, hl with | [_, _], _ => rfl
  have b20 := F20_.binds (ps := ["codes", "asks"]) fun _ _ _ _ _ _ us hl => match us, hl with | [_, _], _ => rfl
  have b21 := F21_.binds (ps := ["game", "asks"]) fun _ _ _ _ _ _ us hl => match us, hl with | [_, _], _ => rfl
  have b22 := F22_.binds (ps := ["game", "asks", "guess"]) fun _ _ _ _ _ _ us hl => match us, hl with | [_, _, _], _ => rfl
  have b23 := F23_.binds (ps := ["game", "hidden"]) fun _ _ _ _ _ _ us hl => match us, hl with | [_, _], _ => rfl
  have b24 := F24_.binds (ps := ["_law_way", "_law_bad"]) fun _ _ _ _ _ _ us hl => match us, hl with | [_, _], _ => rfl
  have b25 := F25_.binds (ps := ["found"]) fun _ _ _ _ _ _ us hl => match us, hl with | [_], _ => rfl
  have b26 := F26_.binds (ps := ["game", "asks", "guess"]) fun _ _ _ _ _ _ us hl => match us, hl with | [_, _, _], _ => rfl
  have b27 := F27_.binds (ps := ["game", "guess"]) fun _ _ _ _ _ _ us hl => match us, hl with | [_, _], _ => rfl
  have b28 := F28_.binds (ps := ["_law_way", "_law_game_here", "_law_good", "_law_bad"]) fun _ _ _ _ _ _ us hl => match us, hl with | [_, _, _, _], _ => rfl
  have b29 := F29_.binds (ps := ["game"]) fun _ _ _ _ _ _ us hl => match us, hl with | [_], _ => rfl
  have b30 := F30_.binds (ps := ["game", "asks"]) fun _ _ _ _ _ _ us hl => match us, hl with | [_, _], _ => rfl
  have b31 := F31_.binds (ps := ["game", "asks"]) fun _ _ _ _ _ _ us hl => match us, hl with | [_, _], _ => rfl
  have b32 := F32_.binds (ps := ["game", "asks"]) fun _ _ _ _ _ _ us hl => match us, hl with | [_, _], _ => rfl
  have b33 := F33_.binds (ps := ["game", "asks"]) fun _ _ _ _ _ _ us hl => match us, hl with | [_, _], _ => rfl
  have b34 := F34_.binds (ps := ["game", "asks"]) fun _ _ _ _ _ _ us hl => match us, hl with | [_, _], _ => rfl
  have b35 := F35_.binds (ps := ["game", "asks"]) fun _ _ _ _ _ _ us hl => match us, hl with | [_, _], _ => rfl
  have b36 := F36_.binds (ps := ["game", "guesses"]) fun _ _ _ _ _ _ us hl => match us, hl with | [_, _], _ => rfl
  have b37 := F37_.binds (ps := ["game", "guesses"]) fun _ _ _ _ _ _ us hl => match us, hl with | [_, _], _ => rfl
  have b38 := F38_.binds (ps := ["game", "text"]) fun _ _ _ _ _ _ us hl => match us, hl with | [_, _], _ => rfl
  have b39 := F39_.binds (ps := ["_law_sort", "_law_way", "_law_game_here", "_law_good", "_law_bad"]) fun _ _ _ _ _ _ us hl => match us, hl with | [_, _, _, _, _], _ => rfl
  have b40 := F40_.binds (ps := ["_law_game_here", "_law_cell_here"]) fun _ _ _ _ _ _ us hl => match us, hl with | [_, _], _ => rfl
  have b41 := F41_.binds (ps := ["_law_script"]) fun _ _ _ _ _ _ us hl => match us, hl with | [_], _ => rfl
  refine ⟨PySem.W.fnOf "law" "law" (defArgs slaw) (defBody slaw) (defScope slaw) .none kV41 dc41 pm41 an41 cd41 ct41, fun s v => .of_eq rfl, fun base _ _ => ?_⟩
  have O0_ : Own l.prog w K mg base 1 "_law_mix" ["_law_cell_here", "_law_prime", "_law_many"] (spD K 3 F_law_mix) := ⟨⟨_, _, ok_law_mix F0_ B, PySem.W.mg_of X G a0, k0, b0⟩⟩
  have O1_ : Own l.prog w K mg base 1 "_law_cell" ["_law_script", "_law_k"] (spD K 2 F_law_cell) := ⟨⟨_, _, ok_law_cell F1_ B, PySem.W.mg_of X G a1, k1, b1⟩⟩
  have O2_ : Own l.prog w K mg base 2 "_law_game" ["_law_script", "_law_at"] (spD K 2 F_law_game) := ⟨⟨_, _, ok_law_game F2_ B O0_ O1_, PySem.W.mg_of X G a2, k2, b2⟩⟩
  have O3_ : Own l.prog w K mg base 1 "is_pair" ["thing"] (spD K 1 Fis_pair) := ⟨⟨_, _, okis_pair F3_ B, PySem.W.mg_of X G a3, k3, b3⟩⟩
  have O4_ : Own l.prog w K mg base 1 "is_number_within" ["thing", "low", "high"] (spD K 3 Fis_number_within) := ⟨⟨_, _, okis_number_within F4_ B, PySem.W.mg_of X G a4, k4, b4⟩⟩
  have O5_ : Own l.prog w K mg base 1 "how_many_codes" ["places", "colours"] (spD K 2 Fhow_many_codes) := ⟨⟨_, _, okhow_many_codes F5_ B, PySem.W.mg_of X G a5, k5, b5⟩⟩
  have O6_ : Own l.prog w K mg base 2 "is_game" ["thing"] (spD K 1 Fis_game) := ⟨⟨_, _, okis_game F6_ B O3_ O5_ O4_ (PySem.W.mg_of X G gMOST_PLACES) (PySem.W.mg_of X G gMOST_COLOURS) (PySem.W.mg_of X G gMOST_CODES), PySem.W.mg_of X G a6, k6, b6⟩⟩
  have O7_ : Own l.prog w K mg base 3 "checked_game" ["game"] (spD K 1 Fchecked_game) := ⟨⟨_, _, okchecked_game F7_ B O6_, PySem.W.mg_of X G a7, k7, b7⟩⟩
  have O8_ : Own l.prog w K mg base 4 "all_codes" ["game"] (spD K 1 Fall_codes) := ⟨⟨_, _, okall_codes F8_ B O7_, PySem.W.mg_of X G a8, k8, b8⟩⟩
  have O9_ : Own l.prog w K mg base 1 "_law_codes" ["_law_game_here"] (spD K 1 F_law_codes) := ⟨⟨_, _, ok_law_codes F9_ B, PySem.W.mg_of X G a9, k9, b9⟩⟩
  have O10_ : Own l.prog w K mg base 1 "answer_of" ["hidden", "guess"] (spD K 2 Fanswer_of) := ⟨⟨_, _, okanswer_of F10_ B, PySem.W.mg_of X G a10, k10, b10⟩⟩
  have O11_ : Own l.prog w K mg base 2 "is_code" ["game", "thing"] (spD K 2 Fis_code) := ⟨⟨_, _, okis_code F11_ B O4_, PySem.W.mg_of X G a11, k11, b11⟩⟩
  have N11_ : OwnN l.prog w K mg base 2 "is_code" ["game", "thing"] (spD K 2 Fis_code) := ⟨⟨_, _, okis_code F11_ B O4_, a11, k11, b11⟩⟩
  have O12_ : Own l.prog w K mg base 3 "checked_code" ["game", "code"] (spD K 2 Fchecked_code) := ⟨⟨_, _, okchecked_code F12_ B O11_, PySem.W.mg_of X G a12, k12, b12⟩⟩
  have OX12_BadCode_ : OwnX l.prog w K mg base 3 "checked_code" ["game", "code"] (spX K 2 CBadCode Xchecked_code_BadCode) := ⟨⟨_, _, okXchecked_code_BadCode F12_ B O11_ (PySem.W.mg_of X G yBadCode) xBadCode, PySem.W.mg_of X G a12, k12, b12⟩⟩
  have OX13_BadCode_ : OwnX l.prog w K mg base 4 "answer" ["game", "hidden", "guess"] (spX K 3 CBadCode Xanswer_BadCode) := ⟨⟨_, _, okXanswer_BadCode F13_ B O7_ O10_ O12_ OX12_BadCode_, PySem.W.mg_of X G a13, k13, b13⟩⟩
  have OX14_BadCode_ : OwnX l.prog w K mg base 8 "_law_deed" ["_law_way", "_law_bad"] (spX K 2 CBadCode X_law_deed_BadCode) := ⟨⟨_, _, okX_law_deed_BadCode F14_ B OX13_BadCode_, PySem.W.mg_of X G a14, k14, b14⟩⟩
  have O15_ : Own l.prog w K mg base 2 "is_answer" ["game", "thing"] (spD K 2 Fis_answer) := ⟨⟨_, _, okis_answer F15_ B O3_ O4_, PySem.W.mg_of X G a15, k15, b15⟩⟩
  have O16_ : Own l.prog w K mg base 3 "is_ask" ["game", "thing"] (spD K 2 Fis_ask) := ⟨⟨_, _, okis_ask F16_ B O3_ O11_ O15_, PySem.W.mg_of X G a16, k16, b16⟩⟩
  have N16_ : OwnN l.prog w K mg base 3 "is_ask" ["game", "thing"] (spD K 2 Fis_ask) := ⟨⟨_, _, okis_ask F16_ B O3_ O11_ O15_, a16, k16, b16⟩⟩
  have O17_ : Own l.prog w K mg base 4 "checked_list" ["game", "things", "is_one"] (spD K 3 Fchecked_list) := ⟨⟨_, _, okchecked_list F17_ B N16_ N11_ (PySem.W.mg_of X G gMOST_ASKS), PySem.W.mg_of X G a17, k17, b17⟩⟩
  have O18_ : Own l.prog w K mg base 5 "checked_asks" ["game", "asks"] (spD K 2 Fchecked_asks) := ⟨⟨_, _, okchecked_asks F18_ B O17_ (PySem.W.mg_of X G a16) a16, PySem.W.mg_of X G a18, k18, b18⟩⟩
  have O19_ : Own l.prog w K mg base 2 "fits_ask" ["code", "ask"] (spD K 2 Ffits_ask) := ⟨⟨_, _, okfits_ask F19_ B O10_, PySem.W.mg_of X G a19, k19, b19⟩⟩
  have O20_ : Own l.prog w K mg base 3 "those_that_fit" ["codes", "asks"] (spD K 2 Fthose_that_fit) := ⟨⟨_, _, okthose_that_fit F20_ B O19_, PySem.W.mg_of X G a20, k20, b20⟩⟩
  have O21_ : Own l.prog w K mg base 6 "what_fits" ["game", "asks"] (spD K 2 Fwhat_fits) := ⟨⟨_, _, okwhat_fits F21_ B O7_ O18_ O20_ O8_, PySem.W.mg_of X G a21, k21, b21⟩⟩
  have OX22_BadCode_ : OwnX l.prog w K mg base 7 "split" ["game", "asks", "guess"] (spX K 3 CBadCode Xsplit_BadCode) := ⟨⟨_, _, okXsplit_BadCode F22_ B O21_ OX12_BadCode_, PySem.W.mg_of X G a22, k22, b22⟩⟩
  have OX23_BadCode_ : OwnX l.prog w K mg base 5 "played" ["game", "hidden"] (spX K 2 CBadCode Xplayed_BadCode) := ⟨⟨_, _, okXplayed_BadCode F23_ B O7_ OX12_BadCode_, PySem.W.mg_of X G a23, k23, b23⟩⟩
  have OX24_BadCode_ : OwnX l.prog w K mg base 9 "_law_more" ["_law_way", "_law_bad"] (spX K 2 CBadCode X_law_more_BadCode) := ⟨⟨_, _, okX_law_more_BadCode F24_ B OX22_BadCode_ OX23_BadCode_, PySem.W.mg_of X G a24, k24, b24⟩⟩
  have O25_ : Own l.prog w K mg base 1 "found_or_clash" ["found"] (spD K 1 Ffound_or_clash) := ⟨⟨_, _, okfound_or_clash F25_ B, PySem.W.mg_of X G a25, k25, b25⟩⟩
  have OX26_BadCode_ : OwnX l.prog w K mg base 8 "foe_answer" ["game", "asks", "guess"] (spX K 3 CBadCode Xfoe_answer_BadCode) := ⟨⟨_, _, okXfoe_answer_BadCode F26_ B O25_ OX22_BadCode_, PySem.W.mg_of X G a26, k26, b26⟩⟩
  have OX27_BadCode_ : OwnX l.prog w K mg base 4 "least_guess_like" ["game", "guess"] (spX K 2 CBadCode Xleast_guess_like_BadCode) := ⟨⟨_, _, okXleast_guess_like_BadCode F27_ B O7_ OX12_BadCode_, PySem.W.mg_of X G a27, k27, b27⟩⟩
  have OX28_BadCode_ : OwnX l.prog w K mg base 9 "_law_by_code" ["_law_way", "_law_game_here", "_law_good", "_law_bad"] (spX K 4 CBadCode X_law_by_code_BadCode) := ⟨⟨_, _, okX_law_by_code_BadCode F28_ B OX13_BadCode_ OX22_BadCode_ OX26_BadCode_ OX23_BadCode_ OX27_BadCode_, PySem.W.mg_of X G a28, k28, b28⟩⟩
  have OX7_BadGame_ : OwnX l.prog w K mg base 3 "checked_game" ["game"] (spX K 1 CBadGame Xchecked_game_BadGame) := ⟨⟨_, _, okXchecked_game_BadGame F7_ B O6_ (PySem.W.mg_of X G yBadGame) xBadGame, PySem.W.mg_of X G a7, k7, b7⟩⟩
  have OX8_BadGame_ : OwnX l.prog w K mg base 4 "all_codes" ["game"] (spX K 1 CBadGame Xall_codes_BadGame) := ⟨⟨_, _, okXall_codes_BadGame F8_ B OX7_BadGame_, PySem.W.mg_of X G a8, k8, b8⟩⟩
  have OX29_BadGame_ : OwnX l.prog w K mg base 5 "all_answers" ["game"] (spX K 1 CBadGame Xall_answers_BadGame) := ⟨⟨_, _, okXall_answers_BadGame F29_ B OX8_BadGame_, PySem.W.mg_of X G a29, k29, b29⟩⟩
  have OX13_BadGame_ : OwnX l.prog w K mg base 4 "answer" ["game", "hidden", "guess"] (spX K 3 CBadGame Xanswer_BadGame) := ⟨⟨_, _, okXanswer_BadGame F13_ B OX7_BadGame_, PySem.W.mg_of X G a13, k13, b13⟩⟩
  have OX21_BadGame_ : OwnX l.prog w K mg base 6 "what_fits" ["game", "asks"] (spX K 2 CBadGame Xwhat_fits_BadGame) := ⟨⟨_, _, okXwhat_fits_BadGame F21_ B O7_ O18_ O20_ OX7_BadGame_ OX8_BadGame_, PySem.W.mg_of X G a21, k21, b21⟩⟩
  have OX30_BadGame_ : OwnX l.prog w K mg base 7 "why_clash" ["game", "asks"] (spX K 2 CBadGame Xwhy_clash_BadGame) := ⟨⟨_, _, okXwhy_clash_BadGame F30_ B OX21_BadGame_, PySem.W.mg_of X G a30, k30, b30⟩⟩
  have OX31_BadGame_ : OwnX l.prog w K mg base 7 "needless" ["game", "asks"] (spX K 2 CBadGame Xneedless_BadGame) := ⟨⟨_, _, okXneedless_BadGame F31_ B O21_ OX21_BadGame_ OX8_BadGame_, PySem.W.mg_of X G a31, k31, b31⟩⟩
  have OX32_BadGame_ : OwnX l.prog w K mg base 7 "settled" ["game", "asks"] (spX K 2 CBadGame Xsettled_BadGame) := ⟨⟨_, _, okXsettled_BadGame F32_ B O25_ OX21_BadGame_, PySem.W.mg_of X G a32, k32, b32⟩⟩
  have OX14_BadGame_ : OwnX l.prog w K mg base 8 "_law_deed" ["_law_way", "_law_bad"] (spX K 2 CBadGame X_law_deed_BadGame) := ⟨⟨_, _, okX_law_deed_BadGame F14_ B OX7_BadGame_ OX8_BadGame_ OX29_BadGame_ OX13_BadGame_ OX21_BadGame_ OX30_BadGame_ OX31_BadGame_ OX32_BadGame_, PySem.W.mg_of X G a14, k14, b14⟩⟩
  have OX22_BadGame_ : OwnX l.prog w K mg base 7 "split" ["game", "asks", "guess"] (spX K 3 CBadGame Xsplit_BadGame) := ⟨⟨_, _, okXsplit_BadGame F22_ B OX21_BadGame_, PySem.W.mg_of X G a22, k22, b22⟩⟩
  have OX33_BadGame_ : OwnX l.prog w K mg base 7 "best_guess" ["game", "asks"] (spX K 2 CBadGame Xbest_guess_BadGame) := ⟨⟨_, _, okXbest_guess_BadGame F33_ B O25_ OX21_BadGame_, PySem.W.mg_of X G a33, k33, b33⟩⟩
  have OX23_BadGame_ : OwnX l.prog w K mg base 5 "played" ["game", "hidden"] (spX K 2 CBadGame Xplayed_BadGame) := ⟨⟨_, _, okXplayed_BadGame F23_ B O7_ O12_ OX7_BadGame_ OX8_BadGame_, PySem.W.mg_of X G a23, k23, b23⟩⟩
  have OX34_BadGame_ : OwnX l.prog w K mg base 7 "shortest" ["game", "asks"] (spX K 2 CBadGame Xshortest_BadGame) := ⟨⟨_, _, okXshortest_BadGame F34_ B O25_ OX21_BadGame_, PySem.W.mg_of X G a34, k34, b34⟩⟩
  have OX35_BadGame_ : OwnX l.prog w K mg base 8 "a_plan" ["game", "asks"] (spX K 2 CBadGame Xa_plan_BadGame) := ⟨⟨_, _, okXa_plan_BadGame F35_ B OX34_BadGame_, PySem.W.mg_of X G a35, k35, b35⟩⟩
  have OX36_BadGame_ : OwnX l.prog w K mg base 6 "alike_by" ["game", "guesses"] (spX K 2 CBadGame Xalike_by_BadGame) := ⟨⟨_, _, okXalike_by_BadGame F36_ B OX7_BadGame_, PySem.W.mg_of X G a36, k36, b36⟩⟩
  have OX37_BadGame_ : OwnX l.prog w K mg base 7 "settle_all" ["game", "guesses"] (spX K 2 CBadGame Xsettle_all_BadGame) := ⟨⟨_, _, okXsettle_all_BadGame F37_ B OX36_BadGame_, PySem.W.mg_of X G a37, k37, b37⟩⟩
  have OX38_BadGame_ : OwnX l.prog w K mg base 5 "read" ["game", "text"] (spX K 2 CBadGame Xread_BadGame) := ⟨⟨_, _, okXread_BadGame F38_ B OX7_BadGame_, PySem.W.mg_of X G a38, k38, b38⟩⟩
  have OX24_BadGame_ : OwnX l.prog w K mg base 9 "_law_more" ["_law_way", "_law_bad"] (spX K 2 CBadGame X_law_more_BadGame) := ⟨⟨_, _, okX_law_more_BadGame F24_ B OX22_BadGame_ OX33_BadGame_ OX23_BadGame_ OX35_BadGame_ OX37_BadGame_ OX38_BadGame_, PySem.W.mg_of X G a24, k24, b24⟩⟩
  have OX26_BadGame_ : OwnX l.prog w K mg base 8 "foe_answer" ["game", "asks", "guess"] (spX K 3 CBadGame Xfoe_answer_BadGame) := ⟨⟨_, _, okXfoe_answer_BadGame F26_ B O25_ OX22_BadGame_, PySem.W.mg_of X G a26, k26, b26⟩⟩
  have OX27_BadGame_ : OwnX l.prog w K mg base 4 "least_guess_like" ["game", "guess"] (spX K 2 CBadGame Xleast_guess_like_BadGame) := ⟨⟨_, _, okXleast_guess_like_BadGame F27_ B OX7_BadGame_, PySem.W.mg_of X G a27, k27, b27⟩⟩
  have OX28_BadGame_ : OwnX l.prog w K mg base 9 "_law_by_code" ["_law_way", "_law_game_here", "_law_good", "_law_bad"] (spX K 4 CBadGame X_law_by_code_BadGame) := ⟨⟨_, _, okX_law_by_code_BadGame F28_ B OX13_BadGame_ OX22_BadGame_ OX26_BadGame_ OX23_BadGame_ OX27_BadGame_, PySem.W.mg_of X G a28, k28, b28⟩⟩
  have O39_ : Own l.prog w K mg base 10 "_law_told" ["_law_sort", "_law_way", "_law_game_here", "_law_good", "_law_bad"] (spD K 5 F_law_told) := ⟨⟨_, _, ok_law_told F39_ B OX14_BadCode_ OX24_BadCode_ OX28_BadCode_ OX14_BadGame_ OX24_BadGame_ OX28_BadGame_ (PySem.W.mg_of X G yGuessError) (PySem.W.mg_of X G yBadGame) (PySem.W.mg_of X G yBadCode) (PySem.W.mg_none_of X G zValueError) eBadCode ⟨q0BadCode, q1BadCode, q2BadCode, r1, r2, q3BadCode, q4BadCode⟩ uBadCodeBadGame uBadCodeBadCode uBadCodeValueError eBadGame ⟨q0BadGame, q1BadGame, q2BadGame, r1, r2, q3BadGame, q4BadGame⟩ uBadGameBadGame uBadGameBadCode uBadGameValueError, PySem.W.mg_of X G a39, k39, b39⟩⟩
  have O40_ : Own l.prog w K mg base 2 "_law_code" ["_law_game_here", "_law_cell_here"] (spD K 2 F_law_code) := ⟨⟨_, _, ok_law_code F40_ B O0_, PySem.W.mg_of X G a40, k40, b40⟩⟩
  exact oklaw F41_ B O2_ O40_ O1_ O7_ O8_ O9_ O39_
theorem walk {l : PySem.W.OpenLaw} {q : Program} {loose : List Str} {XP : (Str → Option Value) → Heap → Prop} {YP : World → Heap → Prop} {d : DefRec} {K : Params → PySem.W.Frag} (hn : l.most = some 63) (hdf : d.params.defaults = [])
    (hY : ∀ (w : World) (h : Heap), YP w h → (K w.params).In h)
    (F : ∀ (w : World) (mg : Str → Option Value) (fa : Addr) (h : Heap), (K w.params).In h → h.Ns mainGlobals mg → mg d.name = some (.ref fa) →
      ∃ fd : FuncData, (∀ (s : Shared) (u : Value), BindsTo s fd ⟨[u], []⟩ [("_law_script", u)]) ∧ ∀ base : Heap, (K w.params).In base → base.Ns mainGlobals mg → FnOk l.prog w (K w.params) mg base CX0 11 fa fd ["_law_script"] (spD (K w.params) 1 Flaw)) :
    PySem.W.WalkO q loose XP YP l.row.toRowW d [] (fun f vs => PySem.call f vs) :=
  L2.walk_of (n := 63) (k := 11) (x := "_law_script") (CX := fun _ => CX0) (sp := fun w => spD (K w.params) 1 Flaw) hn (by decide) hdf ⟨rfl, by decide, by decide⟩ hY F (fun _ _ a ns hl _ hS => law_spec (law_true ns hl) hS) fun _ _ _ _ _ z => z
end GX
open PySem PySem.W PyProof.Rows
noncomputable def PySem.W.Fast.tw9986515300007466863 : Nat := 0
noncomputable def PySem.W.Fast.tw12011377737286996386 : Nat := 0
noncomputable def PySem.W.Fast.tw15835053163211722990 : Nat := 0
noncomputable def PySem.W.Fast.tw16066990797753022943 : Nat := 0
noncomputable def PySem.W.Fast.tw3240608263408418246 : Nat := 0
noncomputable def PySem.W.Fast.tw6504125188737232451 : Nat := 0
noncomputable def PySem.W.Fast.tw16135093014183306725 : Nat := 0
noncomputable def PySem.W.Fast.tw1893800030753183760 : Nat := 0
noncomputable def PySem.W.Fast.tw1756249259080941219 : Nat := 0
noncomputable def PySem.W.Fast.tw18244921198067034864 : Nat := 0
noncomputable def PySem.W.Fast.tw14779501372819668667 : Nat := 0
noncomputable def PySem.W.Fast.tw10262806977306010874 : Nat := 0
noncomputable def PySem.W.Fast.tw5295856118862120871 : Nat := 0
noncomputable def PySem.W.Fast.tw7585919352568022676 : Nat := 0
noncomputable def PySem.W.Fast.tw11477898350878308231 : Nat := 0
noncomputable def PySem.W.Fast.tw3650384607607108085 : Nat := 0
noncomputable def PySem.W.Fast.tw2563056467115112090 : Nat := 0
set_option maxRecDepth 100000 in
set_option maxHeartbeats 0 in
theorem PySem.Challenge.cw_guesscode_k01_games_and_codes_holds : PySem.Challenge.rw_guesscode_k01_games_and_codes.Holds := by
  w_on; o_law; k_head; (case hw => w_witness2)
  k_fill
  refine GX.walk (l := PySem.Challenge.rw_guesscode_k01_games_and_codes) rfl rfl (fun w h Y => by first | exact PySem.W.kIn_of Y | exact PySem.W.km_in_of Y) ?F
  case F =>
    intro w mg fa h KX G hmg
    refine' GX.all_mk KX G hmg ?a0 ?l0 ?c0 ?k0 ?a1 ?l1 ?c1 ?k1 ?a2 ?l2 ?c2 ?k2 ?a3 ?l3 ?c3 ?k3 ?a4 ?l4 ?c4 ?k4 ?a5 ?l5 ?c5 ?k5 ?a6 ?l6 ?c6 ?k6 ?a7 ?l7 ?c7 ?k7 ?a8 ?l8 ?c8 ?k8 ?a9 ?l9 ?c9 ?k9 ?a10 ?l10 ?c10 ?k10 ?a11 ?l11 ?c11 ?k11 ?a12 ?l12 ?c12 ?k12 ?a13 ?l13 ?c13 ?k13 ?a14 ?l14 ?c14 ?k14 ?a15 ?l15 ?c15 ?k15 ?a16 ?l16 ?c16 ?k16 ?a17 ?l17 ?c17 ?k17 ?a18 ?l18 ?c18 ?k18 ?a19 ?l19 ?c19 ?k19 ?a20 ?l20 ?c20 ?k20 ?a21 ?l21 ?c21 ?k21 ?a22 ?l22 ?c22 ?k22 ?a23 ?l23 ?c23 ?k23 ?a24 ?l24 ?c24 ?k24 ?a25 ?l25 ?c25 ?k25 ?a26 ?l26 ?c26 ?k26 ?a27 ?l27 ?c27 ?k27 ?a28 ?l28 ?c28 ?k28 ?a29 ?l29 ?c29 ?k29 ?a30 ?l30 ?c30 ?k30 ?a31 ?l31 ?c31 ?k31 ?a32 ?l32 ?c32 ?k32 ?a33 ?l33 ?c33 ?k33 ?a34 ?l34 ?c34 ?k34 ?a35 ?l35 ?c35 ?k35 ?a36 ?l36 ?c36 ?k36 ?a37 ?l37 ?c37 ?k37 ?a38 ?l38 ?c38 ?k38 ?a39 ?l39 ?c39 ?k39 ?a40 ?l40 ?c40 ?k40 ?a41 ?l41 ?c41 ?k41 ?gMOST_PLACES ?gMOST_COLOURS ?gMOST_CODES ?gMOST_ASKS ?yGuessError ?yBadGame ?yBadCode ?xBadCode ?eBadCode ?uBadCodeBadGame ?uBadCodeBadCode ?uBadCodeValueError ?q0BadCode ?q1BadCode ?q4BadCode ?q2BadCode ?q3BadCode ?xBadGame ?eBadGame ?uBadGameBadGame ?uBadGameBadCode ?uBadGameValueError ?q0BadGame ?q1BadGame ?q4BadGame ?q2BadGame ?q3BadGame ?r1 ?r2 ?zValueError ?zlen ?zisinstance ?zrange ?zint ?zbool ?ztuple ?zlist ?zall ?zenumerate ?zzip ?zsum ?zsorted ?zmax ?zmin ?zset ?zstr
    (case a0 => k_is); (case l0 => k_is); (case c0 => k_is); (case k0 => k_is)
    (case a1 => k_is); (case l1 => k_is); (case c1 => k_is); (case k1 => k_is)
    (case a2 => k_is); (case l2 => k_is); (case c2 => k_is); (case k2 => k_is)
    (case a3 => k_is); (case l3 => k_is); (case c3 => k_is); (case k3 => k_is)
    (case a4 => k_is); (case l4 => k_is); (case c4 => k_is); (case k4 => k_is)
    (case a5 => k_is); (case l5 => k_is); (case c5 => k_is); (case k5 => k_is)
    (case a6 => k_is); (case l6 => k_is); (case c6 => k_is); (case k6 => k_is)
    (case a7 => k_is); (case l7 => k_is); (case c7 => k_is); (case k7 => k_is)
    (case a8 => k_is); (case l8 => k_is); (case c8 => k_is); (case k8 => k_is)
    (case a9 => k_is); (case l9 => k_is); (case c9 => k_is); (case k9 => k_is)
    (case a10 => k_is); (case l10 => k_is); (case c10 => k_is); (case k10 => k_is)
    (case a11 => k_is); (case l11 => k_is); (case c11 => k_is); (case k11 => k_is)
    (case a12 => k_is); (case l12 => k_is); (case c12 => k_is); (case k12 => k_is)
    (case a13 => k_is); (case l13 => k_is); (case c13 => k_is); (case k13 => k_is)
    (case a14 => k_is); (case l14 => k_is); (case c14 => k_is); (case k14 => k_is)
    (case a15 => k_is); (case l15 => k_is); (case c15 => k_is); (case k15 => k_is)
    (case a16 => k_is); (case l16 => k_is); (case c16 => k_is); (case k16 => k_is)
    (case a17 => k_is); (case l17 => k_is); (case c17 => k_is); (case k17 => k_is)
    (case a18 => k_is); (case l18 => k_is); (case c18 => k_is); (case k18 => k_is)
    (case a19 => k_is); (case l19 => k_is); (case c19 => k_is); (case k19 => k_is)
    (case a20 => k_is); (case l20 => k_is); (case c20 => k_is); (case k20 => k_is)
    (case a21 => k_is); (case l21 => k_is); (case c21 => k_is); (case k21 => k_is)
    (case a22 => k_is); (case l22 => k_is); (case c22 => k_is); (case k22 => k_is)
    (case a23 => k_is); (case l23 => k_is); (case c23 => k_is); (case k23 => k_is)
    (case a24 => k_is); (case l24 => k_is); (case c24 => k_is); (case k24 => k_is)
    (case a25 => k_is); (case l25 => k_is); (case c25 => k_is); (case k25 => k_is)
    (case a26 => k_is); (case l26 => k_is); (case c26 => k_is); (case k26 => k_is)
    (case a27 => k_is); (case l27 => k_is); (case c27 => k_is); (case k27 => k_is)
    (case a28 => k_is); (case l28 => k_is); (case c28 => k_is); (case k28 => k_is)
    (case a29 => k_is); (case l29 => k_is); (case c29 => k_is); (case k29 => k_is)
    (case a30 => k_is); (case l30 => k_is); (case c30 => k_is); (case k30 => k_is)
    (case a31 => k_is); (case l31 => k_is); (case c31 => k_is); (case k31 => k_is)
    (case a32 => k_is); (case l32 => k_is); (case c32 => k_is); (case k32 => k_is)
    (case a33 => k_is); (case l33 => k_is); (case c33 => k_is); (case k33 => k_is)
    (case a34 => k_is); (case l34 => k_is); (case c34 => k_is); (case k34 => k_is)
    (case a35 => k_is); (case l35 => k_is); (case c35 => k_is); (case k35 => k_is)
    (case a36 => k_is); (case l36 => k_is); (case c36 => k_is); (case k36 => k_is)
    (case a37 => k_is); (case l37 => k_is); (case c37 => k_is); (case k37 => k_is)
    (case a38 => k_is); (case l38 => k_is); (case c38 => k_is); (case k38 => k_is)
    (case a39 => k_is); (case l39 => k_is); (case c39 => k_is); (case k39 => k_is)
    (case a40 => k_is); (case l40 => k_is); (case c40 => k_is); (case k40 => k_is)
    (case a41 => k_is); (case l41 => k_is); (case c41 => k_is); (case k41 => k_is)
    (case gMOST_PLACES => k_is)
    (case gMOST_COLOURS => k_is)
    (case gMOST_CODES => k_is)
    (case gMOST_ASKS => k_is)
    (case yGuessError => k_is)
    (case yBadGame => k_is)
    (case yBadCode => k_is)
    (case xBadCode => k_exc)
    (case eBadCode => kts_exm)
    (case uBadCodeBadGame => kit_is)
    (case uBadCodeBadCode => kit_is)
    (case uBadCodeValueError => kit_is)
    (case q0BadCode => k_is)
    (case q1BadCode => k_is)
    (case q4BadCode => k_is)
    (case q2BadCode => k_is)
    (case q3BadCode => k_is)
    (case xBadGame => k_exc)
    (case eBadGame => kts_exm)
    (case uBadGameBadGame => kit_is)
    (case uBadGameBadCode => kit_is)
    (case uBadGameValueError => kit_is)
    (case q0BadGame => k_is)
    (case q1BadGame => k_is)
    (case q4BadGame => k_is)
    (case q2BadGame => k_is)
    (case q3BadGame => k_is)
    (case r1 => k_is)
    (case r2 => k_is)
    (case zValueError => k_is)
    (case zlen => k_is)
    (case zisinstance => k_is)
    (case zrange => k_is)
    (case zint => k_is)
    (case zbool => k_is)
    (case ztuple => k_is)
    (case zlist => k_is)
    (case zall => k_is)
    (case zenumerate => k_is)
    (case zzip => k_is)
    (case zsum => k_is)
    (case zsorted => k_is)
    (case zmax => k_is)
    (case zmin => k_is)
    (case zset => k_is)
    (case zstr => k_is)

