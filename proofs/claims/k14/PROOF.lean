import PyProof.Rows.All
import Wide.All
import OpenK.AllK
import Wide.FinOn
import Lean
import PyProof.EqAt
import PyProof.EqKinds
import PyProof.TupleCall
import PySem.Challenge.RW_guesscode_k14_other_names
set_option Elab.async false
set_option linter.all false
set_option maxRecDepth 100000
set_option maxHeartbeats 4000000
abbrev wB := @PySem.wpAny_bind
abbrev wP := @PySem.wpAny_pure
abbrev fI := @List.getElem?_eq_getElem
abbrev jX := @List.getD_eq_getElem?_getD
abbrev gy := @PySem.Heap.get?_push_of_some
abbrev jm := @PySem.Heap.get?_push_size
abbrev fG := @PySem.Heap.lt_size
abbrev nv := @List.mem_cons_of_mem
abbrev oW := @List.mem_cons_self
abbrev jn := @Nat.lt_of_lt_of_le
abbrev tR := @PySem.Heap.get?_update_other
abbrev Ej := @PySem.Heap.get?_update_self
abbrev xW := @Nat.le_of_lt
abbrev oX := @Nat.ne_of_lt
abbrev xX := @Nat.ne_of_gt
abbrev zA := @List.getElem?_cons_zero
abbrev zB := @List.getElem?_cons_succ
abbrev zC := @List.length_cons
abbrev zD := @Option.bind_some
abbrev zE := @List.set_cons_zero
abbrev zF := @List.set_cons_succ
abbrev zG := @Option.map_some
abbrev zH := @List.length_nil
abbrev zI := @List.map_cons
abbrev zJ := @List.length_map
abbrev zK := @List.getElem?_map
abbrev zL := @List.map_nil
abbrev zM := @List.size_toArray
abbrev zN := @Bool.false_eq_true
abbrev Fg := @PySem.W.Frag
abbrev zO := @List.map_map
abbrev zP := @List.mem_map_of_mem
abbrev zQ := @List.length_append
abbrev zR := @List.mem_of_find?_eq_some
abbrev zS := @Nat.not_lt_zero
abbrev zT := @Nat.lt_irrefl
abbrev zU := @Nat.zero_le
abbrev zV := @Option.some.inj
abbrev Q1 := @Array.getElem_mem
abbrev Q2 := @Nat.le_refl
abbrev Q3 := @Option.map_eq_some_iff
abbrev Q4 := @List.append_nil
abbrev Q5 := @Array.getElem?_eq_getElem
abbrev Q6 := @Array.length_toList
abbrev Q7 := @List.cons_append
abbrev Q8 := @List.getElem?_append_left
abbrev Q9 := @List.getElem?_append_right
abbrev Qa := @Bool.and_eq_true
abbrev Qb := @Nat.zero_add
abbrev Qc := @List.mem_map
abbrev Qd := @List.getElem?_replicate
abbrev Qe := @List.nil_append
abbrev Qf := @Nat.le_trans
abbrev vA := @Array.toList_append
abbrev yf := @List.getElem?_eq_some_iff
abbrev re := @List.lookup_cons
abbrev tM := @List.getElem_mem
abbrev tN := @List.all_eq_true
abbrev vB := @Array.toList_push
abbrev qS := @List.mem_cons
abbrev w9 := @Nat.sub_add_cancel
abbrev yg := @Array.mem_toList_iff
abbrev vC := @List.length_take
abbrev yl := @List.mem_append_right
abbrev ym := @List.length_replicate
abbrev yh := @Bool.false_ne_true
abbrev Ba := @List.take_append_drop
abbrev yo := @List.map_congr_left
abbrev wa := @List.length_set
abbrev DB := @Array.perm_iff_toList_perm
abbrev Bb := @List.pairwise_append
abbrev yp := @List.mem_singleton
abbrev xY := @List.mem_append
abbrev yq := @List.append_assoc
abbrev D8 := @Array.getD_eq_getD_getElem?
abbrev wb := @Bool.not_true
abbrev Bh := @List.getElem_of_mem
abbrev yi := @PySem.Heap.size_push
abbrev Ev := @List.take_succ_eq_append_getElem
abbrev yr := @Bool.not_false
abbrev Ek := @Array.getElem?_eq_some_iff
abbrev Bc := @List.map_append
abbrev El := @List.pairwise_iff_getElem
abbrev Em := @List.drop_eq_getElem_cons
abbrev D9 := @List.perm_append_comm
abbrev Bi := @Nat.le_add_right
abbrev Bj := @List.take_length
abbrev DC := @Nat.lt_succ_self
abbrev DD := @List.length_drop
abbrev DE := @List.getElem_inj
abbrev En := @Array.getElem?_toList
abbrev Db := @List.length_range
namespace L2
open PySem PySem.Spec PyProof.Rows
noncomputable abbrev i9 := Sum Int Str
noncomputable def DF : i9 -> Value -> Bool
 | .inl k, v => Value.isInt k v
 | .inr x, v => Value.isStrOf x v
noncomputable def Fw (w : World) : i9 -> Int
 | .inl k => hashInt k
 | .inr x => hashStr w x
theorem cP : ∀ {k : i9} {v : Value}, DF k v = true -> (∃ i t, k = Sum.inl i /\ v = Value.int i t) \/ (∃ x t, k = Sum.inr x /\ v = Value.str x t)
 | .inl i, v, h => by
  obtain ⟨t, e⟩ := Value.isInt_shape (k := i) (v := v) h
  exact .inl ⟨i, t, rfl, e⟩
 | .inr x, v, h => by
  obtain ⟨t, e⟩ := Value.isStrOf_shape (x := x) (v := v) h
  exact .inr ⟨x, t, rfl, e⟩
theorem Dd (a b : Int) : decide ((Sum.inl a : i9) = Sum.inl b) = (a == b) := by
 by_cases e : a = b
 · subst e; simp
 · have h : ¬ (Sum.inl a : i9) = Sum.inl b := λ q => e (Sum.inl.inj q)
   rw [decide_eq_false h]
   exact (beq_eq_false_iff_ne.mpr e).symm
theorem De (a b : Str) : decide ((Sum.inr a : i9) = Sum.inr b) = decide (a = b) := by
 by_cases e : a = b
 · subst e; simp
 · have h : ¬ (Sum.inr a : i9) = Sum.inr b := λ q => e (Sum.inr.inj q)
   rw [decide_eq_false h, decide_eq_false e]
theorem Df (a : Int) (b : Str) : decide ((Sum.inl a : i9) = Sum.inr b) = false := decide_eq_false (λ q => nomatch q)
theorem Dg (a : Str) (b : Int) : decide ((Sum.inr a : i9) = Sum.inl b) = false := decide_eq_false (λ q => nomatch q)
noncomputable def rf (prog : Program) (w : World) : PySem.KeyKind prog w i9 where
 is := DF
 hash := Fw w
 inj := λ v a b ha hb => by
  rcases cP ha with ⟨i, t, rfl, rfl⟩ | ⟨x, t, rfl, rfl⟩
  · rcases cP hb with ⟨j, u, rfl, e⟩ | ⟨y, u, rfl, e⟩
    · injection e with e1 _; rw [e1]
    · exact nomatch e
  · rcases cP hb with ⟨j, u, rfl, e⟩ | ⟨y, u, rfl, e⟩
    · exact nomatch e
    · injection e with e1 _; rw [e1]
 byValue := λ k v h => by
  rcases cP h with ⟨i, t, rfl, rfl⟩ | ⟨x, t, rfl, rfl⟩ <;> rfl
 pyHash := λ hv h => by
  rcases cP hv with ⟨i, t, rfl, rfl⟩ | ⟨x, t, rfl, rfl⟩
  · exact wpAny_pyHash_int h
  · exact wpAny_pyHash_str h
 eqBool := λ hu hv h => by
  rcases cP hu with ⟨i, t, rfl, rfl⟩ | ⟨x, t, rfl, rfl⟩
  · rcases cP hv with ⟨j, u, rfl, rfl⟩ | ⟨y, u, rfl, rfl⟩
    · rw [Dd] at h; exact wpAny_eqBool_int h
    · rw [Df] at h; exact SeqAt.EqAt.int_str i t y u _ _ _ _ h
  · rcases cP hv with ⟨j, u, rfl, rfl⟩ | ⟨y, u, rfl, rfl⟩
    · rw [Dg] at h; exact SeqAt.EqAt.str_int x t j u _ _ _ _ h
    · rw [De] at h; exact wpAny_eqBool_str h
 «strs» := λ k x t v h => by
  rcases cP h with ⟨i, u, rfl, e⟩ | ⟨y, u, rfl, e⟩
  · exact nomatch e
  · injection e with e1 _
    subst e1
    cases v <;> rfl
inductive V where
 | non | bl (b : Bool) | int (i : Int) | str (x : Str) | byt (b : Array UInt8) | flt (b : UInt64) | ref (a : Addr) | ty (n : String)
 deriving DecidableEq
noncomputable def RelV : V -> Value -> Prop
 | .non, u => u = Value.none
 | .bl b, u => u = Value.bool b
 | .int i, u => ∃ t, u = Value.int i t
 | .str x, u => ∃ t, u = Value.str x t
 | .byt b, u => ∃ t, u = Value.bytes b t
 | .flt b, u => ∃ t, u = Value.float b t
 | .ref a, u => u = Value.ref a
 | .ty n, u => u = Value.type n
abbrev Vals : List V -> List Value -> Prop := Paired RelV
theorem Vals.length {xs : List V} {us : List Value} (r : Vals xs us) : xs.length = us.length := Paired.length r
theorem Vals.get : ∀ {xs : List V} {us : List Value} {i : Nat} {x : V}, Vals xs us -> xs[i]? = some x -> ∃ u, us[i]? = some u /\ RelV x u
 | _, _, _, _, .nil, e => by simp at e
 | _, _, 0, _, .cons r _, e => by simp at e; subst e; exact ⟨_, rfl, r⟩
 | _, _, i + 1, x, .cons _ t, e => by
  obtain ⟨u, h1, h2⟩ := Vals.get (i := i) (x := x) t (by simpa using e)
  exact ⟨u, by simpa using h1, h2⟩
theorem Vals.set {x : V} {u : Value} (r : RelV x u) : ∀ {xs : List V} {us : List Value} (i : Nat), Vals xs us -> Vals (xs.set i x) (us.set i u)
 | _, _, _, .nil => .nil
 | _, _, 0, .cons _ t => .cons r t
 | _, _, i + 1, .cons q t => .cons q (Vals.set r i t)
theorem Vals.append {xs ys : List V} {us ws : List Value} (h : Vals xs us) (s : Vals ys ws) : Vals (xs ++ ys) (us ++ ws) := by
 induction h with
 | nil => exact s
 | cons r t ih => exact .cons r ih
theorem Vals.take : ∀ {xs : List V} {us : List Value} (n : Nat), Vals xs us -> Vals (xs.take n) (us.take n)
 | _, _, 0, _ => .nil
 | _, _, _ + 1, .nil => .nil
 | _, _, n + 1, .cons r t => .cons r (Vals.take n t)
theorem Vals.drop : ∀ {xs : List V} {us : List Value} (n : Nat), Vals xs us -> Vals (xs.drop n) (us.drop n)
 | _, _, 0, r => r
 | _, _, _ + 1, .nil => .nil
 | _, _, n + 1, .cons _ t => Vals.drop n t
noncomputable def RelO : Option V -> Option Value -> Prop
 | some v, some u => RelV v u
 | none, none => True
 | _, _ => False
def KV {κ : Type} : List (κ × V) -> List (κ × Value) -> Prop := Paired λ (p : κ × V) (q : κ × Value) => p.1 = q.1 /\ RelV p.2 q.2
noncomputable def kV : i9 -> V
 | .inl i => .int i
 | .inr x => .str x
inductive HO where
 | lst (xs : List V)
 | tup (xs : List V)
 | dK (kvs : List (i9 × V)) | dT (kvs : List (List i9 × V))
 | set (S : Int -> Bool) (n : Nat)
 | ins (C dx : Addr) (fs : List (Str × V))
 | own (x : Addr)
 | xd (fs : List (Str × V))
 | met (f x : Addr)
 | rng (lo hi : Int)
 | frz (o : Obj) (u : HO)
 | tbl (ps : Array Value)
 | ext (φ : Heap -> Prop)
noncomputable abbrev Hp := Addr -> Option HO
def cZ (H : Hp) (a : Addr) (o : HO) : Hp := λ b => if b = a then some o else H b
theorem ae {H : Hp} {a : Addr} {o : HO} : cZ H a o a = some o := by unfold cZ; rw [if_pos rfl]
theorem aZ {H : Hp} {a b : Addr} {o : HO} (h : b ≠ a) : cZ H a o b = H b := by unfold cZ; rw [if_neg h]
theorem aU {H : Hp} {a b : Addr} {o : HO} (h : H a = some o) (h' : H b = none) : a ≠ b := by
 intro e; subst e; rw [h] at h'; cases h'
section
variable (P : Program) (w : World)
noncomputable def ObjOk (H : Hp) (h : Heap) (a : Addr) : HO -> Prop
 | .lst xs => xs.length <= sizeLine /\ ∃ (its : List Value) (n : Nat), Vals xs its /\ h.get? a = some { cls := .type "list", data := .seq its.toArray n }
 | .tup xs => xs.length <= sizeLine /\ ∃ its : List Value, Vals xs its /\ IsTup h a its.toArray /\ ∃ ob, h.get? a = some ob /\ ob.dict = none
 | .dK kvs => kvs.length <= sizeLine /\ (a == sysModules) = false /\ ∃ vs, KV kvs vs /\ h.DictOf (rf P w) a vs
 | .dT kvs => kvs.length <= sizeLine /\ (a == sysModules) = false /\ ∃ xs : List (List i9 × Addr × Value),
  Paired (λ (p : List i9 × V) (q : List i9 × Addr × Value) => p.1 = q.1 /\ H q.2.1 = some (.tup (p.1.map kV)) /\ RelV p.2 q.2.2) kvs xs /\
  ∃ o es ep, h.get? a = some o /\ o.ExactDict /\ o.data = .dict es ep /\ es.toList = xs.map (entryOfKey (tupleKind (rf P w))) /\ (xs.map (·.1)).Nodup /\ ep = xs.length
 | .set S n => h.SetOf (intKind P w) a S n
 | .ins C dx fs => H dx = some (.own a) /\ fs.length <= 1000 /\ dx ≠ a /\ h.get? a = some (PySem.W.instObj C dx) /\
  ∃ mA, h.Ns1 dx mA /\ (∀ f, RelO (fs.lookup f) (mA f)) /\ PySem.Within mA (fs.map (·.1))
 | .own _ => ∃ o, h.get? a = some o
 | .xd fs => ∃ mA, h.Ns1 a mA /\ ∀ f, RelO (fs.lookup f) (mA f)
 | .rng lo hi => ∃ t u v, h.get? a = some { cls := .type "range", data := .fields #[.int lo t, .int hi u, .int 1 v] }
 | .frz o u => h.get? a = some o /\ ObjOk H h a u
 | .tbl ps => h.get? a = some { cls := .none, data := .fields #[] } \/ ∃ (c' : Addr) (o : Obj) (u : HO) (l c : Value) (q : Str) (t t2 : Tok) (vs : Array Value), ps = #[l, c, .str q t] /\ h.get? a = some { cls := .none, data := .fields #[l, c, .ref c'] } /\ H c' = some (.frz o u) /\ o.data = .fields vs /\ vs[1]? = some (.str q t2)
 | .met f x => h.get? a = some (PySem.W.methodObj (.ref f) (.ref x))
 | .ext φ => φ h /\ (∃ o, h.get? a = some o) /\ ∀ h1 h2 : Heap, φ h1 -> (∀ o, h1.get? a = some o -> h2.get? a = some o) -> φ h2
def HOk (H : Hp) (h : Heap) : Prop := ∀ a o, H a = some o -> ObjOk P w H h a o
end
section
variable {P : Program} {w : World} {H H' : Hp} {h h' : Heap} {a : Addr} {o : HO}
theorem ObjOk.lt (x : ObjOk P w H h a o) : a < h.objs.size := by
 cases o with
 | lst xs => obtain ⟨_, _, _, _, e⟩ := x; exact fG e
 | tup xs => obtain ⟨_, _, _, p, _⟩ := x; exact p.lt
 | dK kvs => obtain ⟨_, _, _, _, o, _, _, e, _⟩ := x; exact fG e
 | dT kvs => obtain ⟨_, _, _, _, o, _, _, e, _⟩ := x; exact fG e
 | set S n => obtain ⟨o, _, _, _, e, _⟩ := x; exact fG e
 | ins C dx fs => obtain ⟨_, _, _, e, _⟩ := x; exact fG e
 | own y => obtain ⟨_, e⟩ := x; exact fG e
 | xd fs => obtain ⟨_, ⟨_, _, _, e, _⟩, _⟩ := x; exact fG e
 | rng lo hi => obtain ⟨_, _, _, e⟩ := x; exact fG e
 | frz ob u => obtain ⟨e, _⟩ := x; exact fG e
 | tbl ps =>
  rcases x with e | ⟨c', o, u, l, c, q, t, t2, vs, _, e, _⟩
  · exact fG e
  · exact fG e
 | met f y => exact fG (show h.get? a = some _ from x)
 | ext φ => obtain ⟨_, ⟨_, e⟩, _⟩ := x; exact fG e
theorem Paired.mapP {α β : Type} {F G : α -> β -> Prop} {l₁ : List α} {l₂ : List β} (h : Paired F l₁ l₂) (f : ∀ a b, F a b -> G a b) : Paired G l₁ l₂ := by
 induction h with
 | nil => exact .nil
 | cons r t ih => exact .cons (f _ _ r) ih
theorem ObjOk.stay (x : ObjOk P w H h a o) (k : ∀ b u, (b = a \/ H b = some (.own a)) -> h.get? b = some u -> h'.get? b = some u)
 (ho : ∀ b, H b = some (.own a) -> H' b = some (.own a)) (ht : ∀ b xs, H b = some (.tup xs) -> H' b = some (.tup xs)) (hf : ∀ b o u, H b = some (.frz o u) -> H' b = some (.frz o u)) : ObjOk P w H' h' a o := by
 induction o with
 | lst xs => obtain ⟨z, its, n, r, e⟩ := x; exact ⟨z, its, n, r, k _ _ (.inl rfl) e⟩
 | tup xs => obtain ⟨z, its, r, ⟨ob, e, c⟩, o2, e2, c2⟩ := x; exact ⟨z, its, r, ⟨ob, k _ _ (.inl rfl) e, c⟩, o2, k _ _ (.inl rfl) e2, c2⟩
 | dK kvs => obtain ⟨z, y, vs, r, ob, es, ep, e, c⟩ := x; exact ⟨z, y, vs, r, ob, es, ep, k _ _ (.inl rfl) e, c⟩
 | dT kvs =>
  obtain ⟨z, y, xs, r, ob, es, ep, e, c⟩ := x
  exact ⟨z, y, xs, Paired.mapP r λ p q z => ⟨z.1, ht _ _ z.2.1, z.2.2⟩, ob, es, ep, k _ _ (.inl rfl) e, c⟩
 | set S n => obtain ⟨ob, es, ep, t, e, c⟩ := x; exact ⟨ob, es, ep, t, k _ _ (.inl rfl) e, c⟩
 | ins C dx fs =>
  obtain ⟨d, z, ne, e, mA, ⟨od, es, ep, e2, c⟩, r⟩ := x
  exact ⟨ho _ d, z, ne, k _ _ (.inl rfl) e, mA, ⟨od, es, ep, k _ _ (.inr d) e2, c⟩, r⟩
 | own y => obtain ⟨ob, e⟩ := x; exact ⟨ob, k _ _ (.inl rfl) e⟩
 | xd fs => obtain ⟨mA, ⟨od, es, ep, e, c⟩, r⟩ := x; exact ⟨mA, ⟨od, es, ep, k _ _ (.inl rfl) e, c⟩, r⟩
 | rng lo hi => obtain ⟨t, u, v, e⟩ := x; exact ⟨t, u, v, k _ _ (.inl rfl) e⟩
 | frz ob u ih => obtain ⟨e, q⟩ := x; exact ⟨k _ _ (.inl rfl) e, ih q⟩
 | tbl ps =>
  rcases x with e | ⟨c', o, u, l, c, q, t, t2, vs, e1, e2, e3, r⟩
  · exact Or.inl (k _ _ (.inl rfl) e)
  · exact Or.inr ⟨c', o, u, l, c, q, t, t2, vs, e1, k _ _ (.inl rfl) e2, hf _ _ _ e3, r⟩
 | met f y =>
  have e : h.get? a = some (PySem.W.methodObj (.ref f) (.ref y)) := x
  show h'.get? a = some (PySem.W.methodObj (.ref f) (.ref y))
  exact k a _ (.inl rfl) e
 | ext φ => obtain ⟨p, ⟨o, e⟩, st⟩ := x; exact ⟨st _ _ p λ o q => k _ _ (.inl rfl) q, ⟨o, k _ _ (.inl rfl) e⟩, st⟩
theorem HOk.lt (x : HOk P w H h) (e : H a = some o) : a < h.objs.size := (x a o e).lt
theorem HOk.fresh (x : HOk P w H h) (e : h.objs.size <= a) : H a = none := by
 cases q : H a with
 | none => rfl
 | some u => exact absurd (jn (x.lt q) e) (zT _)
theorem HOk.kept (x : HOk P w H h) (k : ∀ b u, h.get? b = some u -> h'.get? b = some u) : HOk P w H h' := λ a o e =>
 (x a o e).stay (λ b u _ q => k b u q) (λ _ q => q) (λ _ _ q => q) λ _ _ _ q => q
theorem HOk.laid (x : HOk P w H h) (k : ∀ b u, h.get? b = some u -> h'.get? b = some u) (hp : h.objs.size <= a) (new : ObjOk P w (cZ H a o) h' a o) : HOk P w (cZ H a o) h' := λ b u e => by
 have hn := x.fresh hp
 by_cases hb : b = a
 · subst hb; rw [ae] at e; cases e; exact new
 · rw [aZ hb] at e
   exact (x b u e).stay (λ c v _ q => k c v q) (λ c q => by rw [aZ (aU q hn)]; exact q) (λ c xs q => by rw [aZ (aU q hn)]; exact q) λ c ob xs q => by rw [aZ (aU q hn)]; exact q
end
def Rd (H : Hp) (a : Addr) (u : HO) : Prop := H a = some u \/ ∃ o, H a = some (.frz o u)
theorem Rd.ok {P : Program} {w : World} {H : Hp} {h : Heap} {a : Addr} {u : HO} (r : Rd H a u) (x : HOk P w H h) : ObjOk P w H h a u := by
 rcases r with r | ⟨o, r⟩
 · exact x a u r
 · obtain ⟨_, q⟩ := x a _ r
   exact q
noncomputable def Fi : Option HO -> Prop
 | some (.lst _) => True
 | some (.dK _) => True
 | some (.dT _) => True
 | some (.set _ _) => True
 | some (.ins _ _ _) => True
 | some (.ext _) => True
 | _ => False
section
variable {P : Program} {w : World} {H : Hp} {h h' : Heap} {x e : Addr} {o' : HO}
theorem HOk.write (ok : HOk P w H h) (mu : Fi (H x)) (he : e = x \/ H e = some (.own x)) (k : ∀ b u, b ≠ e -> h.get? b = some u -> h'.get? b = some u) (heo : ∃ u, h'.get? e = some u)
 (new : ObjOk P w (cZ H x o') h' x o') : HOk P w (cZ H x o') h' := λ b u q => by
 have nown : ∀ c y, H c = some (.own y) -> c ≠ x := λ c y r z => by subst z; rw [r] at mu; exact mu
 have ntup : ∀ c xs, H c = some (.tup xs) -> c ≠ x := λ c xs r z => by subst z; rw [r] at mu; exact mu
 have nfrz : ∀ c ob xs, H c = some (.frz ob xs) -> c ≠ x := λ c ob xs r z => by subst z; rw [r] at mu; exact mu
 by_cases hb : b = x
 · subst hb; rw [ae] at q; cases q; exact new
 · rw [aZ hb] at q
   by_cases hbe : b = e
   · have q' : H b = some (.own x) := by
      rcases he with z | z
      · exact absurd (hbe.trans z) hb
      · rw [hbe]; exact z
     rw [q] at q'; cases q'
     obtain ⟨v, hv⟩ := heo
     exact ⟨v, by rw [hbe]; exact hv⟩
   · refine (ok b u q).stay (λ c v hc r => k c v ?_ r) (λ c r => by rw [aZ (nown c b r)]; exact r) (λ c xs r => by rw [aZ (ntup c xs r)]; exact r) λ c ob xs r => by rw [aZ (nfrz c ob xs r)]; exact r
     rcases hc with rfl | hc
     · exact hbe
     · rintro rfl
       rcases he with z | z
       · exact nown c b hc z
       · rw [hc] at z; cases z; exact hb rfl
end
structure Un (fs ex : List Addr) (H H' : Hp) (h h' : Heap) : Prop where
 keep : ∀ b o, h.get? b = some o -> H b = none -> b ∉ fs -> b ∉ ex -> h'.get? b = some o
 slot : ∀ b o, h.get? b = some o -> H b = none -> b ∈ fs -> b ∉ ex -> ∃ sl, h'.get? b = some { o with slots := sl }
 free : ∀ b o, h.get? b = some o -> H b = none -> b ∉ ex -> H' b = none
 there : ∀ b o, h.get? b = some o -> b ∉ ex -> ∃ o', h'.get? b = some o'
 tups : ∀ b xs, H b = some (.tup xs) -> H' b = some (.tup xs)
 frzs : ∀ b o u, H b = some (.frz o u) -> H' b = some (.frz o u)
 tbls : ∀ b ps, H b = some (.tbl ps) -> ∃ more, H' b = some (.tbl (ps ++ more))
section
variable {fs fs' ex ex' : List Addr} {H H1 H2 : Hp} {h h1 h2 h' : Heap} {a x e : Addr} {o : HO}
theorem Un.any (u : Un fs ex H H1 h h1) {b : Addr} {ob : Obj} (q : h.get? b = some ob) (n : H b = none) (hx : b ∉ ex) : ∃ sl, h1.get? b = some { ob with slots := sl } := by
 by_cases hb : b ∈ fs
 · exact u.slot b ob q n hb hx
 · exact ⟨ob.slots, u.keep b ob q n hb hx⟩
theorem Un.kept (k : ∀ b u, h.get? b = some u -> h'.get? b = some u) : Un fs ex H H h h' :=
 ⟨λ b ob q _ _ _ => k b ob q, λ b ob q _ _ _ => ⟨ob.slots, k b ob q⟩, λ _ _ _ n _ => n, λ b ob q _ => ⟨ob, k b ob q⟩, λ _ _ q => q, λ _ _ _ q => q, λ _ ps q => ⟨#[], by rw [q]; simp⟩⟩
theorem Un.refl : Un fs ex H H h h := Un.kept λ _ _ q => q
theorem Un.laid (k : ∀ b u, h.get? b = some u -> h'.get? b = some u) (hp : h.objs.size <= a) (hn : H a = none) : Un fs ex H (cZ H a o) h h' where
 keep := λ b u q _ _ _ => k b u q
 slot := λ b u q _ _ _ => ⟨u.slots, k b u q⟩
 free := λ b u q n _ => by rw [aZ (oX (jn (fG q) hp))]; exact n
 there := λ b u q _ => ⟨u, k b u q⟩
 tups := λ b xs q => by rw [aZ (aU q hn)]; exact q
 frzs := λ b u xs q => by rw [aZ (aU q hn)]; exact q
 tbls := λ b ps q => ⟨#[], by rw [aZ (aU q hn), q]; simp⟩
theorem Un.write (mu : Fi (H x)) (he : e = x \/ H e = some (.own x)) (k : ∀ b u, b ≠ e -> h.get? b = some u -> h'.get? b = some u) (heo : ∃ u, h'.get? e = some u) : Un fs ex H (cZ H x o) h h' := by
 have hx : ∀ b, H b = none -> b ≠ x := λ b n z => by subst z; rw [n] at mu; exact mu
 have hb : ∀ b, H b = none -> b ≠ e := λ b n z => by
  subst z
  rcases he with r | r
  · exact hx b n r
  · rw [n] at r; cases r
 have hm : ∀ b u, H b = some u -> ¬ Fi (some u) -> b ≠ x := λ b u q nm z => by subst z; rw [q] at mu; exact nm mu
 refine ⟨λ b u q n _ _ => k b u (hb b n) q, λ b u q n _ _ => ⟨u.slots, k b u (hb b n) q⟩, λ b u q n _ => by rw [aZ (hx b n)]; exact n, λ b u q _ => ?_,
  λ b xs q => by rw [aZ (hm b _ q λ z => z)]; exact q, λ b u xs q => by rw [aZ (hm b _ q λ z => z)]; exact q, λ b ps q => ⟨#[], by rw [aZ (hm b _ q λ z => z), q]; simp⟩⟩
 by_cases hbe : b = e
 · subst hbe; exact heo
 · exact ⟨u, k b u hbe q⟩
end
noncomputable def Fj (h : Heap) (H : Hp) : List Addr := (List.range h.objs.size).filter λ a => (H a).isSome
noncomputable def rh (h : Heap) (H : Hp) : Heap := PySem.W.hideAll h (Fj h H)
theorem xZ (h : Heap) (H : Hp) : (rh h H).objs.size = h.objs.size := PySem.W.hideAll_size _ _
theorem oY {h : Heap} {H : Hp} {b : Addr} {o : Obj} (e : h.get? b = some o) (n : H b = none) : (rh h H).get? b = some o :=
 PySem.W.hideAll_get _ e λ hm => by
  have q : (H b).isSome = true := (List.mem_filter.mp hm).2
  rw [n] at q; simp at q
theorem Bk {h : Heap} {H : Hp} {b : Addr} {o : Obj} (e : (rh h H).get? b = some o) : h.get? b = some o /\ H b = none := by
 have e' : h.get? b = some o := PySem.W.of_hideAll (Fj h H) e
 refine ⟨e', ?_⟩
 cases q : H b with
 | none => rfl
 | some x =>
  have hm : b ∈ Fj h H := List.mem_filter.mpr ⟨List.mem_range.mpr (fG e'), by simp [q]⟩
  have z : (rh h H).get? b = none := PySem.W.hideAll_none (Fj h H) hm
  rw [z] at e; cases e
noncomputable def Bl (g h : Heap) (L : Addr) : List (Addr × Obj) := (List.range h.objs.size).filterMap λ a => if a = L \/ (g.get? a).isSome = true then none else (h.get? a).map λ o => (a, o)
noncomputable def iB (g h : Heap) (L d : Addr) : List (Addr × Obj) := (Bl g h L).filter λ p => decide (p.1 ≠ d)
structure Mod (K : Fg) (mg : Str -> Option Value) (base : Heap) : Prop where
 kin : K.In base
 glob : base.Ns mainGlobals mg
 blt : ∃ mb, base.Ns builtinsNs mb /\ ∀ x : Str, x ≠ "__name__" -> mb x = bootBuiltins x
 nolimit : base.NoLimit
structure Cx where
 prog : Program
 w : World
 K : Fg
 mg : Str -> Option Value
 base : Heap
 A : Around
 N : List Str
 s₀ : Shared
 H₀ : Hp
 env : Env
 outer : List Env
 stack : List Env
 ex : List Addr
 fn : Str -> Bool
 calm : Bool
 pn : List (Addr × Obj)
 xe : Value -> Shared -> Prop
noncomputable def jV (l : List Env) : List Addr := l.filterMap (·.frame)
noncomputable abbrev Cx.fs (X : Cx) : List Addr := jV X.outer
def Ew (sc : Scope) (x : Str) : Prop := sc.names.lookup x = some .local \/ sc.names.lookup x = some .cell \/ sc.names.lookup x = some .free
def DG (sc : Scope) (x : Str) : Prop := sc.names.lookup x = some .local \/ sc.names.lookup x = some .cell
def Ey (env : Env) (h : Heap) (m : Str -> Option Value) (x : Str) (u : Value) : Prop :=
 (env.kindOf x = some .local /\ m x = some u) \/ ((env.kindOf x = some .cell \/ env.kindOf x = some .free) /\ ∃ c, env.cells.lookup x = some c /\ h.IsCell c (some u))
structure Cx.Ok (X : Cx) : Prop where
 mod : Mod X.K X.mg X.base
 kind : X.env.scope.kind = .function
 glob : X.env.globals = mainGlobals
 blt : X.env.builtins = builtinsNs
 above : X.s₀.heap.objs.size <= X.env.locals
 inj : ∀ x y c, X.env.cells.lookup x = some c -> X.env.cells.lookup y = some c -> x = y
 has : ∀ x, (X.env.kindOf x = some .cell \/ X.env.kindOf x = some .free) -> ∃ c, X.env.cells.lookup x = some c
 cab : ∀ x c, X.fn x = true -> X.env.cells.lookup x = some c -> X.s₀.heap.objs.size <= c
 hd : X.calm = true -> X.A.handled = none
 frames : X.A.frames = some X.stack
 stk : X.stack = X.outer \/ (X.stack = X.env :: X.outer /\ X.env.frame = some X.env.locals)
 exf : ∀ b ∈ X.ex, b ≠ X.env.locals /\ ∀ x c, X.env.cells.lookup x = some c -> c ≠ b
 bs : ∀ b o, X.base.get? b = some o -> X.s₀.heap.get? b = some o /\ X.H₀ b = none
 bsz : X.base.objs.size <= X.s₀.heap.objs.size
 noex : ∀ b o, X.base.get? b = some o -> b ∉ X.ex
 exfs : ∀ b ∈ X.ex, b ∉ X.fs
 funs : X.s₀.heap.FunFrames X.base X.outer
 frf : ∀ b ∈ X.fs, X.H₀ b = none
structure Inv (X : Cx) (pins : List (Addr × Obj)) (σ : List (Option V)) (H : Hp) (s : Shared) : Prop where
 ok : X.Ok
 os : s.os = X.s₀.os
 bare : AllBare s.gens
 base : Un X.fs X.ex X.H₀ H X.s₀.heap s.heap
 loc : ∃ m, s.heap.Ns X.env.locals m /\ ∀ (i : Nat) (x : Str) (v : V), X.N[i]? = some x -> σ[i]? = some (some v) -> Ew X.env.scope x -> ∃ u, RelV v u /\ Ey X.env s.heap m x u
 cell : ∀ x c, X.env.cells.lookup x = some c -> ∃ v, s.heap.IsCell c v
 free : H X.env.locals = none
 freeC : ∀ x c, X.env.cells.lookup x = some c -> H c = none
 pin : ∀ p ∈ X.pn ++ pins, s.heap.get? p.1 = some p.2 /\ H p.1 = none /\ p.1 ≠ X.env.locals /\ p.1 ∉ X.fs /\ ∀ v, p.2.data ≠ .cell v
 hok : HOk X.prog X.w H s.heap
 len : σ.length = X.N.length
section
variable {X : Cx} {pins : List (Addr × Obj)} {σ : List (Option V)} {H H' : Hp} {s : Shared} {h' : Heap}
theorem Cx.Ok.nofr (ok : X.Ok) {b : Addr} {o : Obj} (e : X.base.get? b = some o) : b ∉ X.fs := λ hb => by
 have := (ok.funs.mem hb).1
 rw [e] at this; cases this
theorem Inv.bs (I : Inv X pins σ H s) : ∀ b o, X.base.get? b = some o -> s.heap.get? b = some o /\ H b = none := λ b o e =>
 ⟨I.base.keep b o (I.ok.bs b o e).1 (I.ok.bs b o e).2 (I.ok.nofr e) (I.ok.noex b o e), I.base.free b o (I.ok.bs b o e).1 (I.ok.bs b o e).2 (I.ok.noex b o e)⟩
theorem Inv.bk (I : Inv X pins σ H s) : ∀ b o, X.base.get? b = some o -> s.heap.get? b = some o := λ b o e => (I.bs b o e).1
theorem Inv.mod (I : Inv X pins σ H s) : Mod X.K X.mg X.base := I.ok.mod
theorem Inv.kIn (I : Inv X pins σ H s) : X.K.In s.heap := I.ok.mod.kin.keeps I.bk
theorem Inv.lt (I : Inv X pins σ H s) : X.env.locals < s.heap.objs.size := let ⟨_, hn, _⟩ := I.loc; hn.lt
theorem Inv.sz (I : Inv X pins σ H s) : X.s₀.heap.objs.size <= s.heap.objs.size := Qf I.ok.above (xW I.lt)
theorem Inv.nofs (I : Inv X pins σ H s) {a : Addr} (h : s.heap.objs.size <= a) : a ∉ X.fs := λ hb => by
 obtain ⟨_, o, ho, _⟩ := I.ok.funs.mem hb
 exact absurd (jn (fG ho) (Qf I.sz h)) (zT _)
theorem Inv.cne (I : Inv X pins σ H s) : ∀ x c, X.env.cells.lookup x = some c -> c ≠ X.env.locals := λ x c e z => by
 obtain ⟨v, o, ho, hd⟩ := I.cell x c e
 obtain ⟨m, ⟨o', es, ep, ho', hd', _⟩, _⟩ := I.loc
 rw [z, ho'] at ho; cases ho; rw [hd'] at hd; cases hd
theorem Inv.funs (I : Inv X pins σ H s) : s.heap.FunFrames X.base X.outer := by
 have all : ∀ (l : List Env), (∀ b ∈ jV l, b ∈ X.fs) -> X.s₀.heap.FunFrames X.base l -> s.heap.FunFrames X.base l := by
  intro l
  induction l with
  | nil => intro _ _; trivial
  | cons env r ih =>
   intro hs hl
   obtain ⟨hk, ⟨L, o, hf, hn, ho, hd⟩, hr⟩ := hl
   have hL : L ∈ X.fs := hs L (by unfold jV; rw [List.filterMap_cons, hf]; exact oW)
   obtain ⟨sl, e⟩ := I.base.slot L o ho (I.ok.frf L hL) hL λ z => I.ok.exfs L z hL
   exact ⟨hk, ⟨L, _, hf, hn, e, hd⟩, ih (λ b hb => hs b (by unfold jV; rw [List.filterMap_cons, hf]; exact nv _ hb)) hr⟩
 exact all X.outer (λ _ hb => hb) I.ok.funs
theorem Inv.stack (I : Inv X pins σ H s) : s.heap.FunFrames X.base X.stack := by
 rcases I.ok.stk with e | ⟨e, hf⟩
 · rw [e]; exact I.funs
 · rw [e]
   obtain ⟨m, hn, _⟩ := I.loc
   refine .cons (by rw [I.ok.kind]; decide) hf hn ?_ I.funs
   exact Heap.get?_none_of_le (Qf I.ok.bsz I.ok.above)
theorem Inv.stkSub (I : Inv X pins σ H s) : ∀ b ∈ jV X.stack, b ∈ X.env.locals :: X.fs := λ b hb => by
 rcases I.ok.stk with e | ⟨e, hf⟩
 · rw [e] at hb; exact nv _ hb
 · rw [e] at hb
   unfold jV at hb
   rw [List.filterMap_cons, hf] at hb
   exact hb
theorem Inv.stkFree (I : Inv X pins σ H s) : ∀ b ∈ jV X.stack, H b = none := λ b hb => by
 rcases qS.mp (I.stkSub b hb) with e | hb
 · rw [e]; exact I.free
 · obtain ⟨_, o, ho, _⟩ := I.ok.funs.mem hb
   exact I.base.free b o ho (I.ok.frf b hb) λ z => I.ok.exfs b z hb
theorem Inv.step {g' : Array GenState} {t' : Nat} {d' : Drawn} {ch : List Addr} (I : Inv X pins σ H s)
 (hch : ∀ b ∈ ch, (b ∈ X.ex \/ X.s₀.heap.objs.size <= b) /\ b ≠ X.env.locals /\ (∀ x c, X.env.cells.lookup x = some c -> c ≠ b) /\ ∀ p ∈ X.pn ++ pins, p.1 ≠ b)
 (keep : ∀ b o, b ≠ X.env.locals -> b ∉ X.fs -> b ∉ ch -> s.heap.get? b = some o -> H b = none -> h'.get? b = some o)
 (slot : ∀ b o, b ≠ X.env.locals -> b ∈ X.fs -> b ∉ ch -> s.heap.get? b = some o -> H b = none -> ∃ sl, h'.get? b = some { o with slots := sl }) (free : ∀ b o, b ∉ ch -> s.heap.get? b = some o -> H b = none -> H' b = none)
 (there : ∀ b o, b ∉ ch -> s.heap.get? b = some o -> ∃ o', h'.get? b = some o')
 (tups : ∀ b xs, H b = some (.tup xs) -> H' b = some (.tup xs)) (frzs : ∀ b o u, H b = some (.frz o u) -> H' b = some (.frz o u)) (tbls : ∀ b ps, H b = some (.tbl ps) -> ∃ more, H' b = some (.tbl (ps ++ more)))
 (ns : ∀ m, s.heap.Ns X.env.locals m -> h'.Ns X.env.locals m) (hok : HOk X.prog X.w H' h') (hg : AllBare g') :
 Inv X pins σ H' { s with heap := h', gens := g', drawn := d', toks := t' } := by
 have neL : ∀ b o, X.s₀.heap.get? b = some o -> b ≠ X.env.locals := λ b o e => oX (jn (fG e) I.ok.above)
 have neC : ∀ b o, X.s₀.heap.get? b = some o -> b ∉ X.ex -> b ∉ ch := λ b o e hx hb => by
  rcases (hch b hb).1 with z | z
  · exact hx z
  · exact absurd (jn (fG e) z) (zT _)
 have cellK : ∀ x c, X.env.cells.lookup x = some c -> ∀ v, s.heap.IsCell c v -> h'.IsCell c v := λ x c e v ⟨o, ho, hd⟩ => by
  have nch : c ∉ ch := λ z => (hch c z).2.2.1 x c e rfl
  by_cases hc : c ∈ X.fs
  · obtain ⟨sl, q⟩ := slot c o (I.cne x c e) hc nch ho (I.freeC x c e)
    exact ⟨_, q, hd⟩
  · exact ⟨o, keep c o (I.cne x c e) hc nch ho (I.freeC x c e), hd⟩
 refine ⟨I.ok, I.os, hg, ⟨λ b o e n hb hx => ?_, λ b o e n hb hx => ?_, λ b o e n hx => ?_, λ b o e hx => ?_, λ b xs e => tups b xs (I.base.tups b xs e), λ b o xs e => frzs b o xs (I.base.frzs b o xs e), λ b ps e => ?_⟩, ?_, λ x c e => ?_, ?_, λ x c e => ?_, λ p hp => ?_, hok, I.len⟩
 · exact keep b o (neL b o e) hb (neC b o e hx) (I.base.keep b o e n hb hx) (I.base.free b o e n hx)
 · obtain ⟨sl, e1⟩ := I.base.slot b o e n hb hx
   obtain ⟨sl', e2⟩ := slot b _ (neL b o e) hb (neC b o e hx) e1 (I.base.free b o e n hx)
   exact ⟨sl', e2⟩
 · obtain ⟨o', e1⟩ := I.base.there b o e hx
   exact free b o' (neC b o e hx) e1 (I.base.free b o e n hx)
 · obtain ⟨o', e1⟩ := I.base.there b o e hx
   exact there b o' (neC b o e hx) e1
 · obtain ⟨m1, e1⟩ := I.base.tbls b ps e
   obtain ⟨m2, e2⟩ := tbls b _ e1
   exact ⟨m1 ++ m2, by rw [e2, Array.append_assoc]⟩
 · obtain ⟨m, hn, hl⟩ := I.loc
   refine ⟨m, ns m hn, λ i x v e1 e2 e3 => ?_⟩
   obtain ⟨u, r, l⟩ := hl i x v e1 e2 e3
   refine ⟨u, r, ?_⟩
   rcases l with l | ⟨k, c, e, z⟩
   · exact .inl l
   · exact .inr ⟨k, c, e, cellK x c e _ z⟩
 · obtain ⟨v, z⟩ := I.cell x c e
   exact ⟨v, cellK x c e v z⟩
 · obtain ⟨m, ⟨o, _, _, ho, _⟩, _⟩ := I.loc
   exact free _ o (λ z => (hch _ z).2.1 rfl) ho I.free
 · obtain ⟨v, o, ho, hd⟩ := I.cell x c e
   exact free c o (λ z => (hch c z).2.2.1 x c e rfl) ho (I.freeC x c e)
 · obtain ⟨e, n, ne, nf, d⟩ := I.pin p hp
   have nch : p.1 ∉ ch := λ z => (hch p.1 z).2.2.2 p hp rfl
   exact ⟨keep p.1 p.2 ne nf nch e n, free p.1 p.2 nch e n, ne, nf, d⟩
theorem Inv.un {t' : Nat} (I : Inv X pins σ H s) (u : Un X.fs [] H H' s.heap h') (hok : HOk X.prog X.w H' h') : Inv X pins σ H' { s with heap := h', toks := t' } := by
 obtain ⟨m, ⟨o, es, ep, ho, r⟩, _⟩ := id I.loc
 obtain ⟨sl, hL⟩ := u.any ho I.free (by simp)
 exact I.step (g' := s.gens) (d' := s.drawn) (ch := []) (λ _ z => nomatch z) (λ b o _ hb _ e n => u.keep b o e n hb (by simp)) (λ b o _ hb _ e n => u.slot b o e n hb (by simp)) (λ b o _ e n => u.free b o e n (by simp)) (λ b o _ e => u.there b o e (by simp)) u.tups u.frzs u.tbls (λ m' hm => by
  obtain ⟨o', es', ep', ho', r'⟩ := hm
  rw [ho] at ho'; cases ho'
  exact ⟨_, es', ep', hL, r'⟩) hok I.bare
theorem Inv.call {g' : Array GenState} {t' : Nat} {d' : Drawn} {ch : List Addr} (I : Inv X pins σ H s) (u : Un (jV X.stack) ch H H' s.heap h') (hok : HOk X.prog X.w H' h') (hg : AllBare g')
 (hch : ∀ b ∈ ch, (b ∈ X.ex \/ X.s₀.heap.objs.size <= b) /\ b ≠ X.env.locals /\ (∀ x c, X.env.cells.lookup x = some c -> c ≠ b) /\ ∀ p ∈ X.pn ++ pins, p.1 ≠ b) :
 Inv X pins σ H' { s with heap := h', gens := g', drawn := d', toks := t' } := by
 obtain ⟨m, ⟨o, es, ep, ho, r⟩, _⟩ := id I.loc
 obtain ⟨sl, hL⟩ := u.any ho I.free λ z => (hch _ z).2.1 rfl
 exact I.step (ch := ch) hch (λ b o hL hb hc e n => u.keep b o e n (λ z => (qS.mp (I.stkSub b z)).elim hL hb) hc) (λ b o _ _ hc e n => u.any e n hc) (λ b o hc e n => u.free b o e n hc) (λ b o hc e => u.there b o e hc) u.tups u.frzs u.tbls (λ m' hm => by
  obtain ⟨o', es', ep', ho', r'⟩ := hm
  rw [ho] at ho'; cases ho'
  exact ⟨_, es', ep', hL, r'⟩) hok hg
theorem Inv.turned {t' : Nat} {it : Addr} (I : Inv X pins σ H s) (k : ∀ b o, b ≠ it -> s.heap.get? b = some o -> h'.get? b = some o) (hn : H it = none) (hL : it ≠ X.env.locals)
 (h1 : it ∈ X.ex \/ X.s₀.heap.objs.size <= it) (h2 : ∀ x c, X.env.cells.lookup x = some c -> c ≠ it) (h3 : ∀ p ∈ X.pn ++ pins, p.1 ≠ it) : Inv X pins σ H { s with heap := h', toks := t' } := by
 have nit : ∀ b u, H b = some u -> b ≠ it := λ b u e z => by rw [z, hn] at e; cases e
 refine I.step (g' := s.gens) (d' := s.drawn) (ch := [it]) (λ b hb => ?_) (λ b o _ _ hc e _ => k b o (λ z => hc (by simp [z])) e) (λ b o _ _ hc e _ => ⟨o.slots, k b o (λ z => hc (by simp [z])) e⟩) (λ _ _ _ _ n => n)
  (λ b o hc e => ⟨o, k b o (λ z => hc (by simp [z])) e⟩) (λ _ _ e => e) (λ _ _ _ e => e) (λ b ps e => ⟨#[], by rw [e]; simp⟩) (λ m hm => ?_) (λ b u e => ?_) I.bare
 · have e : b = it := by simpa using hb
   subst e
   exact ⟨h1, hL, h2, h3⟩
 · obtain ⟨o, es, ep, ho, r⟩ := hm
   exact ⟨o, es, ep, k _ o (Ne.symm hL) ho, r⟩
 · refine (I.hok b u e).stay (λ c v hc q => k c v ?_ q) (λ _ q => q) (λ _ _ q => q) λ _ _ _ q => q
   rcases hc with z | z
   · rw [z]; exact nit b u e
   · exact nit c _ z
theorem Inv.tok (I : Inv X pins σ H s) (t : Nat) : Inv X pins σ H { s with toks := t } := I.un (h' := s.heap) (t' := t) Un.refl I.hok
theorem Inv.kept {t' : Nat} (I : Inv X pins σ H s) (k : ∀ b u, s.heap.get? b = some u -> h'.get? b = some u) : Inv X pins σ H { s with heap := h', toks := t' } := I.un (Un.kept k) (I.hok.kept k)
theorem Inv.laid {a : Addr} {o : HO} {t' : Nat} (I : Inv X pins σ H s) (k : ∀ b u, s.heap.get? b = some u -> h'.get? b = some u) (hp : s.heap.objs.size <= a) (new : ObjOk X.prog X.w (cZ H a o) h' a o) :
 Inv X pins σ (cZ H a o) { s with heap := h', toks := t' } := I.un (Un.laid k hp (I.hok.fresh hp)) (I.hok.laid k hp new)
theorem Inv.write {x e : Addr} {o : HO} {t' : Nat} (I : Inv X pins σ H s) (mu : Fi (H x)) (he : e = x \/ H e = some (.own x)) (k : ∀ b u, b ≠ e -> s.heap.get? b = some u -> h'.get? b = some u) (heo : ∃ u, h'.get? e = some u)
 (new : ObjOk X.prog X.w (cZ H x o) h' x o) : Inv X pins σ (cZ H x o) { s with heap := h', toks := t' } := I.un (Un.write mu he k heo) (I.hok.write mu he k heo new)
theorem Inv.pins_of {pins' : List (Addr × Obj)} (I : Inv X pins σ H s) (h : ∀ p ∈ pins', s.heap.get? p.1 = some p.2 /\ H p.1 = none /\ p.1 ≠ X.env.locals /\ p.1 ∉ X.fs /\ ∀ v, p.2.data ≠ .cell v) : Inv X pins' σ H s :=
 ⟨I.ok, I.os, I.bare, I.base, I.loc, I.cell, I.free, I.freeC, λ p hp => (xY.mp hp).elim (λ z => I.pin p (List.mem_append_left _ z)) (h p), I.hok, I.len⟩
theorem oZ {N : List Str} (hN : N.Nodup) {i j : Nat} {x : Str} (a : N[i]? = some x) (b : N[j]? = some x) : i = j := by
 obtain ⟨h1, e1⟩ := yf.mp a
 obtain ⟨h2, e2⟩ := yf.mp b
 exact (DE hN).mp (e1.trans e2.symm)
theorem qo {M : Model} {A : Around} {E : Value -> Shared -> Prop} {i : Nat} {x : Str} {v : V} {u : Value} {Q : Unit -> Shared -> Prop} (I : Inv X pins σ H s) (hN : X.N.Nodup) (hi : X.N[i]? = some x) (hx : DG X.env.scope x) (r : RelV v u)
 (h : ∀ s', Inv X pins (σ.set i (some v)) H s' -> (∃ a, Heap.SameBut a s.heap s'.heap /\ (a = X.env.locals \/ X.env.cells.lookup x = some a)) -> Q () s') (hf : X.fn x = true \/ X.env.scope.names.lookup x = some .local := by first | exact .inl rfl | exact .inr rfl | assumption) : wpAny M A (storeName X.env x u) Q E s := by
 obtain ⟨m, hn, hl⟩ := id I.loc
 have hcls : (X.env.scope.kind == .class || (X.env.scope.kind == .module && X.env.locals != X.env.globals)) = false := by rw [I.ok.kind]; rfl
 have hiσ : i < σ.length := by rw [I.len]; exact (yf.mp hi).1
 have cne := I.cne
 have tracked : ∀ {a : Addr} {h' : Heap}, (∃ o, s.heap.get? a = some o /\ H a = none) -> Heap.SameBut a s.heap h' -> HOk X.prog X.w H h' := λ {a h'} ha hs b ob e => by
  obtain ⟨_, _, hfree⟩ := ha
  refine (I.hok b ob e).stay (λ c w' hc q => (hs.2 c ?_).trans q) (λ _ q => q) (λ _ _ q => q) λ _ _ _ q => q
  rintro rfl
  rcases hc with rfl | hc
  · rw [hfree] at e; cases e
  · rw [hfree] at hc; cases hc
 rcases hx with hk | hk
 · refine wpAny_storeName_local hk hn (λ h' hn' hs => ?_) hcls
   obtain ⟨oL, _, _, hoL, _⟩ := id hn
   refine h _ ⟨I.ok, I.os, I.bare, ⟨λ b o e n hb hx => ?_, λ b o e n hb hx => ?_, I.base.free, λ b o e hx => ?_, I.base.tups, I.base.frzs, I.base.tbls⟩, ⟨_, hn', λ j y v' e1 e2 e3 => ?_⟩, λ y c e => ?_, I.free, I.freeC, λ p hp => ?_, tracked ⟨oL, hoL, I.free⟩ hs, by simpa using I.len⟩ ⟨_, hs, .inl rfl⟩
   · exact (hs.2 b (oX (jn (fG e) I.ok.above))).trans (I.base.keep b o e n hb hx)
   · obtain ⟨sl, e1⟩ := I.base.slot b o e n hb hx
     exact ⟨sl, (hs.2 b (oX (jn (fG e) I.ok.above))).trans e1⟩
   · obtain ⟨o', e1⟩ := I.base.there b o e hx
     exact ⟨o', (hs.2 b (oX (jn (fG e) I.ok.above))).trans e1⟩
   · by_cases hj : j = i
     · subst hj
       rw [hi] at e1; cases e1
       rw [List.getElem?_set_self hiσ] at e2
       cases e2
       exact ⟨u, r, .inl ⟨hk, by simp⟩⟩
     · rw [List.getElem?_set_ne (Ne.symm hj)] at e2
       obtain ⟨u', r', q⟩ := hl j y v' e1 e2 e3
       refine ⟨u', r', ?_⟩
       rcases q with ⟨k, e⟩ | ⟨k, c, e, z⟩
       · refine .inl ⟨k, ?_⟩
         have : y ≠ x := λ e => hj (oZ hN e1 (e ▸ hi))
         simp [this, e]
       · exact .inr ⟨k, c, e, z.sameBut hs (cne y c e)⟩
   · obtain ⟨w', z⟩ := I.cell y c e
     exact ⟨w', z.sameBut hs (cne y c e)⟩
   · obtain ⟨e, n, ne, nf, d⟩ := I.pin p hp
     exact ⟨(hs.2 p.1 ne).trans e, n, ne, nf, d⟩
 · have hfn : X.fn x = true := by
    rcases hf with z | z
    · exact z
    · rw [z] at hk; cases hk
   obtain ⟨c, hc⟩ := I.ok.has x (.inl hk)
   obtain ⟨w', z⟩ := I.cell x c hc
   refine wpAny_storeName_cell I.ok.kind hk hc z (λ h' hc' hs => ?_)
   obtain ⟨oc, hoc, hocd⟩ := id z
   refine h { s with heap := h' } ⟨I.ok, I.os, I.bare, ⟨λ b o e n hb hx => ?_, λ b o e n hb hx => ?_, I.base.free, λ b o e hx => ?_, I.base.tups, I.base.frzs, I.base.tbls⟩, ⟨m, hn.sameBut hs (Ne.symm (cne x c hc)), λ j y v' e1 e2 e3 => ?_⟩, λ y c' e => ?_, I.free, I.freeC, λ p hp => ?_, tracked ⟨oc, hoc, I.freeC x c hc⟩ hs, by simpa using I.len⟩ ⟨c, hs, .inr hc⟩
   · exact (hs.2 b (oX (jn (fG e) (I.ok.cab x c hfn hc)))).trans (I.base.keep b o e n hb hx)
   · obtain ⟨sl, e1⟩ := I.base.slot b o e n hb hx
     exact ⟨sl, (hs.2 b (oX (jn (fG e) (I.ok.cab x c hfn hc)))).trans e1⟩
   · obtain ⟨o', e1⟩ := I.base.there b o e hx
     exact ⟨o', (hs.2 b (oX (jn (fG e) (I.ok.cab x c hfn hc)))).trans e1⟩
   · by_cases hj : j = i
     · subst hj
       rw [hi] at e1; cases e1
       rw [List.getElem?_set_self hiσ] at e2
       cases e2
       exact ⟨u, r, .inr ⟨.inl hk, c, hc, hc'⟩⟩
     · rw [List.getElem?_set_ne (Ne.symm hj)] at e2
       obtain ⟨u', r', q⟩ := hl j y v' e1 e2 e3
       refine ⟨u', r', ?_⟩
       rcases q with q | ⟨k, c', e, z'⟩
       · exact .inl q
       · refine .inr ⟨k, c', e, z'.sameBut hs ?_⟩
         rintro rfl
         exact hj (oZ hN e1 (I.ok.inj _ _ _ e hc ▸ hi))
   · by_cases hcc : c' = c
     · subst hcc; exact ⟨_, hc'⟩
     · obtain ⟨w2, z2⟩ := I.cell y c' e
       exact ⟨w2, z2.sameBut hs hcc⟩
   · obtain ⟨e, n, ne, nf, d⟩ := I.pin p hp
     refine ⟨(hs.2 p.1 ?_).trans e, n, ne, nf, d⟩
     intro q
     rw [q, hoc] at e
     have q' : oc = p.2 := zV e
     exact d w' (by rw [<- q']; exact hocd)
theorem lJ {M : Model} {A : Around} {E : Value -> Shared -> Prop} {i : Nat} {x : Str} {v : V} {u : Value} {Q : Unit -> Shared -> Prop} (I : Inv X pins σ H s) (hN : X.N.Nodup) (hi : X.N[i]? = some x) (hx : DG X.env.scope x) (r : RelV v u)
 (h : ∀ s', Inv X pins (σ.set i (some v)) H s' -> Q () s') (hf : X.fn x = true \/ X.env.scope.names.lookup x = some .local := by first | exact .inl rfl | exact .inr rfl | assumption) : wpAny M A (storeName X.env x u) Q E s :=
 qo I hN hi hx r (λ s' I' _ => h s' I') hf
theorem Inv.call' {s' : Shared} {ch : List Addr} (I : Inv X pins σ H s) (ho : s'.os = s.os) (u : Un (jV X.stack) ch H H' s.heap s'.heap) (hok : HOk X.prog X.w H' s'.heap) (hg : AllBare s'.gens)
 (hch : ∀ b ∈ ch, (b ∈ X.ex \/ X.s₀.heap.objs.size <= b) /\ b ≠ X.env.locals /\ (∀ x c, X.env.cells.lookup x = some c -> c ≠ b) /\ ∀ p ∈ X.pn ++ pins, p.1 ≠ b) : Inv X pins σ H' s' := by
 obtain ⟨h', g', d', t', o'⟩ := s'
 have e : o' = s.os := ho
 subst e
 exact I.call (g' := g') (t' := t') (d' := d') u hok hg hch
end
noncomputable abbrev XK := Value -> Option Addr -> Hp -> Prop
noncomputable abbrev St := List (Option V)
noncomputable abbrev VK := V -> Hp -> Prop
noncomputable abbrev TE := St -> Hp -> VK -> Prop
noncomputable abbrev TT := St -> Hp -> (Bool -> Hp -> Prop) -> Prop
noncomputable abbrev TA := St -> Hp -> (List V -> Hp -> Prop) -> Prop
structure Ends where
 nx : St -> Hp -> Prop
 rt : VK
 bk : St -> Hp -> Prop := λ _ _ => False
 ct : St -> Hp -> Prop := λ _ _ => False
noncomputable abbrev TS := Ends -> St -> Hp -> Prop
def EP (X : Cx) (pins : List (Addr × Obj)) (σ : St) (Q : VK) (u : Value) (s' : Shared) : Prop := ∃ v H', Inv X pins σ H' s' /\ RelV v u /\ Q v H'
def TP (X : Cx) (pins : List (Addr × Obj)) (σ : St) (Q : Bool -> Hp -> Prop) (b : Bool) (s' : Shared) : Prop := ∃ H', Inv X pins σ H' s' /\ Q b H'
def AP (X : Cx) (pins : List (Addr × Obj)) (σ : St) (Q : List V -> Hp -> Prop) (us : List Value) (s' : Shared) : Prop := ∃ vs H', Inv X pins σ H' s' /\ Vals vs us /\ Q vs H'
def SP (X : Cx) (pins : List (Addr × Obj)) (D : Ends) (f : Flow) (s' : Shared) : Prop :=
 match f with
 | .next => ∃ σ' H', Inv X pins σ' H' s' /\ D.nx σ' H'
 | .brk => ∃ σ' H', Inv X pins σ' H' s' /\ D.bk σ' H'
 | .cont => ∃ σ' H', Inv X pins σ' H' s' /\ D.ct σ' H'
 | .ret u => ∃ v σ' H', Inv X pins σ' H' s' /\ RelV v u /\ D.rt v H'
def PE (X : Cx) (e : Expr) (t : TE) : Prop :=
 ∀ (pins : List (Addr × Obj)) (s : Shared) (σ : St) (H : Hp) (Q : VK), Inv X pins σ H s -> t σ H Q -> wpAny (model X.prog X.w) X.A (eval e X.env) (EP X pins σ Q) X.xe s
def PT (X : Cx) (e : Expr) (t : TT) : Prop :=
 ∀ (pins : List (Addr × Obj)) (s : Shared) (σ : St) (H : Hp) (Q : Bool -> Hp -> Prop), Inv X pins σ H s -> t σ H Q -> wpAny (model X.prog X.w) X.A (isTrue e X.env (eval e X.env)) (TP X pins σ Q) X.xe s
def PW (X : Cx) (e : Expr) (t : TT) : Prop :=
 ∀ (whole : Sem Value) (pins : List (Addr × Obj)) (s : Shared) (σ : St) (H : Hp) (Q : Bool -> Hp -> Prop), Inv X pins σ H s -> t σ H Q -> wpAny (model X.prog X.w) X.A (isTrue e X.env whole) (TP X pins σ Q) X.xe s
theorem PW.pt {X : Cx} {e : Expr} {t : TT} (h : PW X e t) : PT X e t := h _
def PA (X : Cx) (es : List Expr) (t : TA) : Prop :=
 ∀ (pos : Pos) (pins : List (Addr × Obj)) (s : Shared) (σ : St) (H : Hp) (Q : List V -> Hp -> Prop), Inv X pins σ H s -> t σ H Q -> wpAny (model X.prog X.w) X.A (spliced (backTo pos (starEach es X.env))) (AP X pins σ Q) X.xe s
def PS (X : Cx) (st : Stmt) (t : TS) : Prop :=
 ∀ (pins : List (Addr × Obj)) (s : Shared) (σ : St) (H : Hp) (D : Ends), Inv X pins σ H s -> t D σ H -> wpAny (model X.prog X.w) X.A (exec st X.env) (SP X pins D) X.xe s
def PSs (X : Cx) (st : List Stmt) (t : TS) : Prop :=
 ∀ (pins : List (Addr × Obj)) (s : Shared) (σ : St) (H : Hp) (D : Ends), Inv X pins σ H s -> t D σ H -> wpAny (model X.prog X.w) X.A (execs st X.env) (SP X pins D) X.xe s
theorem dm {α : Type} {t : Sem α} {Q Q' : α -> Shared -> Prop} {M : Model} {A : Around} {E : Value -> Shared -> Prop} {s : Shared} (h : wpAny M A t Q E s) (hQ : ∀ a s, Q a s -> Q' a s) : wpAny M A t Q' E s := wpAny_mono h hQ λ _ _ x => x
section
variable {X : Cx}
theorem Fy {a b : Expr} {ta tb : TE} (ha : PE X a ta) (hb : PE X b tb) {pins : List (Addr × Obj)} {s : Shared} {σ : St} {H : Hp} {R : V -> V -> Hp -> Prop} (I : Inv X pins σ H s) (h : ta σ H λ x H1 => tb σ H1 λ y H2 => R x y H2)
 {α : Type} {Q : α -> Shared -> Prop} {f : Value -> Value -> Sem α}
 (hf : ∀ v u s2 x y H2, Inv X pins σ H2 s2 -> RelV x v -> RelV y u -> R x y H2 -> wpAny (model X.prog X.w) X.A (f v u) Q X.xe s2) :
 wpAny (model X.prog X.w) X.A (eval a X.env) (λ v s₁ => wpAny (model X.prog X.w) X.A (eval b X.env) (λ u s₂ => wpAny (model X.prog X.w) X.A (f v u) Q X.xe s₂) X.xe s₁) X.xe s := by
 refine dm (ha pins s σ H _ I h) λ v s1 q_ => ?_
 obtain ⟨x, H1, I1, r1, q1⟩ := q_
 refine dm (hb pins s1 σ H1 _ I1 q1) λ u s2 q_ => ?_
 obtain ⟨y, H2, I2, r2, q2⟩ := q_
 exact hf v u s2 x y H2 I2 r1 r2 q2
def mj (i : Nat) : TE := λ σ H Q => ∃ v, σ[i]? = some (some v) /\ Q v H
def tC (v : V) : TE := λ _ H Q => Q v H
theorem Dh {i : Nat} {x : Str} {pos : Pos} (hN : X.N[i]? = some x) (hv : Ew X.env.scope x) (hd : (x == ("__debug__" : Str)) = false := by decide) (hcd : (x == ("__classdict__" : Str)) = false := by decide) : PE X (.Name x pos) (mj i) := by
 intro pins s σ H Q I h
 obtain ⟨v, e, h⟩ := h
 obtain ⟨m, hn, hl⟩ := I.loc
 obtain ⟨u, r, l⟩ := hl i x v hN e hv
 have fin : EP X pins σ Q u s := ⟨v, H, I, r, h⟩
 rcases l with ⟨hk, hm⟩ | ⟨hk, c, hc, hcell⟩
 · exact wpAny_Name (wpAny_loadName_local I.ok.kind hk hn hm fin) hd
 · rcases hk with hk | hk
   · exact wpAny_Name (wpAny_loadName_cell I.ok.kind hk hc hcell fin) hd
   · exact wpAny_Name (wpAny_loadName_free I.ok.kind hk hc hcell fin hcd) hd
theorem aQ {i j pos} : PE X (.Constant (.int i) j pos) (tC (.int i)) := λ _ _ _ H _ I h => wpAny_Constant_int ⟨.int i, H, I.tok _, ⟨_, rfl⟩, h⟩
theorem nR {b j pos} : PE X (.Constant (.bool b) j pos) (tC (.bl b)) := λ _ _ _ H _ I h => Constant_bool ⟨.bl b, H, I, rfl, h⟩
theorem vD {j pos} : PE X (.Constant .none j pos) (tC .non) := λ _ _ _ H _ I h => Constant_none ⟨.non, H, I, rfl, h⟩
theorem rj {x j pos} : PE X (.Constant (.str x) j pos) (tC (.str x)) := λ _ _ _ H _ I h => Calls.Constant_str ⟨.str x, H, I.tok _, ⟨_, rfl⟩, h⟩
def Gl (X : Cx) (x : Str) : Prop := X.env.kindOf x = some .globalImplicit
theorem oK {E : Value -> Shared -> Prop} {pins : List (Addr × Obj)} {s : Shared} {σ : St} {H : Hp} {x : Str} {u : Value} {pos : Pos} {Q : Value -> Shared -> Prop} (I : Inv X pins σ H s) (hg : Gl X x) (hm : X.mg x = some u) (h : Q u s)
 (hd : (x == ("__debug__" : Str)) = false := by decide) : wpAny (model X.prog X.w) X.A (eval (.Name x pos) X.env) Q E s :=
 Calls.Name_function_global I.ok.kind hg (Calls.loadGlobal_global (by rw [I.ok.glob]; exact I.mod.glob.keeps I.bk) hm h) hd
theorem mk {E : Value -> Shared -> Prop} {pins : List (Addr × Obj)} {s : Shared} {σ : St} {H : Hp} {x : Str} {u : Value} {pos : Pos} {Q : Value -> Shared -> Prop} (I : Inv X pins σ H s) (hg : Gl X x) (hm : X.mg x = none) (hv : bootBuiltins x = some u) (h : Q u s)
 (hn : x ≠ "__name__" := by decide) (hd : (x == ("__debug__" : Str)) = false := by decide) : wpAny (model X.prog X.w) X.A (eval (.Name x pos) X.env) Q E s := by
 obtain ⟨mb, h1, h2⟩ := I.mod.blt
 exact Calls.Name_function_global I.ok.kind hg (Calls.loadGlobal_builtin (by rw [I.ok.glob]; exact I.mod.glob.keeps I.bk) hm (by rw [I.ok.blt]; exact h1.keeps I.bk) ((h2 x hn).trans hv) h) hd
theorem ib {x : Str} {v : V} {u : Value} {pos : Pos} (hg : Gl X x) (hm : X.mg x = some u) (r : RelV v u) (hd : (x == ("__debug__" : Str)) = false := by decide) : PE X (.Name x pos) (tC v) :=
 λ _ _ _ H _ I h => oK I hg hm ⟨v, H, I, r, h⟩ hd
theorem gz {x : Str} {v : V} {u : Value} {pos : Pos} (hg : Gl X x) (hm : X.mg x = none) (hv : bootBuiltins x = some u) (r : RelV v u) (hn : x ≠ "__name__" := by decide) (hd : (x == ("__debug__" : Str)) = false := by decide) : PE X (.Name x pos) (tC v) :=
 λ _ _ _ H _ I h => mk I hg hm hv ⟨v, H, I, r, h⟩ hn hd
variable {a b : Expr} {ta tb : TE} {pos : Pos}
variable {tA tB' : TT} {iB : List Expr}
def GW (t u : TT) : TT := λ σ H Q => t σ H λ c H1 => if c = true then Q true H1 else u σ H1 Q
def Ez (t : TT) : TT := λ σ H Q => t σ H λ c H1 => Q (!c) H1
theorem rm (ha : PT X a tA) : PW X (.BoolOp .Or [a] pos) tA := by
 intro wh pins s σ H Q I h
 refine isTrue_or (dm (ha pins s σ H Q I h) λ c s1 e => ?_)
 cases c with
 | false => exact isTrue_or_nil e
 | true => exact e
theorem wc (ha : PT X a tA) (hb : PW X (.BoolOp .Or (b :: iB) pos) tB') : PW X (.BoolOp .Or (a :: b :: iB) pos) (GW tA tB') := by
 intro wh pins s σ H Q I h
 refine isTrue_or (dm (ha pins s σ H _ I h) λ c s1 q_ => ?_)
 obtain ⟨H1, I1, q1⟩ := q_
 cases c with
 | true => exact ⟨H1, I1, q1⟩
 | false => exact hb wh pins s1 σ H1 Q I1 q1
theorem gj (ha : PT X a tA) : PT X (.UnaryOp .Not a pos) (Ez tA) := by
 intro pins s σ H Q I h
 exact isTrue_not (ha pins s σ H (λ c H1 => Q (!c) H1) I h)
def DH (ta tb : TE) : TE := λ σ H Q => ta σ H λ x H1 => ∃ c, x = .bl c /\ if c = true then tb σ H1 Q else Q (.bl false) H1
def DI (ta : TE) : TE := λ σ H Q => ta σ H λ x H1 => ∃ c, x = .bl c /\ Q (.bl (!c)) H1
theorem o0 {op} {t : TE} (h : PE X a t) : PE X (.BoolOp op [a] pos) t := λ pins s σ H Q I hw => BoolOp_one (h pins s σ H Q I hw)
theorem kd (ha : PE X a ta) (hb : PE X (.BoolOp .And (b :: iB) pos) tb) : PE X (.BoolOp .And (a :: b :: iB) pos) (DH ta tb) := by
 intro pins s σ H Q I h
 refine BoolOp_and (dm (ha pins s σ H _ I h) λ v s1 q_ => ?_)
 obtain ⟨x, H1, I1, r1, q1⟩ := q_
 obtain ⟨c, rfl, q1⟩ := q1
 cases r1
 refine wpAny_truthy_bool ?_
 cases c with
 | true => exact hb pins s1 σ H1 Q I1 q1
 | false => exact ⟨.bl false, H1, I1, rfl, q1⟩
theorem Di (ha : PE X a ta) : PE X (.UnaryOp .Not a pos) (DI ta) := by
 intro pins s σ H Q I h
 refine UnaryOp_ (dm (ha pins s σ H _ I h) λ v s1 q_ => ?_)
 obtain ⟨x, H1, I1, r1, q1⟩ := q_
 obtain ⟨c, rfl, q1⟩ := q1
 cases r1
 exact not_of (wpAny_truthy_bool ⟨.bl (!c), H1, I1, rfl, q1⟩)
end
def SqL (K : Fg) (H : Hp) (a : Addr) (xs : List V) : Prop :=
 Rd H a (.lst xs) \/
  ∃ (o : Obj) (its : Array Value) (n : Nat), K.lookup a = some o /\ o.cls = .type "list" /\ o.dict = none /\ o.data = .seq its n /\ its.size <= sizeLine /\ Vals xs its.toList
def SqT (K : Fg) (H : Hp) (a : Addr) (xs : List V) : Prop :=
 Rd H a (.tup xs) \/
  ∃ (o : Obj) (its : Array Value) (n : Nat), K.lookup a = some o /\ o.cls = .type "tuple" /\ o.data = .seq its n /\ its.size <= sizeLine /\ Vals xs its.toList
noncomputable def Fz : Value -> Option V
 | .none => some .non
 | .bool b => some (.bl b)
 | .int i _ => some (.int i)
 | .str x _ => some (.str x)
 | .bytes b _ => some (.byt b)
 | .float b _ => some (.flt b)
 | .ref a => some (.ref a)
 | .type n => some (.ty n)
 | _ => none
theorem RelV.abs {x : V} {u : Value} (r : RelV x u) : Fz u = some x := by
 cases x with
 | non => cases r; rfl
 | bl _ => cases r; rfl
 | int _ => obtain ⟨t, rfl⟩ := r; rfl
 | str _ => obtain ⟨t, rfl⟩ := r; rfl
 | byt _ => obtain ⟨t, rfl⟩ := r; rfl
 | flt _ => obtain ⟨t, rfl⟩ := r; rfl
 | ref _ => cases r; rfl
 | ty _ => cases r; rfl
theorem RelV.inj {x y : V} {u : Value} (r : RelV x u) (q : RelV y u) : x = y := zV (r.abs.symm.trans q.abs)
theorem Vals.inj {xs ys : List V} {us : List Value} (h : Vals xs us) (k : Vals ys us) : xs = ys := by
 induction h generalizing ys with
 | nil => cases k; rfl
 | cons r t ih => cases k with
  | cons r' t' => rw [r.inj r', ih t']
section
variable {X : Cx} {pins : List (Addr × Obj)} {σ : St} {H : Hp} {s : Shared} {a : Addr} {xs ys : List V}
theorem SqL.of {K : Fg} (h : H a = some (.lst xs)) : SqL K H a xs := .inl (.inl h)
theorem SqT.of {K : Fg} (h : H a = some (.tup xs)) : SqT K H a xs := .inl (.inl h)
theorem Inv.list (I : Inv X pins σ H s) (h : SqL X.K H a xs) : ∃ its : List Value, Vals xs its /\ PlainL s.heap a its.toArray /\ xs.length <= sizeLine := by
 rcases h with h | ⟨o, its, n, hk, hc, hd, hs, hz, r⟩
 · obtain ⟨z, its, n, r, e⟩ := h.ok I.hok
   exact ⟨its, r, ⟨_, n, e, rfl, rfl, rfl⟩, z⟩
 · refine ⟨its.toList, r, ⟨o, n, I.kIn a o hk, hc, hd, by simpa using hs⟩, ?_⟩
   have e := r.length
   simp only [Q6] at e
   omega
theorem Inv.tuple (I : Inv X pins σ H s) (h : SqT X.K H a xs) : ∃ its : List Value, Vals xs its /\ IsTup s.heap a its.toArray /\ xs.length <= sizeLine := by
 rcases h with h | ⟨o, its, n, hk, hc, hs, hz, r⟩
 · obtain ⟨z, its, r, p, _⟩ := h.ok I.hok
   exact ⟨its, r, p, z⟩
 · refine ⟨its.toList, r, ⟨o, I.kIn a o hk, hc, n, by simpa using hs⟩, ?_⟩
   have e := r.length
   simp only [Q6] at e
   omega
theorem Inv.list_inj (I : Inv X pins σ H s) (h : SqL X.K H a xs) (h' : SqL X.K H a ys) : xs = ys := by
 obtain ⟨its, r, ⟨o, n, e, _, _, d⟩, _⟩ := I.list h
 obtain ⟨its', r', ⟨o', n', e', _, _, d'⟩, _⟩ := I.list h'
 rw [e] at e'; cases e'
 rw [d] at d'
 injection d' with d1 _
 have : its = its' := by simpa using congrArg Array.toList d1
 subst this
 exact r.inj r'
theorem Inv.tuple_inj (I : Inv X pins σ H s) (h : SqT X.K H a xs) (h' : SqT X.K H a ys) : xs = ys := by
 obtain ⟨its, r, ⟨o, e, _, n, d⟩, _⟩ := I.tuple h
 obtain ⟨its', r', ⟨o', e', _, n', d'⟩, _⟩ := I.tuple h'
 rw [e] at e'; cases e'
 rw [d] at d'
 injection d' with d1 _
 have : its = its' := by simpa using congrArg Array.toList d1
 subst this
 exact r.inj r'
end
abbrev Cx.wish (X : Cx) (E : Value -> Shared -> Prop) : Cx := { X with xe := E }
abbrev Cx.nox (X : Cx) : Cx := X.wish λ _ _ => False
theorem Cx.Ok.wish {X : Cx} (ok : X.Ok) (E : Value -> Shared -> Prop) : (X.wish E).Ok :=
 ⟨ok.mod, ok.kind, ok.glob, ok.blt, ok.above, ok.inj, ok.has, ok.cab, ok.hd, ok.frames, ok.stk, ok.exf, ok.bs, ok.bsz, ok.noex, ok.exfs, ok.funs, ok.frf⟩
theorem Cx.Ok.unwish {X : Cx} {E : Value -> Shared -> Prop} (ok : (X.wish E).Ok) : X.Ok :=
 ⟨ok.mod, ok.kind, ok.glob, ok.blt, ok.above, ok.inj, ok.has, ok.cab, ok.hd, ok.frames, ok.stk, ok.exf, ok.bs, ok.bsz, ok.noex, ok.exfs, ok.funs, ok.frf⟩
section
variable {X : Cx} {pins : List (Addr × Obj)} {σ : St} {H : Hp} {s : Shared} {E : Value -> Shared -> Prop}
theorem Inv.wish (I : Inv X pins σ H s) (E : Value -> Shared -> Prop) : Inv (X.wish E) pins σ H s := ⟨I.ok.wish E, I.os, I.bare, I.base, I.loc, I.cell, I.free, I.freeC, I.pin, I.hok, I.len⟩
theorem Inv.unwish (I : Inv (X.wish E) pins σ H s) : Inv X pins σ H s := ⟨I.ok.unwish, I.os, I.bare, I.base, I.loc, I.cell, I.free, I.freeC, I.pin, I.hok, I.len⟩
theorem SP.unwish {D : Ends} {f : Flow} {s' : Shared} (h : SP (X.wish E) pins D f s') : SP X pins D f s' := by
 cases f with
 | next => obtain ⟨σ', H', I, q⟩ := h; exact ⟨σ', H', I.unwish, q⟩
 | brk => obtain ⟨σ', H', I, q⟩ := h; exact ⟨σ', H', I.unwish, q⟩
 | cont => obtain ⟨σ', H', I, q⟩ := h; exact ⟨σ', H', I.unwish, q⟩
 | ret u => obtain ⟨v, σ', H', I, r, q⟩ := h; exact ⟨v, σ', H', I.unwish, r, q⟩
theorem PSs.nox {st : List Stmt} {t : TS} (h : PSs X.nox st t) : PSs X st t := λ pins s σ H D I hw =>
 wpAny_mono (h pins s σ H D (I.wish _) hw) (λ _ _ q => q.unwish) λ _ _ z => False.elim z
end
section
variable {X : Cx} {st : Stmt} {iB : List Stmt} {t u : TS} {e : Expr} {te : TE} {pos : Pos}
def DJ : TS := λ D σ H => D.nx σ H
def yt (t u : TS) : TS := λ D σ H => t { D with nx := u D } σ H
theorem cj : PSs X [] DJ := λ _ _ σ H _ I h => wpAny_execs_nil ⟨σ, H, I, h⟩
theorem aL (h1 : PS X st t) (h2 : PSs X iB u) : PSs X (st :: iB) (yt t u) := by
 intro pins s σ H D I h
 refine wpAny_execs_cons (dm (h1 pins s σ H { D with nx := u D } I h) λ f s1 q => ?_)
 cases f with
 | next =>
  obtain ⟨σ', H', I', q⟩ := q
  exact h2 pins s1 σ' H' D I' q
 | ret v => exact q
 | brk => exact q
 | cont => exact q
theorem aR (h1 : PS X st t) : PSs X [st] t := by
 intro pins s σ H D I h
 refine wpAny_execs_cons (dm (h1 pins s σ H D I h) λ f s1 q => ?_)
 cases f with
 | next => exact wpAny_execs_nil q
 | ret v => exact q
 | brk => exact q
 | cont => exact q
theorem Inv.quiet {pins : List (Addr × Obj)} {σ : St} {H : Hp} {s : Shared} (I : Inv X pins σ H s) : interactive X.env = false := by simp [interactive, I.ok.kind]
def qp (te : TE) : TS := λ D σ H => te σ H λ _ H1 => D.nx σ H1
theorem cD (he : PE X e te) (hs : swapsWith e none pos.line X.env = pure false := by rfl) : PS X (.Expr e pos) (qp te) := by
 intro pins s σ H D I h
 exact wpAny_Expr_any (dm (he pins s σ H _ I h) λ v s1 q_ => by obtain ⟨x, H1, I1, r1, q1⟩ := q_; exact ⟨σ, H1, I1, q1⟩) I.quiet hs
def vE (te : TE) : TS := λ D σ H => te σ H D.rt
theorem bA (he : PE X e te) : PS X (.Return (some e) pos) (vE te) := by
 intro pins s σ H D I h
 exact wpAny_Return_some (dm (he pins s σ H _ I h) λ v s1 q_ => by obtain ⟨x, H1, I1, r1, q1⟩ := q_; exact ⟨x, σ, H1, I1, r1, q1⟩)
def Dj (c : TT) (t u : TS) : TS := λ D σ H => c σ H λ b H1 => if b = true then t D σ H1 else u D σ H1
theorem fM {c : Expr} {a b : List Stmt} {tc : TT} (hc : PT X c tc) (ha : PSs X a t) (hb : PSs X b u) : PS X (.If c a b pos) (Dj tc t u) := by
 intro pins s σ H D I h
 refine wpAny_If (dm (hc pins s σ H _ I h) λ d s1 q_ => ?_)
 obtain ⟨H1, I1, q1⟩ := q_
 cases d with
 | true => exact ha pins s1 σ H1 D I1 q1
 | false => exact hb pins s1 σ H1 D I1 q1
def yu : TS := λ _ _ _ => False
theorem lK : PS X st yu := λ _ _ _ _ _ _ h => h.elim
end
noncomputable abbrev TG := V -> St -> Hp -> (St -> Hp -> Prop) -> Prop
noncomputable abbrev yw := List V -> St -> Hp -> (St -> Hp -> Prop) -> Prop
def PG (X : Cx) (target : Expr) (t : TG) : Prop :=
 ∀ (pins : List (Addr × Obj)) (s : Shared) (σ : St) (H : Hp) (v : V) (u : Value) (Q : St -> Hp -> Prop), Inv X pins σ H s -> RelV v u -> t v σ H Q ->
  wpAny (model X.prog X.w) X.A (assign target X.env u) (λ _ s' => ∃ σ' H', Inv X pins σ' H' s' /\ Q σ' H') X.xe s
def FA (X : Cx) (ts : List Expr) (t : yw) : Prop :=
 ∀ (pins : List (Addr × Obj)) (s : Shared) (σ : St) (H : Hp) (vs : List V) (us : List Value) (Q : St -> Hp -> Prop), Inv X pins σ H s -> Vals vs us -> t vs σ H Q ->
  wpAny (model X.prog X.w) X.A (assignInOrder ((assignEach ts X.env).map (·.2)) us) (λ _ s' => ∃ σ' H', Inv X pins σ' H' s' /\ Q σ' H') X.xe s
noncomputable abbrev Dk := V -> V -> V -> Hp -> (Hp -> Prop) -> Prop
def FC (X : Cx) (t : Dk) : Prop :=
 ∀ (pins : List (Addr × Obj)) (s : Shared) (σ : St) (H : Hp) (o i v : V) (ov iv u : Value) (Q : Hp -> Prop), Inv X pins σ H s -> RelV o ov -> RelV i iv -> RelV v u -> t o i v H Q ->
  wpAny (model X.prog X.w) X.A (setItem ov iv u) (λ _ s' => ∃ H', Inv X pins σ H' s' /\ Q H') X.xe s
noncomputable abbrev GA := V -> V -> Hp -> VK -> Prop
def G6 (X : Cx) (op : Operator) (t : GA) : Prop :=
 ∀ (pins : List (Addr × Obj)) (s : Shared) (σ : St) (H : Hp) (x y : V) (v u : Value) (Q : VK), Inv X pins σ H s -> RelV x v -> RelV y u -> t x y H Q ->
  wpAny (model X.prog X.w) X.A (inplaceOp op v u) (EP X pins σ Q) X.xe s
section
variable {X : Cx} {pos : Pos}
def lL (i : Nat) : TG := λ v σ H Q => Q (σ.set i (some v)) H
theorem bD {i : Nat} {x : Str} (hN : X.N.Nodup) (hi : X.N[i]? = some x) (hx : DG X.env.scope x) (hf : X.fn x = true \/ X.env.scope.names.lookup x = some .local := by first | exact .inl rfl | exact .inr rfl | assumption) : PG X (.Name x pos) (lL i) := by
 intro pins s σ H v u Q I r h
 exact wpAny_assign_Name (lJ I hN hi hx r (λ s' I' => ⟨_, H, I', h⟩) hf)
def FD : yw := λ vs σ H Q => vs = [] /\ Q σ H
def DK (t : TG) (u : yw) : yw := λ vs σ H Q => ∃ v r, vs = v :: r /\ t v σ H λ σ' H' => u r σ' H' Q
theorem lM : FA X [] FD := by
 intro pins s σ H vs us Q I r h
 obtain ⟨e, h⟩ := h
 subst e
 cases r
 exact assignInOrder_nil ⟨σ, H, I, h⟩
theorem eB {e : Expr} {es : List Expr} {t : TG} {u : yw} (h1 : PG X e t) (h2 : FA X es u)
 (hs : (assignEach (e :: es) X.env).map (·.2) = assign e X.env :: (assignEach es X.env).map (·.2) := by rfl) : FA X (e :: es) (DK t u) := by
 intro pins s σ H vs us Q I r h
 obtain ⟨v, vr, e1, h⟩ := h
 subst e1
 cases r with
 | cons r rr =>
  rw [hs]
  refine assignInOrder_cons (dm (h1 pins s σ H _ _ _ I r h) λ _ s1 q_ => ?_)
  obtain ⟨σ1, H1, I1, q1⟩ := q_
  exact h2 pins s1 σ1 H1 _ _ Q I1 rr q1
def Dl (K : Fg) (n : Nat) (t : yw) : TG := λ v σ H Q => ∃ a xs, v = .ref a /\ SqT K H a xs /\ xs.length = n /\ t xs σ H Q
theorem Dm {es : List Expr} {k : Nat} {t : yw} {n : Nat} (hc : X.calm = true) (h : FA X es t)
 (hn : (assignEach es X.env).length = n := by rfl) (hst : (assignEach es X.env).findIdx? (·.1) = none := by rfl) : PG X (.Tuple es k pos) (Dl X.K n t) := by
 intro pins s σ H v u Q I r hw
 obtain ⟨a, xs, e1, hq, hl, hw⟩ := hw
 subst e1
 cases r
 obtain ⟨its, rv, ht, hz⟩ := I.tuple hq
 refine assign_Tuple_tuple (I.ok.hd hc) ht (by simp [hn, <- hl, rv.length]) hst λ h' hx => ?_
 have I1 : Inv X pins σ H { s with heap := h' } := I.kept (t' := s.toks) λ b o e => hx b o (oX (fG e)) e
 exact h pins _ σ H xs _ Q I1 (by simpa using rv) hw
def FE (to ti : TE) (t : Dk) : TG := λ v σ H Q => to σ H λ o H1 => ti σ H1 λ i H2 => t o i v H2 λ H3 => Q σ H3
theorem vF {o i : Expr} {to ti : TE} {t : Dk} (ho : PE X o to) (hi : PE X i ti) (hs : FC X t)
 (ha : ∀ v, assign (.Subscript o i pos) X.env v = (do
  let ov <- holding [v] (eval o X.env)
  let iv <- holding [v, ov] (eval i X.env)
  standAt pos
  holding [v, ov, iv] (setItem ov iv v)
  release [v, ov, iv] []) := by intro _; rfl) : PG X (.Subscript o i pos) (FE to ti t) := by
 intro pins s σ H v u Q I r h
 rw [ha]
 refine wB (wpAny_holding (dm (ho pins s σ H _ I h) λ ov s1 q_ => ?_))
 obtain ⟨x, H1, I1, r1, q1⟩ := q_
 refine wB (wpAny_holding (dm (hi pins s1 σ H1 _ I1 q1) λ iv s2 q_ => ?_))
 obtain ⟨y, H2, I2, r2, q2⟩ := q_
 refine wB (wpAny_standAt (wB (wpAny_holding (dm (hs pins s2 σ H2 x y v ov iv u _ I2 r1 r2 r q2) λ _ s3 q_ => ?_))))
 obtain ⟨H3, I3, q3⟩ := q_
 exact wpAny_release ⟨σ, H3, I3, q3⟩
def tS (te : TE) (g : TG) : TS := λ D σ H => te σ H λ x H1 => g x σ H1 D.nx
theorem vG {tg e : Expr} {te : TE} {g : TG} (he : PE X e te) (hg : PG X tg g) (hs : swapsWithSole [tg] e pos.line X.env = pure false := by rfl) (hw : swappedStores [tg] e X.env = pure none := by rfl)
 (h1 : (assignEach [tg] X.env).map (·.2) = [assign tg X.env] := by rfl) : PS X (.Assign [tg] e pos) (tS te g) := by
 intro pins s σ H D I h
 refine wpAny_Assign_stores (dm (he pins s σ H _ I h) λ v s1 q_ => ?_) hs hw
 obtain ⟨x, H1, I1, r1, q1⟩ := q_
 rw [h1]
 exact dm (hg pins s1 σ H1 x v _ I1 r1 q1) λ _ s2 q => q
theorem yx {i : Nat} {x : Str} {e : Expr} {te : TE} {pos' : Pos} (hN : X.N.Nodup) (hi : X.N[i]? = some x) (hx : DG X.env.scope x) (he : PE X e te) (hs : swapsWith e (some (.Name x pos')) pos.line X.env = pure false := by rfl) (hf : X.fn x = true \/ X.env.scope.names.lookup x = some .local := by first | exact .inl rfl | exact .inr rfl | assumption) :
 PS X (.Assign [.Name x pos'] e pos) (tS te (lL i)) := by
 intro pins s σ H D I h
 refine wpAny_Assign_Name (dm (he pins s σ H _ I h) λ v s1 q_ => ?_) hs
 obtain ⟨y, H1, I1, r1, q1⟩ := q_
 exact lJ I1 hN hi hx r1 (λ s2 I2 => ⟨_, H1, I2, q1⟩) hf
def FF (i : Nat) (te : TE) (ti : GA) : TS := λ D σ H => ∃ x, σ[i]? = some (some x) /\ te σ H λ y H1 => ti x y H1 λ z H2 => D.nx (σ.set i (some z)) H2
theorem vH {i : Nat} {x : Str} {e : Expr} {te : TE} {op : Operator} {ti : GA} {pos' : Pos} (hN : X.N.Nodup) (hi : X.N[i]? = some x) (hx : DG X.env.scope x) (he : PE X e te) (ho : G6 X op ti) (hf : X.fn x = true \/ X.env.scope.names.lookup x = some .local := by first | exact .inl rfl | exact .inr rfl | assumption) :
 PS X (.AugAssign (.Name x pos') op e pos) (FF i te ti) := by
 intro pins s σ H D I h
 obtain ⟨v, e1, h⟩ := h
 obtain ⟨m, hn, hl⟩ := I.loc
 have vis : Ew X.env.scope x := by rcases hx with k | k; exact .inl k; exact .inr (.inl k)
 obtain ⟨u, r, l⟩ := hl i x v hi e1 vis
 refine wpAny_AugAssign_Name ?_
 have go : wpAny (model X.prog X.w) X.A (eval e X.env) (λ w s₂ => wpAny (model X.prog X.w) X.A (inplaceOp op u w) (λ r s₃ => wpAny (model X.prog X.w) X.A (storeName X.env x r) (λ _ => SP X pins D .next) X.xe s₃) X.xe s₂) X.xe s := by
  refine dm (he pins s σ H _ I h) λ w s1 q_ => ?_
  obtain ⟨y, H1, I1, r1, q1⟩ := q_
  refine dm (ho pins s1 σ H1 v y u w _ I1 r r1 q1) λ z s2 q_ => ?_
  obtain ⟨zv, H2, I2, r2, q2⟩ := q_
  exact lJ I2 hN hi hx r2 (λ s3 I3 => ⟨_, H2, I3, q2⟩) hf
 rcases l with ⟨hk, hm⟩ | ⟨hk, c, hc, hcell⟩
 · exact wpAny_loadName_local I.ok.kind hk hn hm go
 · rcases hk with hk | hk
   · exact wpAny_loadName_cell I.ok.kind hk hc hcell go
   · rcases hx with k | k
     · have : X.env.scope.names.lookup x = some .free := hk
       rw [k] at this; cases this
     · have : X.env.scope.names.lookup x = some .free := hk
       rw [k] at this; cases this
end
section
variable {X : Cx} {pos : Pos}
end
structure It where
 go : Nat -> Hp -> Prop
 yld : Nat -> Hp -> V -> Hp -> Prop
 stop : Nat -> Hp -> Prop
def o6 (X : Cx) (pins : List (Addr × Obj)) (H : Hp) (b : Addr) : Prop :=
 H b = none /\ b ≠ X.env.locals /\ b ∉ X.fs /\ (b ∈ X.ex \/ X.s₀.heap.objs.size <= b) /\ (∀ x c, X.env.cells.lookup x = some c -> c ≠ b) /\ ∀ p ∈ X.pn ++ pins, p.1 ≠ b
theorem Inv.fpOk {X : Cx} {pins : List (Addr × Obj)} {σ : St} {H H' : Hp} {s : Shared} {b : Addr} (I : Inv X pins σ H s) (hb : s.heap.objs.size <= b) (hn : H' b = none) : o6 X pins H' b := by
 refine ⟨hn, xX (jn I.lt hb), I.nofs hb, .inr (Qf I.sz hb), λ x c e z => ?_, λ p hp z => ?_⟩
 · obtain ⟨v, q⟩ := I.cell x c e
   exact absurd (jn q.lt (by rw [z]; exact hb)) (zT _)
 · exact absurd (jn (fG (I.pin p hp).1) (by rw [z]; exact hb)) (zT _)
structure Turn (P : Program) (w : World) (K : Fg) (tg : Expr) (J : It) (fp : List Addr) (it : Addr) (tn : Nat -> Heap -> Prop) : Prop where
 mem : it ∈ fp
 obj : ∀ i h, tn i h -> ∀ b ∈ fp, ∃ o, h.get? b = some o /\ ∀ v, o.data ≠ .cell v
 keep : ∀ i h h', tn i h -> (∀ b ∈ fp, ∀ o, h.get? b = some o -> h'.get? b = some o) -> tn i h'
 item : ∀ (X : Cx), X.prog = P -> X.w = w -> X.K = K -> X.calm = true -> ∀ (i : Nat) (pins : List (Addr × Obj)) (s : Shared) (σ : St) (H : Hp) (E : Value -> Shared -> Prop), Inv X pins σ H s -> (∀ b ∈ fp, o6 X pins H b) -> tn i s.heap -> J.go i H ->
  wpAny (model P w) X.A (pyNext (.ref it)) (λ r s1 => ∃ u, r = some u /\
   wpAny (model P w) X.A (letOwnedTupleGo tg (.ref it) u) (λ _ s2 => ∃ x H', Inv X pins σ H' s2 /\ RelV x u /\ J.yld i H x H' /\ tn (i + 1) s2.heap /\ ∀ b ∈ fp, H' b = none) E s1) E s
 done : ∀ (X : Cx), X.prog = P -> X.w = w -> X.K = K -> X.calm = true -> ∀ (i : Nat) (pins : List (Addr × Obj)) (s : Shared) (σ : St) (H : Hp) (E : Value -> Shared -> Prop), Inv X pins σ H s -> (∀ b ∈ fp, o6 X pins H b) -> tn i s.heap -> J.stop i H ->
  wpAny (model P w) X.A (pyNext (.ref it)) (λ r s1 => r = none /\ Inv X pins σ H s1) E s
 self : ∀ (A : Around) (i : Nat) (s : Shared) (Q : Value -> Shared -> Prop) (E : Value -> Shared -> Prop), tn i s.heap -> Q (.ref it) s -> wpAny (model P w) A (pyIter (.ref it)) Q E s
noncomputable abbrev TI := St -> Hp -> (It -> Hp -> Prop) -> Prop
def GB (X : Cx) (pins : List (Addr × Obj)) (σ : St) (tg : Expr) (R : It -> Hp -> Prop) (itv : Value) (s2 : Shared) : Prop :=
 ∃ (it : Addr) (fp : List Addr) (tn : Nat -> Heap -> Prop) (J : It) (H' : Hp), itv = .ref it /\ Inv X pins σ H' s2 /\ Turn X.prog X.w X.K tg J fp it tn /\ tn 0 s2.heap /\ (∀ b ∈ fp, o6 X pins H' b) /\ R J H'
def PI (X : Cx) (tg iter : Expr) (wi : TI) : Prop :=
 ∀ (pins : List (Addr × Obj)) (s : Shared) (σ : St) (H : Hp) (R : It -> Hp -> Prop), Inv X pins σ H s -> wi σ H R ->
  wpAny (model X.prog X.w) X.A (eval iter X.env) (λ v s1 => wpAny (model X.prog X.w) X.A (pyIter v) (GB X pins σ tg R) X.xe s1) X.xe s
theorem yy {M : Model} {A : Around} {E : Value -> Shared -> Prop} {s : Shared} {tg : Expr} {it : Addr} {u : Value} {o : Obj} {n : String} {vs : Array Value} {Q : Unit -> Shared -> Prop} (ho : s.heap.get? it = some o) (hc : o.cls = .type n) (hd : o.data = .fields vs)
 (hn : ["enumerate", "zip", "dict_itemiterator", "dict_reverseitemiterator", "odict_iterator", "itertools.zip_longest", "itertools.pairwise"].contains n = false) (hQ : Q () s) : wpAny M A (letOwnedTupleGo tg (.ref it) u) Q E s := by
 unfold letOwnedTupleGo
 cases tg <;> first
  | exact wP hQ
  | (cases u <;> first
   | exact wP hQ
   | (refine wB (wpAny_load ho ?_)
      rw [hc, hd]
      show wpAny M A (if (["enumerate", "zip", "dict_itemiterator", "dict_reverseitemiterator", "odict_iterator", "itertools.zip_longest", "itertools.pairwise"].contains n && vs[0]? == some (rawInt _)) = true then _ else _) Q E s
      rw [if_neg (by intro h; rw [hn, Bool.false_and] at h; cases h)]
      exact wP hQ))
def GD (K : Fg) (a : Addr) : It :=
 ⟨λ i H => ∃ xs x, SqL K H a xs /\ xs[i]? = some x, λ i H x H' => H' = H /\ ∀ xs, SqL K H a xs -> xs[i]? = some x, λ i H => ∃ xs, SqL K H a xs /\ xs.length <= i⟩
def GE (K : Fg) (a : Addr) : It :=
 ⟨λ i H => ∃ xs x, SqT K H a xs /\ xs[i]? = some x, λ i H x H' => H' = H /\ ∀ xs, SqT K H a xs -> xs[i]? = some x, λ i H => ∃ xs, SqT K H a xs /\ xs.length <= i⟩
def Fk (lo : Int) (n : Nat) : It := ⟨λ i _ => i < n, λ i H x H' => H' = H /\ x = .int (lo + i), λ i _ => n <= i⟩
theorem x6 {P : Program} {w : World} {K : Fg} {tg : Expr} (a it : Addr) : Turn P w K tg (GD K a) [it] it (λ i h => h.IsListIter it a i) where
 mem := by simp
 obj := λ i h st b hb => by
  have e : b = it := by simpa using hb
  subst e
  obtain ⟨o, e, c, d⟩ := st
  exact ⟨o, e, λ v z => by rw [d] at z; cases z⟩
 keep := λ i h h' st k => st.at λ o e => k it (by simp) o e
 item := by
  intro X hP hw hK hc i pins s σ H E I hf st hg
  subst hP hw hK
  obtain ⟨xs, x, hq, hx⟩ := hg
  obtain ⟨its, rv, p, hz⟩ := I.list hq
  obtain ⟨u, hu, ru⟩ := rv.get hx
  obtain ⟨f0, f1, f2, f3, f4, f5⟩ := hf it (by simp)
  refine wpAny_pyNext_list_item st p.isList (x := u) (by simpa using hu) λ h' st' sb => ?_
  have I1 : Inv X pins σ H { s with heap := h' } := I.turned (t' := s.toks) (λ b o hb e => (sb.2 b hb).trans e) f0 f1 f3 f4 f5
  obtain ⟨o, e, c, d⟩ := id st'
  exact ⟨u, rfl, yy (s := { s with heap := h' }) e c d (by decide) ⟨x, H, I1, ru, ⟨rfl, λ ys hy => by rw [I.list_inj hy hq]; exact hx⟩, st', λ b hb => (hf b hb).1⟩⟩
 done := by
  intro X hP hw hK hc i pins s σ H E I hf st hg
  subst hP hw hK
  obtain ⟨xs, hq, hx⟩ := hg
  obtain ⟨its, rv, p, hz⟩ := I.list hq
  obtain ⟨f0, f1, f2, f3, f4, f5⟩ := hf it (by simp)
  have hl := rv.length
  exact wpAny_pyNext_list_end (I.ok.hd hc) st p.isList (by simp; omega) λ h' eb => ⟨rfl, I.turned (t' := s.toks) (λ b o hb e => eb b o hb e) f0 f1 f3 f4 f5⟩
 self := λ _ _ _ _ _ st h => wpAny_pyIter_listiter st h
theorem vI {P : Program} {w : World} {K : Fg} {tg : Expr} (a it : Addr) : Turn P w K tg (GE K a) [it] it (λ i h => h.IsTupleIter it a i) where
 mem := by simp
 obj := λ i h st b hb => by
  have e : b = it := by simpa using hb
  subst e
  obtain ⟨o, e, c, d⟩ := st
  exact ⟨o, e, λ v z => by rw [d] at z; cases z⟩
 keep := λ i h h' st k => st.at λ o e => k it (by simp) o e
 item := by
  intro X hP hw hK hc i pins s σ H E I hf st hg
  subst hP hw hK
  obtain ⟨xs, x, hq, hx⟩ := hg
  obtain ⟨its, rv, p, hz⟩ := I.tuple hq
  obtain ⟨u, hu, ru⟩ := rv.get hx
  obtain ⟨f0, f1, f2, f3, f4, f5⟩ := hf it (by simp)
  refine wpAny_pyNext_tuple_item st (show s.heap.IsTuple a its.toArray from p) (x := u) (by simpa using hu) λ h' st' sb => ?_
  have I1 : Inv X pins σ H { s with heap := h' } := I.turned (t' := s.toks) (λ b o hb e => (sb.2 b hb).trans e) f0 f1 f3 f4 f5
  obtain ⟨o, e, c, d⟩ := id st'
  exact ⟨u, rfl, yy (s := { s with heap := h' }) e c d (by decide) ⟨x, H, I1, ru, ⟨rfl, λ ys hy => by rw [I.tuple_inj hy hq]; exact hx⟩, st', λ b hb => (hf b hb).1⟩⟩
 done := by
  intro X hP hw hK hc i pins s σ H E I hf st hg
  subst hP hw hK
  obtain ⟨xs, hq, hx⟩ := hg
  obtain ⟨its, rv, p, hz⟩ := I.tuple hq
  obtain ⟨f0, f1, f2, f3, f4, f5⟩ := hf it (by simp)
  have hl := rv.length
  exact wpAny_pyNext_tuple_end (I.ok.hd hc) st (show s.heap.IsTuple a its.toArray from p) (by simp; omega) λ h' eb => ⟨rfl, I.turned (t' := s.toks) (λ b o hb e => eb b o hb e) f0 f1 f3 f4 f5⟩
 self := λ _ _ _ _ _ st h => wpAny_pyIter_tupleiter st h
theorem vJ {P : Program} {w : World} {K : Fg} {tg : Expr} (it : Addr) (lo : Int) (n : Nat) : Turn P w K tg (Fk lo n) [it] it (λ i h => IsRangeIter h it (lo + (i : Nat) * 1) ((n : Int) - (i : Nat)) 1) where
 mem := by simp
 obj := λ i h st b hb => by
  have e : b = it := by simpa using hb
  subst e
  exact ⟨_, st, λ v z => by
   have z' : Data.fields _ = Data.cell v := z
   cases z'⟩
 keep := λ i h h' st k => k it (by simp) _ st
 item := by
  intro X hP hw hK hc i pins s σ H E I hf st hg
  subst hP hw hK
  obtain ⟨f0, f1, f2, f3, f4, f5⟩ := hf it (by simp)
  have W := Walks.range (prog := X.prog) (w := X.w) (I.ok.hd hc) it lo 1 n
  refine W.item i s _ _ hg st λ v h' tk hv st' kk => ?_
  obtain ⟨t, rfl⟩ := hv
  have I1 : Inv X pins σ H { s with heap := h', toks := tk } := I.turned (λ b o hb e => kk b o (by simpa using hb) e) f0 f1 f3 f4 f5
  refine ⟨_, rfl, yy (s := { s with heap := h', toks := tk }) (n := "range_iterator") st' rfl rfl (by decide) ⟨.int (lo + i), H, I1, ⟨t, ?_⟩, ⟨rfl, rfl⟩, st', λ b hb => (hf b hb).1⟩⟩
  rw [Int.mul_one]
 done := by
  intro X hP hw hK hc i pins s σ H E I hf st hg
  subst hP hw hK
  obtain ⟨f0, f1, f2, f3, f4, f5⟩ := hf it (by simp)
  exact wpAny_pyNext_range_end (I.ok.hd hc) st (by have : n <= i := hg; omega) λ h' eb => ⟨rfl, I.turned (t' := s.toks) (λ b o hb e => eb b o hb e) f0 f1 f3 f4 f5⟩
 self := λ _ _ _ _ _ st h => wpAny_pyIter_rangeiter st h
section
variable {X : Cx} {tg : Expr}
theorem yz {pins : List (Addr × Obj)} {σ : St} {H : Hp} {s : Shared} {R : It -> Hp -> Prop} {E : Value -> Shared -> Prop} {lo hi : Int} {t u v : Tok} {tk : Nat} (I : Inv X pins σ H s) (h1 : -(2 ^ 62) <= lo) (h2 : lo < 2 ^ 62) (h3 : -(2 ^ 62) <= hi) (h4 : hi < 2 ^ 62)
 (q : R (Fk lo (hi - lo).toNat) H) : wpAny (model X.prog X.w) X.A (pyIter (.ref s.heap.objs.size)) (GB X pins σ tg R) E { s with heap := s.heap.push { cls := .type "range", data := .fields #[.int lo t, .int hi u, .int 1 v] }, toks := tk } := by
 refine wpAny_pyIter_range (IsRange.new ..) (small_one h1 h2 h3 h4) ?_
 have I1 : Inv X pins σ H { s with heap := s.heap.push { cls := .type "range", data := .fields #[.int lo t, .int hi u, .int 1 v] }, toks := tk } := I.kept λ b o e => gy _ e
 refine ⟨(s.heap.push { cls := .type "range", data := .fields #[.int lo t, .int hi u, .int 1 v] }).objs.size, [(s.heap.push { cls := .type "range", data := .fields #[.int lo t, .int hi u, .int 1 v] }).objs.size], _, _, H, rfl,
  I1.kept (t' := tk) λ b o e => gy _ e, vJ _ lo (hi - lo).toNat, ?_, λ b hb => ?_, q⟩
 · have e1 : lo + ((0 : Nat) : Int) * 1 = lo := by simp
   have e2 : (((hi - lo).toNat : Nat) : Int) - ((0 : Nat) : Int) = Builtin.Range.rangeSize lo hi 1 := by rw [rangeSize_one]; split <;> omega
   show IsRangeIter _ _ (lo + ((0 : Nat) : Int) * 1) ((((hi - lo).toNat : Nat) : Int) - ((0 : Nat) : Int)) 1
   rw [e1, e2]
   exact jm _ rfl
 · have e : b = (s.heap.push { cls := .type "range", data := .fields #[.int lo t, .int hi u, .int 1 v] }).objs.size := by simpa using hb
   subst e
   exact I1.fpOk (Q2 _) (I1.hok.fresh (Q2 _))
def DM (ta : TA) : TI := λ σ H R => ta σ H λ vs H1 => ∃ j : Int, vs = [.int j] /\ -(2 ^ 62) <= j /\ j < 2 ^ 62 /\ R (Fk 0 j.toNat) H1
theorem d9 {a : Expr} {ta : TA} {p pos : Pos} (hg : Gl X "range") (hm : X.mg "range" = none) (ha : PA X [a] ta) (hs : starEach [a] X.env = [(false, eval a X.env)] := by rfl) : PI X tg (.Call (.Name "range" p) [a] [] pos) (DM ta) := by
 intro pins s σ H R I h
 refine Call_ (mk I hg hm boot_range (PyProof.Rows.callWith_type1 (dm (ha pos pins s σ H _ I h) λ us s1 q_ => ?_) hs rfl))
 obtain ⟨vs, H1, I1, r1, q1⟩ := q_
 obtain ⟨j, e, q1, q2, q⟩ := q1
 subst e
 cases r1 with
 | cons r rr =>
  cases rr
  obtain ⟨t, rfl⟩ := r
  exact call_range_1 (yz I1 (by omega) (by omega) q1 q2 (by simpa using q))
def FG (wi : TI) (g : TG) (tb : TS) : TS := λ D σ H => wi σ H λ J H1 => ∃ W : Nat -> Nat -> St -> Hp -> Prop, (∃ m, W 0 m σ H1) /\ ∀ i m σ H, W i m σ H ->
 (J.stop i H /\ D.nx σ H) \/ (J.go i H /\ ∃ N : St -> Hp -> Prop, (∀ σ' H', N σ' H' -> ∃ m', m' < m /\ W (i + 1) m' σ' H') /\ ∀ x H', J.yld i H x H' -> g x σ H' λ σ2 H2 => tb { D with nx := N, ct := N, bk := D.nx } σ2 H2)
noncomputable def o7 (fp : List Addr) (h : Heap) : List (Addr × Obj) := fp.filterMap λ b => (h.get? b).map λ o => (b, o)
theorem ie {fp : List Addr} {h : Heap} {b : Addr} {o : Obj} (hb : b ∈ fp) (e : h.get? b = some o) : (b, o) ∈ o7 fp h := List.mem_filterMap.mpr ⟨b, hb, by rw [e]; rfl⟩
theorem x8 {fp : List Addr} {h : Heap} {p : Addr × Obj} (hp : p ∈ o7 fp h) : p.1 ∈ fp /\ h.get? p.1 = some p.2 := by
 obtain ⟨b, hb, e⟩ := List.mem_filterMap.mp hp
 cases q : h.get? b with
 | none => rw [q] at e; cases e
 | some o =>
  rw [q] at e
  have e' : (b, o) = p := zV e
  subst e'
  exact ⟨hb, q⟩
theorem Inv.pinned {pins : List (Addr × Obj)} {σ : St} {H : Hp} {s : Shared} {fp : List Addr} (I : Inv X pins σ H s) (hf : ∀ b ∈ fp, o6 X pins H b) (ho : ∀ b ∈ fp, ∃ o, s.heap.get? b = some o /\ ∀ v, o.data ≠ .cell v) : Inv X (pins ++ o7 fp s.heap) σ H s :=
 I.pins_of λ p hp => (xY.mp hp).elim (λ z => I.pin p (yl _ z)) λ z => by
  obtain ⟨hb, e⟩ := x8 z
  obtain ⟨f0, f1, f2, _⟩ := hf p.1 hb
  obtain ⟨o, e', d⟩ := ho p.1 hb
  rw [e] at e'; cases e'
  exact ⟨e, f0, f1, f2, d⟩
theorem Inv.unpinned {pins pl : List (Addr × Obj)} {σ : St} {H : Hp} {s : Shared} (I : Inv X (pins ++ pl) σ H s) : Inv X pins σ H s := I.pins_of λ p hp => I.pin p (yl _ (List.mem_append_left _ hp))
theorem eZ {iter : Expr} {body : List Stmt} {wi : TI} {g : TG} {tb : TS} {pos : Pos} (hp : PassesOwn (model X.prog X.w) X.A X.env X.xe) (hc : X.calm = true) (hi : PI X tg iter wi) (hg : PG X tg g) (hb : PSs X body tb)
 (hs : ∀ x, foldedSetIterable iter X.env x = pure x := by intro _; rfl) : PS X (.For tg iter body [] pos) (FG wi g tb) := by
 intro pins s σ H D I h
 refine wpAny_For (dm (hi pins s σ H _ I h) λ v s1 h1 => dm h1 λ itv s2 h2 => ?_) hs
 obtain ⟨it, fp, tn, J, H2, e, I2, T, st2, f2, W, ⟨m0, w0⟩, turn⟩ := h2
 subst e
 have stat : ∀ {H' : Hp}, (∀ b ∈ fp, H' b = none) -> ∀ b ∈ fp, o6 X pins H' b := λ hn b hb => ⟨hn b hb, (f2 b hb).2⟩
 refine codeAny_forLoop_any (λ n s' => ∃ i σ' H', Inv X pins σ' H' s' /\ tn i s'.heap /\ (∀ b ∈ fp, H' b = none) /\ W i n σ' H') ?_ m0 ⟨0, σ, H2, I2, st2, λ b hb => (f2 b hb).1, w0⟩
 rintro n s3 ⟨i, σ3, H3, I3, st3, fr3, w3⟩
 rcases turn i n σ3 H3 w3 with ⟨stop, qn⟩ | ⟨go, N, hN, step⟩
 · refine wpAny_passesOwn hp (dm (T.done X rfl rfl rfl hc i pins s3 σ3 H3 X.xe I3 (stat fr3) st3 stop) λ r s4 q_ => ?_)
   obtain ⟨hr, I4⟩ := q_
   subst hr
   exact wpAny_execs_nil ⟨σ3, H3, I4, qn⟩
 · refine wpAny_passesOwn hp (dm (T.item X rfl rfl rfl hc i pins s3 σ3 H3 X.xe I3 (stat fr3) st3 go) λ r s4 q_ => ?_)
   obtain ⟨u, hr, h4⟩ := q_
   subst hr
   refine wpAny_passesOwn hp (dm h4 λ _ s5 q_ => ?_)
   obtain ⟨x, H5, I5, r5, y5, st5, fr5⟩ := q_
   have I5' := I5.pinned (stat fr5) (T.obj _ _ st5)
   refine wpAny_passesOwn hp (dm (hg _ s5 σ3 H5 x u _ I5' r5 (step x H5 y5)) λ _ s6 q_ => ?_)
   obtain ⟨σ6, H6, I6, q6⟩ := q_
   refine wpAny_passesOwn hp (dm (hb _ s6 σ6 H6 _ I6 q6) λ f s7 q7 => ?_)
   have again : ∀ {σ7 : St} {H7 : Hp}, Inv X (pins ++ o7 fp s5.heap) σ7 H7 s7 -> N σ7 H7 -> ∃ m, m < n /\ ∃ i σ' H', Inv X pins σ' H' s7 /\ tn i s7.heap /\ (∀ b ∈ fp, H' b = none) /\ W i m σ' H' := λ {σ7 H7} I7 n7 => by
    obtain ⟨m', hm, w7⟩ := hN σ7 H7 n7
    refine ⟨m', hm, i + 1, σ7, H7, I7.unpinned, T.keep _ _ _ st5 λ b hb o e => (I7.pin (b, o) (yl _ (yl _ (ie hb e)))).1, λ b hb => ?_, w7⟩
    obtain ⟨o, e, d⟩ := T.obj _ _ st5 b hb
    exact (I7.pin (b, o) (yl _ (yl _ (ie hb e)))).2.1
   cases f with
   | next => obtain ⟨σ7, H7, I7, n7⟩ := q7; exact again I7 n7
   | cont => obtain ⟨σ7, H7, I7, n7⟩ := q7; exact again I7 n7
   | brk => obtain ⟨σ7, H7, I7, q7⟩ := q7; exact ⟨σ7, H7, I7.unpinned, q7⟩
   | ret v => obtain ⟨x7, σ7, H7, I7, r7, q7⟩ := q7; exact ⟨x7, σ7, H7, I7.unpinned, r7, q7⟩
end
noncomputable abbrev R2 := V -> V -> Hp -> VK -> Prop
def OpR (X : Cx) (f : Value -> Value -> Sem Value) (r : R2) : Prop :=
 ∀ (pins : List (Addr × Obj)) (s : Shared) (σ : St) (H : Hp) (x y : V) (v u : Value) (Q : VK), Inv X pins σ H s -> RelV x v -> RelV y u -> r x y H Q ->
  wpAny (model X.prog X.w) X.A (f v u) (EP X pins σ Q) X.xe s
def dq (X : Cx) (f : Value) (r : List V -> Hp -> VK -> Prop) : Prop :=
 ∀ (pins : List (Addr × Obj)) (s : Shared) (σ : St) (H : Hp) (xs : List V) (us : List Value) (Q : VK), Inv X pins σ H s -> Vals xs us -> r xs H Q ->
  wpAny (model X.prog X.w) X.A (call f us) (EP X pins σ Q) X.xe s
def GF (X : Cx) (r : V -> Hp -> (Bool -> Hp -> Prop) -> Prop) : Prop :=
 ∀ (pins : List (Addr × Obj)) (s : Shared) (σ : St) (H : Hp) (x : V) (v : Value) (Q : Bool -> Hp -> Prop), Inv X pins σ H s -> RelV x v -> r x H Q ->
  wpAny (model X.prog X.w) X.A (truthy v) (TP X pins σ Q) X.xe s
def Do (r : R2) (ta tb : TE) : TE := λ σ H Q => ta σ H λ x H1 => tb σ H1 λ y H2 => r x y H2 Q
def rI (C : Int -> Int -> Prop) (g : Int -> Int -> V) : R2 := λ x y H Q => ∃ i j, x = .int i /\ y = .int j /\ C i j /\ Q (g i j) H
def vK (g : Int -> Int -> V) : R2 := λ x y H Q => ∃ i j, x = .int i /\ y = .int j /\ Q (g i j) H
section
variable {X : Cx} {a b c : Expr} {ta tb tc : TE} {pos : Pos}
theorem Dp (ha : PE X a ta) (hb : PE X b tb) {pins : List (Addr × Obj)} {s : Shared} {σ : St} {H : Hp} {R : V -> V -> Hp -> Prop} (I : Inv X pins σ H s)
 (h : ta σ H λ x H1 => tb σ H1 λ y H2 => R x y H2) {Q : Value -> Shared -> Prop} {f : Value -> Value -> Sem Value}
 (hf : ∀ v u s2 x y H2, Inv X pins σ H2 s2 -> RelV x v -> RelV y u -> R x y H2 -> wpAny (model X.prog X.w) X.A (f v u) Q X.xe s2) :
 wpAny (model X.prog X.w) X.A (eval a X.env) (λ v s₁ => wpAny (model X.prog X.w) X.A (eval b X.env) (λ u s₂ => wpAny (model X.prog X.w) X.A (f v u) Q X.xe s₂) X.xe s₁) X.xe s := by
 refine dm (ha pins s σ H _ I h) λ v s1 q_ => ?_
 obtain ⟨x, H1, I1, r1, q1⟩ := q_
 refine dm (hb pins s1 σ H1 _ I1 q1) λ u s2 q_ => ?_
 obtain ⟨y, H2, I2, r2, q2⟩ := q_
 exact hf v u s2 x y H2 I2 r1 r2 q2
theorem bi {op : Operator} {r : R2} (ho : OpR X (binaryOp op) r) (ha : PE X a ta) (hb : PE X b tb) : PE X (.BinOp a op b pos) (Do r ta tb) := by
 intro pins s σ H Q I h
 exact wpAny_BinOp (Dp ha hb I h λ v u s2 x y H2 I2 rx ry q => ho pins s2 σ H2 x y v u Q I2 rx ry q)
theorem GG {f : Value -> Value -> Sem Value} {C : Int -> Int -> Prop} {g : Int -> Int -> Int}
 (rule : ∀ (i j : Int) (t u : Tok) (s : Shared) (Q : Value -> Shared -> Prop) (E : Value -> Shared -> Prop), C i j -> Q (.int (g i j) s.toks) { s with toks := s.toks + 1 } -> wpAny (model X.prog X.w) X.A (f (.int i t) (.int j u)) Q E s) :
 OpR X f (rI C λ i j => .int (g i j)) := by
 intro pins s σ H x y v u Q I rx ry h
 obtain ⟨i, j, rfl, rfl, hc, q⟩ := h
 obtain ⟨t, rfl⟩ := rx
 obtain ⟨t', rfl⟩ := ry
 exact rule i j t t' s _ _ hc ⟨.int (g i j), H, I.tok _, ⟨_, rfl⟩, q⟩
theorem Dq {f : Value -> Value -> Sem Value} {g : Int -> Int -> Int}
 (rule : ∀ (i j : Int) (t u : Tok) (s : Shared) (Q : Value -> Shared -> Prop) (E : Value -> Shared -> Prop), Q (.int (g i j) s.toks) { s with toks := s.toks + 1 } -> wpAny (model X.prog X.w) X.A (f (.int i t) (.int j u)) Q E s) :
 OpR X f (vK λ i j => .int (g i j)) := by
 intro pins s σ H x y v u Q I rx ry h
 obtain ⟨i, j, rfl, rfl, q⟩ := h
 obtain ⟨t, rfl⟩ := rx
 obtain ⟨t', rfl⟩ := ry
 exact rule i j t t' s _ _ ⟨.int (g i j), H, I.tok _, ⟨_, rfl⟩, q⟩
theorem Dr {f : Value -> Value -> Sem Value} {g : Int -> Int -> Bool}
 (rule : ∀ (i j : Int) (t u : Tok) (s : Shared) (Q : Value -> Shared -> Prop) (E : Value -> Shared -> Prop), Q (.bool (g i j)) s -> wpAny (model X.prog X.w) X.A (f (.int i t) (.int j u)) Q E s) :
 OpR X f (vK λ i j => .bl (g i j)) := by
 intro pins s σ H x y v u Q I rx ry h
 obtain ⟨i, j, rfl, rfl, q⟩ := h
 obtain ⟨t, rfl⟩ := rx
 obtain ⟨t', rfl⟩ := ry
 exact rule i j t t' s _ _ ⟨.bl (g i j), H, I, rfl, q⟩
def CMul (i j : Int) : Prop := (-(2 ^ 64) < i /\ i < 2 ^ 64) \/ (-(2 ^ 64) < j /\ j < 2 ^ 64)
theorem CMul.ok {i j : Int} (h : CMul i j) : IntMulOk i j := by
 rcases h with ⟨h1, h2⟩ | ⟨h1, h2⟩
 · exact .of_left (intBits_le_64 h1 h2)
 · exact .of_right (intBits_le_64 h1 h2)
theorem Ds : OpR X (binaryOp .Add) (vK λ i j => .int (i + j)) := Dq λ _ _ _ _ _ _ _ q => add_int q
theorem vL : OpR X (binaryOp .Sub) (vK λ i j => .int (i - j)) := Dq λ _ _ _ _ _ _ _ q => sub_int q
theorem ig : OpR X (binaryOp .Mult) (rI CMul λ i j => .int (i * j)) := GG λ _ _ _ _ _ _ _ hc q => mul_int q hc.ok
theorem o8 : OpR X (binaryOp .Mod) (rI (λ _ j => 0 < j) λ i j => .int (i % j)) := GG λ i j _ _ _ _ _ hc q => by
 have h1 : (0 : Int) < j := hc
 exact mod_int' (by omega) (by rw [Int.fmod_eq_emod_of_nonneg i (by omega)]; exact q)
theorem we : OpR X (inplaceOp .Add) (vK λ i j => .int (i + j)) := Dq λ _ _ _ _ _ _ _ q => iadd_int q
theorem Bm : OpR X (inplaceOp .Mult) (rI CMul λ i j => .int (i * j)) := GG λ _ _ _ _ _ _ _ hc q => imul_int q hc.ok
end
section
variable {X : Cx} {a b c : Expr} {ta tb tc : TE} {pos : Pos}
theorem FH : OpR X (compareOp .Lt) (vK λ i j => .bl (decide (i < j))) := Dr λ _ _ _ _ _ _ _ q => lt_int q
theorem zW : OpR X (compareOp .LtE) (vK λ i j => .bl (decide (i <= j))) := Dr λ _ _ _ _ _ _ _ q => le_int q
theorem DN : OpR X (compareOp .Gt) (vK λ i j => .bl (decide (j < i))) := Dr λ _ _ _ _ _ _ _ q => gt_int q
theorem OpR.or {f : Value -> Value -> Sem Value} {r r' : R2} (h : OpR X f r) (h' : OpR X f r') : OpR X f (λ x y H Q => r x y H Q \/ r' x y H Q) := by
 intro pins s σ H x y v u Q I rx ry q
 rcases q with q | q
 · exact h pins s σ H x y v u Q I rx ry q
 · exact h' pins s σ H x y v u Q I rx ry q
theorem dW (b : Expr) {op : CmpOp} (h : op ≠ .In := by decide) (h2 : op ≠ .NotIn := by decide) : behindInMarks op b = false := by
 have e1 : (op == CmpOp.In) = false := by cases op <;> first | rfl | exact absurd rfl h
 have e2 : (op == CmpOp.NotIn) = false := by cases op <;> first | rfl | exact absurd rfl h2
 cases b <;> simp [behindInMarks, e1, e2]
theorem jo {op : CmpOp} {r : R2} (ho : OpR X (compareOp op) r) (ha : PE X a ta) (hb : PE X b tb) (hm : behindInMarks op b = false) : PE X (.Compare a [op] [b] pos) (Do r ta tb) := by
 intro pins s σ H Q I h
 exact wpAny_Compare1 (Dp ha hb I h λ v u s2 x y H2 I2 rx ry q => ho pins s2 σ H2 x y v u Q I2 rx ry q) hm
def DO (t : TE) : TT := λ σ H Q => t σ H λ x H' => ∃ k, x = .bl k /\ Q k H'
theorem dc {op : CmpOp} {r : R2} (ho : OpR X (compareOp op) r) (ha : PE X a ta) (hb : PE X b tb) (hm : behindInMarks op b = false) : PT X (.Compare a [op] [b] pos) (DO (Do r ta tb)) := by
 intro pins s σ H Q I h
 refine wpAny_isTrue_Compare1 (dm (ha pins s σ H _ I h) λ v s1 ⟨x, H1, I1, r1, q1⟩ => dm (hb pins s1 σ H1 _ I1 q1) λ u s2 ⟨y, H2, I2, r2, q2⟩ =>
  dm (ho pins s2 σ H2 x y v u _ I2 r1 r2 q2) λ c s3 ⟨z, H3, I3, r3, k, e, q3⟩ => ?_) hm
 subst e
 cases r3
 exact wpAny_truthy_bool ⟨H3, I3, q3⟩
def zX (r r' : R2) (ta tb tc : TE) : TE := λ σ H Q => ta σ H λ x H1 => tb σ H1 λ y H2 => r x y H2 λ z H3 => ∃ k, z = .bl k /\
 (if k = true then tc σ H3 λ w' H4 => r' y w' H4 Q else Q (.bl false) H3)
theorem zY {op op' : CmpOp} {r r' : R2} (ho : OpR X (compareOp op) r) (ho' : OpR X (compareOp op') r') (ha : PE X a ta) (hb : PE X b tb) (hc : PE X c tc)
 (hm : lastMarks [op, op'] [b, c] = false := by with_unfolding_all rfl) : PE X (.Compare a [op, op'] [b, c] pos) (zX r r' ta tb tc) := by
 intro pins s σ H Q I h
 refine Compare_chain (dm (ha pins s σ H _ I h) λ v s1 ⟨x, H1, I1, r1, q1⟩ => chain_link (dm (hb pins s1 σ H1 _ I1 q1) λ u s2 ⟨y, H2, I2, r2, q2⟩ =>
  dm (ho pins s2 σ H2 x y v u _ I2 r1 r2 q2) λ d s3 ⟨z, H3, I3, r3, k, e, q3⟩ => ?_)) hm
 subst e
 cases r3
 refine wpAny_truthy_bool ?_
 cases k with
 | false => exact ite_ff ⟨.bl false, H3, I3, rfl, q3⟩
 | true => exact ite_tt (chain_last (dm (hc pins s3 σ H3 _ I3 q3) λ w' s4 q_ => by obtain ⟨z', H4, I4, r4, q4⟩ := q_; exact ho' pins s4 σ H4 y z' u w' Q I4 r2 r4 q4))
def Bn (K : Fg) (x : V) (H : Hp) (k : Bool) : Prop :=
 match x with
 | .non => k = false
 | .bl b => k = b
 | .int i => k = (i != 0)
 | .str y => y.length <= sizeLine /\ k = ((y.length : Int) != 0)
 | .byt y => y.size <= sizeLine /\ k = ((y.size : Int) != 0)
 | .ref p => (∃ xs, SqL K H p xs /\ k = !xs.isEmpty) \/ (∃ xs, SqT K H p xs /\ k = !xs.isEmpty) \/ ∃ kvs, H p = some (.dK kvs) /\ k = !kvs.isEmpty
 | _ => False
theorem vM {κ : Type} {kvs : List (κ × V)} {vs : List (κ × Value)} (r : KV kvs vs) : (!vs.isEmpty) = !kvs.isEmpty := by
 cases r <;> rfl
theorem o9 {xs : List V} {its : List Value} (r : Vals xs its) : (!its.toArray.isEmpty) = !xs.isEmpty := by
 cases r <;> simp
theorem mn : (sizeLine : Nat) < 2 ^ 63 := by rw [sizeLine_eq]; decide
theorem Dt : GF X (λ x H Q => ∃ k, Bn X.K x H k /\ Q k H) := by
 intro pins s σ H x v Q I rx h
 obtain ⟨k, e, q⟩ := h
 have hl := mn
 have hs : sizeLine = 16777216 := sizeLine_eq
 cases x with
 | non =>
  cases rx
  have e' : k = false := e
  subst e'
  exact truthy_none ⟨H, I, q⟩
 | bl b =>
  cases rx
  have e' : k = b := e
  subst e'
  exact wpAny_truthy_bool ⟨H, I, q⟩
 | int i =>
  obtain ⟨t, rfl⟩ := rx
  have e' : k = (i != 0) := e
  subst e'
  exact PySem.P.truthy_int ⟨H, I, q⟩
 | str y =>
  obtain ⟨t, rfl⟩ := rx
  obtain ⟨hy, e'⟩ : y.length <= sizeLine /\ k = ((y.length : Int) != 0) := e
  subst e'
  exact PySem.P.truthy_str (by omega) ⟨H, I.tok _, q⟩
 | byt y =>
  obtain ⟨t, rfl⟩ := rx
  obtain ⟨hy, e'⟩ : y.size <= sizeLine /\ k = ((y.size : Int) != 0) := e
  subst e'
  exact PySem.W.truthy_bytes (by omega) ⟨H, I.tok _, q⟩
 | ref p =>
  cases rx
  have e' : (∃ xs, SqL X.K H p xs /\ k = !xs.isEmpty) \/ (∃ xs, SqT X.K H p xs /\ k = !xs.isEmpty) \/ ∃ kvs, H p = some (.dK kvs) /\ k = !kvs.isEmpty := e
  rcases e' with ⟨xs, hx, e'⟩ | ⟨xs, hx, e'⟩ | ⟨kvs, hx, e'⟩
  · subst e'
    obtain ⟨its, r, pl, hz⟩ := I.list hx
    have hlen := r.length
    exact wpAny_truthy_list pl.isList (by simp only [zM]; omega) ⟨H, I.tok _, by rw [o9 r]; exact q⟩
  · subst e'
    obtain ⟨its, r, pl, hz⟩ := I.tuple hx
    have hlen := r.length
    exact truthy_tuple pl (by simp only [zM]; omega) ⟨H, I.tok _, by rw [o9 r]; exact q⟩
  · subst e'
    obtain ⟨hz, hS, vs, r, m⟩ : kvs.length <= sizeLine /\ (p == sysModules) = false /\ ∃ vs, KV kvs vs /\ s.heap.DictOf (rf X.prog X.w) p vs := I.hok p _ hx
    have hlen : kvs.length = vs.length := Paired.length r
    exact wpAny_truthy_dict hS m (by omega) ⟨H, I.tok _, by rw [vM r]; exact q⟩
 | _ => exact (show False from e).elim
theorem zZ (ha : PE X a ta) (he : ∀ whole, isTrue a X.env whole = (do let v <- whole; standAt a.pos; holding [v] (truthy v))) :
 PT X a (λ σ H Q => ta σ H λ x H' => ∃ k, Bn X.K x H' k /\ Q k H') := by
 intro pins s σ H Q I h
 exact isTrue_plain (dm (ha pins s σ H _ I h) λ v s1 q_ => by obtain ⟨x, H1, I1, r1, q1⟩ := q_; exact Dt pins s1 σ H1 x v Q I1 r1 q1) (he _)
theorem vN : OpR X (binaryOp .Add) (λ x y H Q => ∃ i j, x = .str i /\ y = .str j /\ i.length + j.length <= sizeLine /\ Q (.str (i ++ j)) H) := by
 intro pins s σ H x y v u Q I rx ry h
 obtain ⟨i, j, rfl, rfl, hz, q⟩ := h
 obtain ⟨t, rfl⟩ := rx
 obtain ⟨t', rfl⟩ := ry
 exact add_str (λ t' tk => ⟨.str (i ++ j), H, I.tok _, ⟨_, rfl⟩, q⟩) hz
theorem nS {x : V} {us : List Value} (r : Vals [x] us) : ∃ u, us = [u] /\ RelV x u := by
 cases r with
 | cons r1 r2 => cases r2; exact ⟨_, rfl, r1⟩
def Du (K : Fg) (x : V) (H : Hp) (n : Nat) : Prop :=
 match x with
 | .str y => y.length <= sizeLine /\ n = y.length
 | .byt y => y.size <= sizeLine /\ n = y.size
 | .ref p => (∃ xs, SqL K H p xs /\ n = xs.length) \/ ∃ xs, SqT K H p xs /\ n = xs.length
 | _ => False
theorem za : dq X (.builtin "len") (λ xs H Q => ∃ x n, xs = [x] /\ Du X.K x H n /\ Q (.int n) H) := by
 intro pins s σ H xs us Q I r h
 obtain ⟨x, n, rfl, e, q⟩ := h
 obtain ⟨u, rfl, rx⟩ := nS r
 have hl := mn
 have hs : sizeLine = 16777216 := sizeLine_eq
 cases x with
 | str y =>
  obtain ⟨t, rfl⟩ := rx
  obtain ⟨hy, e'⟩ : y.length <= sizeLine /\ n = y.length := e
  subst e'
  exact len_str (by omega) ⟨.int _, H, I.tok _, ⟨_, rfl⟩, q⟩
 | byt y =>
  obtain ⟨t, rfl⟩ := rx
  obtain ⟨hy, e'⟩ : y.size <= sizeLine /\ n = y.size := e
  subst e'
  exact PySem.W.len_bytes (by omega) ⟨.int _, H, I.tok _, ⟨_, rfl⟩, q⟩
 | ref p =>
  cases rx
  have e' : (∃ xs, SqL X.K H p xs /\ n = xs.length) \/ ∃ xs, SqT X.K H p xs /\ n = xs.length := e
  rcases e' with ⟨xs, hx, e'⟩ | ⟨xs, hx, e'⟩
  · subst e'
    obtain ⟨its, r', pl, hz⟩ := I.list hx
    have hlen := r'.length
    exact Calls.call_len_list pl.isList (by simp only [zM]; omega) ⟨.int xs.length, H, I.tok _, ⟨_, by simp only [zM]; rw [hlen]⟩, q⟩
  · subst e'
    obtain ⟨its, r', pl, hz⟩ := I.tuple hx
    have hlen := r'.length
    exact len_tuple pl (by simp only [zM]; omega) ⟨.int xs.length, H, I.tok _, ⟨_, by simp only [zM]; rw [hlen]⟩, q⟩
 | _ => exact (show False from e).elim
end
structure ObjM (h : Heap) (x dx C : Addr) (mA : Str -> Option Value) : Prop where
 obj : h.get? x = some (PySem.W.instObj C dx)
 ns : h.Ns1 dx mA
 ne : dx ≠ x
theorem x9 {h : Heap} {dx : Addr} {mA : Str -> Option Value} (n : h.Ns1 dx mA) : ∃ od, h.get? dx = some od /\ ∀ name, PySem.W.lookIn name od = some (mA name) := by
 obtain ⟨o, es, ep, ho, hd, hk, _, hm⟩ := n
 refine ⟨o, ho, λ name => ?_⟩
 have e := hm name
 unfold nsFind findBy at e
 rw [<- Array.find?_toList] at e
 unfold PySem.W.lookIn
 rw [hd]
 dsimp only
 split
 · rename_i y q
   rw [q] at e
   exact congrArg some e
 · rename_i q
   rw [q] at e
   have a : es.toList.any (·.refKey) = false := by
    rw [List.any_eq_false]
    intro y hy
    obtain ⟨z, t, hkey⟩ := hk y (yg.mp hy)
    simp [DictEntry.refKey, hkey]
   have a' : ¬ es.toList.any (·.refKey) = true := by rw [a]; exact yh
   rw [if_neg a']
   exact congrArg some e
theorem ObjM.look {h : Heap} {x dx C : Addr} {mA : Str -> Option Value} (I : ObjM h x dx C mA) : ∃ od, PySem.W.InstAt h x (PySem.W.instObj C dx) C (some od) /\ ∀ name, PySem.W.lookIn name od = some (mA name) :=
 let ⟨od, ho, hl⟩ := x9 I.ns
 ⟨od, ⟨I.obj, rfl, rfl, ho⟩, hl⟩
section
variable {prog : Program} {w : World} {A : Around} {E : Value -> Shared -> Prop} {s : Shared} {K : Fg} {x dx C f : Addr} {mA : Str -> Option Value} {name : Str} {v : Value}
end
section
variable {P : Program} {w : World} {H H' : Hp} {h h' : Heap} {a C dx : Addr} {fs fs' : List (Str × V)}
theorem Bo (hok : HOk P w H h) (e : H a = some (.ins C dx fs)) : ∃ mA, ObjM h a dx C mA /\ (∀ f, RelO (fs.lookup f) (mA f)) /\ PySem.Within mA (fs.map (·.1)) /\ fs.length <= 1000 /\ H dx = some (.own a) := by
 obtain ⟨d, z, ne, ob, mA, n, r, q⟩ := (show ObjOk P w H h a (.ins C dx fs) from hok a _ e)
 exact ⟨mA, ⟨ob, n, ne⟩, r, q, z, d⟩
end
structure Cls (K : Fg) (C : Addr) : Prop where
 pg : PySem.W.plainGet K C Str.empty = true
 hd : PySem.W.hasDictIn K C = true
 po : PySem.W.plainOver K C = true
 sa : PySem.W.findIn K (.ref C) "__setattr__" = some (some (.builtin "object.__setattr__"))
theorem Cls.get {K : Fg} {C : Addr} (c : Cls K C) (f : Str) : PySem.W.plainGet K C f = true := c.pg
section
variable {X : Cx} {pins : List (Addr × Obj)} {σ : St} {H : Hp} {s : Shared} {a C dx : Addr} {fs : List (Str × V)} {f : Str} {v : V} {A : Around} {E : Value -> Shared -> Prop}
end
section
variable {X : Cx} {o e value : Expr} {f : Str} {pos pos' tpos : Pos} {ta tv : TE}
end
section
variable {X : Cx} {pins : List (Addr × Obj)} {σ : St} {H : Hp} {s : Shared} {A : Around} {E : Value -> Shared -> Prop} {Q : Value -> Shared -> Prop} {c : Value} {b : Bool}
inductive TyOf (K : Fg) (H : Hp) : V -> Value -> Prop where
 | non : TyOf K H .non (.type "NoneType")
 | bl (x : Bool) : TyOf K H (.bl x) (.type "bool")
 | int (i : Int) : TyOf K H (.int i) (.type "int")
 | str (x : Str) : TyOf K H (.str x) (.type "str")
 | flt (x : UInt64) : TyOf K H (.flt x) (.type "float")
 | lst {a : Addr} {xs : List V} (e : H a = some (.lst xs)) : TyOf K H (.ref a) (.type "list")
 | frz {a : Addr} {o : Obj} {xs : List V} (e : H a = some (.frz o (.lst xs))) : TyOf K H (.ref a) (.type "list")
 | tup {a : Addr} {xs : List V} (e : H a = some (.tup xs)) : TyOf K H (.ref a) (.type "tuple")
 | dK {a : Addr} {kvs : List (i9 × V)} (e : H a = some (.dK kvs)) : TyOf K H (.ref a) (.type "dict")
 | dT {a : Addr} {kvs : List (List i9 × V)} (e : H a = some (.dT kvs)) : TyOf K H (.ref a) (.type "dict")
 | ins {a C dx : Addr} {fs : List (Str × V)} (e : H a = some (.ins C dx fs)) (cl : Cls K C) (ha : PySem.W.findIn K (.ref C) "__class__" = some (some (.builtin "object.__class__")))
  (hn : PySem.W.specialIn K (.builtin "object.__class__") "__get__" = some (some (.builtin "getset_descriptor.__get__"))) (htk : PySem.W.takesIn K (.builtin "object.__class__") = some true)
  (hm : PySem.W.mroIn K C (.type "object") = some true) : TyOf K H (.ref a) (.ref C)
theorem g9 {x : V} {u t : Value} (I : Inv X pins σ H s) (rx : RelV x u) (ty : TyOf X.K H x t) (e : PySem.W.kitOne X.K t c = some b) (h : ∀ tk, Q (.bool b) { s with toks := tk }) :
 wpAny (model X.prog X.w) A (call (.builtin "isinstance") [u, c]) Q E s := by
 cases ty with
 | non => cases (show u = Value.none from rx); exact PySem.W.kia_one PySem.W.kitx_none I.kIn True.intro e (λ z => nomatch z) h
 | bl y => cases (show u = Value.bool y from rx); exact PySem.W.kia_one PySem.W.kitx_bool I.kIn True.intro e (λ z => nomatch z) h
 | int i => obtain ⟨t, q⟩ := (show ∃ t, u = Value.int i t from rx); cases q; exact PySem.W.kia_one PySem.W.kitx_int I.kIn True.intro e (λ z => nomatch z) h
 | str y => obtain ⟨t, q⟩ := (show ∃ t, u = Value.str y t from rx); cases q; exact PySem.W.kia_one PySem.W.kitx_str I.kIn True.intro e (λ z => nomatch z) h
 | flt y => obtain ⟨t, q⟩ := (show ∃ t, u = Value.float y t from rx); cases q; exact PySem.W.kia_one PySem.W.kitx_float I.kIn True.intro e (λ z => nomatch z) h
 | @lst a xs ea =>
  cases (show u = Value.ref a from rx)
  obtain ⟨_, _, n, _, h1⟩ := (show ObjOk X.prog X.w H s.heap a (.lst xs) from I.hok a _ ea)
  exact PySem.W.kia_one PySem.W.kitx_list I.kIn ⟨_, h1, rfl⟩ e (λ z => nomatch z) h
 | @frz a ob xs ea =>
  cases (show u = Value.ref a from rx)
  obtain ⟨_, _, _, n, _, h1⟩ := (show ObjOk X.prog X.w H s.heap a (.frz ob (.lst xs)) from I.hok a _ ea)
  exact PySem.W.kia_one PySem.W.kitx_list I.kIn ⟨_, h1, rfl⟩ e (λ z => nomatch z) h
 | @tup a xs ea =>
  cases (show u = Value.ref a from rx)
  obtain ⟨_, _, _, p, _⟩ := (show ObjOk X.prog X.w H s.heap a (.tup xs) from I.hok a _ ea)
  obtain ⟨o, h1, h2, _⟩ := p
  exact PySem.W.kia_one PySem.W.kitx_tuple I.kIn ⟨o, h1, h2⟩ e (λ z => nomatch z) h
 | @dK a kvs ea =>
  cases (show u = Value.ref a from rx)
  obtain ⟨_, _, vs, _, p⟩ := (show ObjOk X.prog X.w H s.heap a (.dK kvs) from I.hok a _ ea)
  obtain ⟨o, es, ep, h1, h2, _⟩ := p
  exact PySem.W.kia_one PySem.W.kitx_dict I.kIn ⟨o, h1, h2.1⟩ e (λ z => nomatch z) h
 | @dT a kvs ea =>
  cases (show u = Value.ref a from rx)
  obtain ⟨_, _, xs, _, o, es, ep, h1, h2, _⟩ := (show ObjOk X.prog X.w H s.heap a (.dT kvs) from I.hok a _ ea)
  exact PySem.W.kia_one PySem.W.kitx_dict I.kIn ⟨o, h1, h2.1⟩ e (λ z => nomatch z) h
 | @ins a C dx fs ea cl ha hn htk hm =>
  cases (show u = Value.ref a from rx)
  obtain ⟨mA, O, _⟩ := Bo I.hok ea
  obtain ⟨od, J, _⟩ := O.look
  exact PySem.W.kia_one (PySem.W.kitx_own (cl.get _) cl.hd ha hn htk hm) I.kIn J e (λ z => nomatch z) h
end
structure Room (k : Nat) (A : Around) : Prop where
 hd : A.handled = none
 dp : A.depth + 3 * k + 5 < recursionLimit
 un : A.units + 16 * k + 200 < cLine
theorem Room.mono {j k : Nat} {A : Around} (r : Room k A) (h : j <= k) : Room j A := ⟨r.hd, by have := r.dp; omega, by have := r.un; omega⟩
theorem Room.deeper {k : Nat} {A : Around} (r : Room (k + 1) A) (env : Env) : Room k (A.deeper env) :=
 ⟨r.hd, by have := r.dp; show A.depth + 1 + 3 * k + 5 < _; omega, by have := r.un; show A.units + 3 + 16 * k + 200 < _; omega⟩
theorem Room.in1 {k : Nat} {A : Around} (r : Room (k + 1) A) : Room k A.in1 :=
 ⟨r.hd, by have := r.dp; show A.depth + 3 * k + 5 < _; omega, by have := r.un; show A.units + 1 + 16 * k + 200 < _; omega⟩
theorem Room.depth {k : Nat} {A : Around} (r : Room k A) : A.depth < recursionLimit := by have := r.dp; omega
theorem Room.units {k : Nat} {A : Around} (r : Room k A) : A.units + 64 < cLine := by have := r.un; omega
def nw : TA := λ _ H Q => Q [] H
def gS (ta : TE) (tr : TA) : TA := λ σ H Q => ta σ H λ x H1 => tr σ H1 λ xs H2 => Q (x :: xs) H2
section
variable {X : Cx} {e : Expr} {es : List Expr} {te : TE} {t : TA} {pos : Pos}
theorem aI : PA X [] nw := λ _ _ _ _ H Q I h => Calls.spliced_nil ⟨[], H, I, .nil, h⟩
theorem aD (ha : PE X e te) (hr : PA X es t) (hs : starEach (e :: es) X.env = (false, eval e X.env) :: starEach es X.env := by rfl) : PA X (e :: es) (gS te t) := by
 intro pos pins s σ H Q I h
 rw [hs]
 show wpAny _ _ (spliced ((false, eval e X.env) :: backTo pos (starEach es X.env))) _ _ s
 refine Calls.spliced_cons (dm (ha pins s σ H _ I h) λ u s1 q_ => ?_)
 obtain ⟨x, H1, I1, r1, q1⟩ := q_
 exact dm (hr pos pins s1 σ H1 _ I1 q1) λ us s2 q_ => by obtain ⟨xs, H2, I2, r2, q2⟩ := q_; exact ⟨x :: xs, H2, I2, .cons r1 r2, q2⟩
def Dv (t : TA) : TE := λ σ H Q => t σ H λ xs H1 => xs.length <= sizeLine /\ ∀ p, H1 p = none -> Q (.ref p) (cZ H1 p (.tup xs))
def zb (t : TA) : TE := λ σ H Q => t σ H λ xs H1 => xs.length <= sizeLine /\ ∀ p, H1 p = none -> Q (.ref p) (cZ H1 p (.lst xs))
theorem dX {x1} (h : PA X es t) : PE X (.Tuple es x1 pos) (Dv t) := by
 intro pins s σ H Q I hq
 refine wpAny_Tuple_spliced (dm (h pos pins s σ H _ I hq) λ us s1 ⟨xs, H1, I1, r, z, q⟩ => ⟨by rw [<- r.length]; exact z, ?_⟩)
 have hf : H1 s1.heap.objs.size = none := I1.hok.fresh (Q2 _)
 refine ⟨.ref s1.heap.objs.size, cZ H1 s1.heap.objs.size (.tup xs), I1.laid (t' := s1.toks) (λ b u e => gy _ e) (Q2 _) ?_, rfl, q _ hf⟩
 exact ⟨z, us, r, ⟨_, jm _ rfl, rfl, _, rfl⟩, _, jm _ rfl, rfl⟩
theorem dv (h : PA X es t) : PE X (.List es pos) (zb t) := by
 intro pins s σ H Q I hq
 refine wpAny_List_spliced (dm (h pos pins s σ H _ I hq) λ us s1 ⟨xs, H1, I1, r, z, q⟩ => ⟨by rw [<- r.length]; exact z, ?_⟩)
 have hf : H1 s1.heap.objs.size = none := I1.hok.fresh (Q2 _)
 refine ⟨.ref s1.heap.objs.size, cZ H1 s1.heap.objs.size (.lst xs), I1.laid (t' := s1.toks) (λ b u e => gy _ e) (Q2 _) ?_, rfl, q _ hf⟩
 exact ⟨z, us, 0, r, jm _ rfl⟩
end
noncomputable abbrev Sp := List V -> Hp -> VK -> XK -> Prop
noncomputable abbrev xa := List Env -> Hp -> Shared -> XK -> Value -> Shared -> Prop
structure Env0 (P : Program) (w : World) (K : Fg) (mg : Str -> Option Value) (base : Heap) (A : Around) (outer : List Env) (s : Shared) (H : Hp) : Prop where
 frames : A.frames = some outer
 mod : Mod K mg base
 bs : ∀ b o, base.get? b = some o -> s.heap.get? b = some o /\ H b = none
 bsz : base.objs.size <= s.heap.objs.size
 funs : s.heap.FunFrames base outer
 frf : ∀ b ∈ jV outer, H b = none
 hok : HOk P w H s.heap
 bare : AllBare s.gens
def CE (outer : List Env) (P : Program) (w : World) (H : Hp) (s : Shared) (Q : VK) (u : Value) (s' : Shared) : Prop :=
 ∃ v H', s'.os = s.os /\ AllBare s'.gens /\ Un (jV outer) [] H H' s.heap s'.heap /\ HOk P w H' s'.heap /\ RelV v u /\ Q v H'
def CR (CX : xa) (outer : List Env) (P : Program) (w : World) (H : Hp) (s : Shared) (Q : VK) (E : XK) (r : Result) (s' : Shared) : Prop :=
 match r with
 | .ok (.ret u) => CE outer P w H s Q u s'
 | .ok _ => False
 | .error e => CX outer H s E e s'
structure FnOk (P : Program) (w : World) (K : Fg) (mg : Str -> Option Value) (base : Heap) (CX : xa) (k : Nat) (f : Addr) (fd : FuncData) (ps : List Str) (sp : Sp) : Prop where
 len : ∀ vs H Q E, sp vs H Q E -> vs.length = ps.length
 run : ∀ (A : Around) (outer : List Env) (s : Shared) (H : Hp) (args : Args) (us : List Value) (vs : List V) (Q : VK) (E : XK), Room k A -> Env0 P w K mg base A outer s H -> BindsTo s fd args (ps.zip us) -> Vals vs us -> sp vs H Q E ->
  codeAny (model P w) A (.call (.ref f) args) (CR CX outer P w H s Q E) s
theorem FnOk.imp {P : Program} {w : World} {K : Fg} {mg : Str -> Option Value} {base : Heap} {CX : xa} {k : Nat} {f : Addr} {fd : FuncData} {ps : List Str} {sp sp' : Sp} (F : FnOk P w K mg base CX k f fd ps sp)
 (h : ∀ vs H Q E, sp' vs H Q E -> sp vs H Q E) : FnOk P w K mg base CX k f fd ps sp' :=
 ⟨λ vs H Q E q => F.len vs H Q E (h _ _ _ _ q), λ A outer s H args us vs Q E hr he hb hv hs => F.run A outer s H args us vs Q E hr he hb hv (h _ _ _ _ hs)⟩
theorem Env0.in1 {P : Program} {w : World} {K : Fg} {mg : Str -> Option Value} {base : Heap} {A : Around} {outer : List Env} {s : Shared} {H : Hp} (e : Env0 P w K mg base A outer s H) :
 Env0 P w K mg base A.in1 outer s H := ⟨e.frames, e.mod, e.bs, e.bsz, e.funs, e.frf, e.hok, e.bare⟩
section
variable {X : Cx} {pins : List (Addr × Obj)} {σ : St} {H : Hp} {s s' : Shared}
theorem Inv.env0 (I : Inv X pins σ H s) : Env0 X.prog X.w X.K X.mg X.base X.A X.stack s H :=
 ⟨I.ok.frames, I.ok.mod, I.bs, Qf I.ok.bsz I.sz, I.stack, I.stkFree, I.hok, I.bare⟩
theorem Inv.after {Q : VK} {u : Value} (I : Inv X pins σ H s) (h : CE X.stack X.prog X.w H s Q u s') : EP X pins σ Q u s' := by
 obtain ⟨v, H', os, bare, un, hok, r, q⟩ := h
 obtain ⟨hh, g, d, t, os'⟩ := s'
 obtain rfl : os' = s.os := os
 exact ⟨v, H', I.call (h' := hh) (g' := g) (d' := d) (t' := t) (ch := []) un hok bare (λ b z => absurd z (by simp)), r, q⟩
end
def nU (sp : Sp) (dvs : List V) (E : XK) (t : TA) : TE := λ σ H Q => t σ H λ vs H1 => sp (vs ++ dvs) H1 Q E
def Binds (K : Fg) (fd : FuncData) (ps : List Str) (ds : List Value) : Prop :=
 ∀ (s : Shared) (us : List Value), K.In s.heap -> (us ++ ds).length = ps.length -> BindsTo s fd ⟨us, []⟩ (ps.zip (us ++ ds))
theorem Binds.all {K : Fg} {fd : FuncData} {ps : List Str} (h : ∀ us : List Value, us.length = ps.length -> bindArgs fd ⟨us, []⟩ = pure (ps.zip us)) : Binds K fd ps [] := λ s us _ hl => by
 rw [Q4] at hl ⊢
 exact .of_eq (h us hl)
def mo (CX : xa) (X : Cx) (E : XK) : Prop := ∀ (pins : List (Addr × Obj)) (σ : St) (H : Hp) (s : Shared) (e : Value) (s' : Shared), Inv X pins σ H s -> CX X.stack H s E e s' -> X.xe e s'
section
variable {X : Cx} {CX : xa} {k : Nat} {f C : Addr} {fd : FuncData} {ps : List Str} {sp : Sp} {dvs : List V} {ds : List Value} {E : XK} {x m : Str} {p pos apos : Pos} {e o : Expr} {es : List Expr} {ta : TE} {t : TA}
theorem zc {pins : List (Addr × Obj)} {σ : St} {H : Hp} {s : Shared} {Q : VK} {us : List Value} {vs : List V} (F : FnOk X.prog X.w X.K X.mg X.base CX k f fd ps sp) (hr : Room k X.A) (hb : Binds X.K fd ps ds) (hd : Vals dvs ds) (hx : mo CX X E)
 (I : Inv X pins σ H s) (r : Vals vs us) (h : sp (vs ++ dvs) H Q E) : wpAny (model X.prog X.w) X.A (call (.ref f) us) (EP X pins σ Q) X.xe s := by
 have r2 : Vals (vs ++ dvs) (us ++ ds) := r.append hd
 have hl : (us ++ ds).length = ps.length := by rw [<- r2.length]; exact F.len _ _ _ _ h
 refine wpAny_call (codeAny_mono (F.run X.A X.stack s H ⟨us, []⟩ (us ++ ds) (vs ++ dvs) Q E hr I.env0 (hb s us I.kIn hl) r2 h) λ r s' hq => ?_)
 cases r with
 | error e => exact hx pins σ H s e s' I hq
 | ok fl =>
  cases fl with
  | ret u => exact I.after hq
  | next => exact False.elim hq
  | brk => exact False.elim hq
  | cont => exact False.elim hq
theorem wf (F : FnOk X.prog X.w X.K X.mg X.base CX k f fd ps sp) (hr : Room k X.A) (hg : Gl X x) (hm : X.mg x = some (.ref f)) (hk : PySem.W.keepIn X.K (.ref f) = true) (hb : Binds X.K fd ps ds) (hd : Vals dvs ds) (hx : mo CX X E)
 (ha : PA X (e :: es) t) (hdb : (x == ("__debug__" : Str)) = false := by decide) (he : starEach (e :: es) X.env = (false, eval e X.env) :: starEach es X.env := by rfl) (hpl : (backTo pos (starEach es X.env)).any (·.1) = false := by rfl) :
 PE X (.Call (.Name x p) (e :: es) [] pos) (nU sp dvs E t) := by
 intro pins s σ H Q I h
 refine wpAny_Call_Name_kw (oK I hg hm ?_ hdb)
 refine PySem.W.callWith_K (h₀ := X.base) I.ok.mod.kin hk (dm (ha pos pins s σ H _ I h) λ us s1 ⟨vs, H1, I1, r, q⟩ => ⟨I1.kIn, ?_⟩) he hpl
 exact zc F hr hb hd hx I1 r q
end
section
variable {X : Cx} {CX : xa} {k : Nat} {f C : Addr} {fd : FuncData} {ps ks : List Str} {sp : Sp} {E : XK} {x m : Str} {p pos apos kpos : Pos} {e o : Expr} {es : List Expr} {kws : List Keyword} {te ta : TE} {t tk : TA} {nm : Option Str}
variable {g : List Value -> List Value -> List Value} {gV : List V -> List V -> List V}
end
structure FnScope (N P : List Str) (sc : Scope) : Prop where
 kind : sc.kind = .function
 co : sc.isCoroutine = false
 gen : sc.isGenerator = false
 nd : N.Nodup
 pre : N.take P.length = P
 par : ∀ x ∈ P, sc.names.lookup x = some .local \/ sc.names.lookup x = some .cell
 nofree : ∀ y ∈ sc.names, y.2 ≠ .free
theorem qr {kindOf : Str -> Option NameKind} {x : Str} : ∀ {binds : List (Str × Value)} {m : Str -> Option Value}, (∀ v, (x, v) ∉ binds) -> bindL kindOf binds m x = m x
 | [], _, _ => rfl
 | (n, v) :: r, m, h => by
  unfold bindL
  rw [qr λ w hw => h w (nv _ hw)]
  split
  · have : x ≠ n := by rintro rfl; exact h v oW
    simp [this]
  · rfl
theorem qs {kindOf : Str -> Option NameKind} {x : Str} : ∀ {binds : List (Str × Value)} {m : Str -> Option Value}, (∀ v, (x, v) ∉ binds) -> bindC kindOf binds m x = m x
 | [], _, _ => rfl
 | (n, v) :: r, m, h => by
  unfold bindC
  rw [qs λ w hw => h w (nv _ hw)]
  split
  · rfl
  · have : x ≠ n := by rintro rfl; exact h v oW
    simp [this]
theorem qt {kindOf : Str -> Option NameKind} {x : Str} {v : Value} : ∀ {P : List Str} {vs : List Value} {i : Nat} {m : Str -> Option Value}, P.Nodup -> P[i]? = some x -> vs[i]? = some v -> kindOf x = some .local ->
 bindL kindOf (P.zip vs) m x = some v
 | [], _, _, _, _, h, _, _ => by simp at h
 | _ :: _, [], _, _, _, _, h, _ => by simp at h
 | p :: P, w :: vs, 0, m, nd, h1, h2, hk => by
  simp at h1 h2; subst h1; subst h2
  show bindL kindOf ((p, w) :: P.zip vs) m p = _
  unfold bindL
  rw [qr λ v hv => (List.nodup_cons.mp nd).1 (List.of_mem_zip hv).1, if_pos hk]
  simp
 | p :: P, w :: vs, i + 1, m, nd, h1, h2, hk => by
  show bindL kindOf ((p, w) :: P.zip vs) m x = _
  unfold bindL
  exact qt (i := i) (List.nodup_cons.mp nd).2 (by simpa using h1) (by simpa using h2) hk
theorem qu {kindOf : Str -> Option NameKind} {x : Str} {v : Value} : ∀ {P : List Str} {vs : List Value} {i : Nat} {m : Str -> Option Value}, P.Nodup -> P[i]? = some x -> vs[i]? = some v -> kindOf x ≠ some .local ->
 bindC kindOf (P.zip vs) m x = some v
 | [], _, _, _, _, h, _, _ => by simp at h
 | _ :: _, [], _, _, _, _, h, _ => by simp at h
 | p :: P, w :: vs, 0, m, nd, h1, h2, hk => by
  simp at h1 h2; subst h1; subst h2
  show bindC kindOf ((p, w) :: P.zip vs) m p = _
  unfold bindC
  rw [qs λ v hv => (List.nodup_cons.mp nd).1 (List.of_mem_zip hv).1, if_neg hk]
  simp
 | p :: P, w :: vs, i + 1, m, nd, h1, h2, hk => by
  show bindC kindOf ((p, w) :: P.zip vs) m x = _
  unfold bindC
  exact qu (i := i) (List.nodup_cons.mp nd).2 (by simpa using h1) (by simpa using h2) hk
def gU (N : List Str) (vs : List V) : St := vs.map some ++ List.replicate (N.length - vs.length) none
noncomputable def ke (CX : xa) (P : Program) (w : World) (K : Fg) (mg : Str -> Option Value) (base : Heap) (N : List Str) (qual : Str) (scope : Scope) (f : Addr) (cd : Value) (A : Around) (outer : List Env) (s : Shared) (H : Hp) (E : XK) : Cx where
 prog := P
 w := w
 K := K
 mg := mg
 base := base
 A := A.deeper (envOfC qual scope s.heap.objs.size f cd)
 N := N
 s₀ := s
 H₀ := H
 env := envOfC qual scope s.heap.objs.size f cd
 outer := outer
 stack := envOfC qual scope s.heap.objs.size f cd :: outer
 ex := []
 calm := true
 fn := λ _ => true
 pn := []
 xe := λ e s' => wpAny (model P w) (A.deeper (envOfC qual scope s.heap.objs.size f cd)) (leaving (envOfC qual scope s.heap.objs.size f cd) e) (λ _ s'' => CX outer H s E e s'') (λ e' s'' => CX outer H s E e' s'') s'
theorem tT {sc : Scope} {n : Nat} {x : Str} (h : sc.names.lookup x = some .cell) : ∃ c, (cellsFrom n sc.names []).lookup x = some c := by
 have q := PySem.W.cellsFrom_some sc.names n [] (.inl h)
 exact Option.isSome_iff_exists.mp q
theorem xb {CX : xa} {P : Program} {w : World} {K : Fg} {mg : Str -> Option Value} {base : Heap} {N ps : List Str} {qual : Str} {scope : Scope} {f : Addr} {cd : Value} {A : Around} {outer : List Env} {s s1 : Shared} {H : Hp} {E : XK} {us : List Value} {vs : List V}
 (S : FnScope N ps scope) (hd : A.handled = none) (e0 : Env0 P w K mg base A outer s H) (hl : vs.length = ps.length) (r : Vals vs us)
 (x : InCallC s s.heap.objs.size (bindL (envOfC qual scope s.heap.objs.size f cd).kindOf (ps.zip us) λ _ => none) (cellsFrom (s.heap.objs.size + 1) scope.names []) (bindC (envOfC qual scope s.heap.objs.size f cd).kindOf (ps.zip us) λ _ => none) s1) :
 Inv (ke CX P w K mg base N qual scope f cd A outer s H E) [] (gU N vs) H s1 := by
 have hpl : ps.length <= N.length := by have := congrArg List.length S.pre; rw [vC] at this; omega
 obtain ⟨h1, tk, rfl, hk⟩ := x.done
 have noA : ∀ b : Addr, b ∉ (ke CX P w K mg base N qual scope f cd A outer s H E).ex := λ b z => absurd (show b ∈ ([] : List Addr) from z) (by simp)
 refine ⟨⟨e0.mod, S.kind, rfl, rfl, Q2 _, λ y z c h1 h2 => ?_, λ y hy => ?_, λ y c _ h => ?_, λ _ => hd, Around.frames_deeper e0.frames, .inr ⟨rfl, rfl⟩, λ b z => absurd z (noA b), e0.bs, e0.bsz, λ b _ _ => noA b, λ b z => absurd z (noA b), e0.funs, e0.frf⟩,
  rfl, e0.bare, Un.kept hk, ⟨_, x.toInCall.ns, λ i y v h1 h2 h3 => ?_⟩, λ y c h => ⟨_, x.cell y c h⟩, e0.hok.fresh (Q2 _), λ y c h => ?_, λ p hp => absurd (show p ∈ ([] : List (Addr × Obj)) from hp) (by simp), e0.hok.kept hk, ?_⟩
 · exact name_of_addr x.apart (PySem.mem_of_lookup h1) (PySem.mem_of_lookup h2)
 · have hy : scope.names.lookup y = some .cell \/ scope.names.lookup y = some .free := hy
   rcases hy with hy | hy
   · exact tT hy
   · exact absurd rfl (S.nofree _ (PySem.mem_of_lookup hy))
 · exact xW (x.above y c (PySem.mem_of_lookup h))
 · have hi : i < vs.length := by
    unfold gU at h2
    by_cases hi : i < vs.length
    · exact hi
    · rw [Q9 (by simpa using hi)] at h2
      rw [Qd] at h2
      split at h2 <;> cases h2
   have ha : vs[i]? = some v := by
    unfold gU at h2
    rw [Q8 (by simpa using hi), zK] at h2
    cases e : vs[i]? with
    | none => rw [e] at h2; cases h2
    | some a => rw [e] at h2; cases h2; rfl
   obtain ⟨u, hu, rv⟩ := r.get ha
   have hp : ps[i]? = some y := by
    rw [<- S.pre, List.getElem?_take_of_lt (by omega)]; exact h1
   have ndP : ps.Nodup := by rw [<- S.pre]; exact S.nd.sublist (List.take_sublist _ _)
   refine ⟨u, rv, ?_⟩
   rcases S.par y (List.mem_of_getElem? hp) with k | k
   · exact .inl ⟨k, qt ndP hp hu k⟩
   · obtain ⟨c, e⟩ := tT (n := s.heap.objs.size + 1) k
     refine .inr ⟨.inl k, c, e, ?_⟩
     have q := x.cell y c e
     rw [qu ndP hp hu (by show scope.names.lookup y ≠ _; rw [k]; decide)] at q
     exact q
 · exact e0.hok.fresh (xW (x.above y c (PySem.mem_of_lookup h)))
 · unfold gU
   show _ = N.length
   rw [zQ, zJ, ym]
   omega
theorem DP {CX : xa} {P : Program} {w : World} {K : Fg} {mg : Str -> Option Value} {base : Heap} {k : Nat} {f : Addr} {name qual : Str} {params : Arguments} {body : List Stmt} {scope : Scope} {dV kV doc pm cdv ct oc : Value} {an od : Option Addr}
 {osl : Array (Option Value)} {N ps : List Str} {sp : Sp} (lk : K.lookup f = some ⟨oc, od, .func (PySem.W.fnOf name qual params body scope dV kV doc pm an cdv ct), osl⟩) (hcd : PySem.W.codeIn K cdv qual = true) (S : FnScope N ps scope)
 (len : ∀ vs H Q E, sp vs H Q E -> vs.length = ps.length)
 (hbody : ∀ (A : Around) (outer : List Env) (s : Shared) (H : Hp) (vs : List V) (Q : VK) (E : XK), Room k (A.deeper (envOfC qual scope s.heap.objs.size f cdv)) -> sp vs H Q E ->
  ∃ t, PSs (ke CX P w K mg base N qual scope f cdv A outer s H E) body t /\ t { nx := λ _ H' => Q .non H', rt := Q } (gU N vs) H) :
 FnOk P w K mg base CX (k + 1) f (PySem.W.fnOf name qual params body scope dV kV doc pm an cdv ct) ps sp := by
 refine ⟨len, λ A outer s H args us vs Q E hr e0 hb r hsp => ?_⟩
 have hl := len _ _ _ _ hsp
 have KX : K.In s.heap := e0.mod.kin.keeps λ b o e => (e0.bs b o e).1
 have lim : s.heap.NoLimit := e0.mod.nolimit.keeps λ b o e => (e0.bs b o e).1
 have hkind : ∀ y ∈ ps.zip us, scope.names.lookup y.1 = some .local \/ (scope.names.lookup y.1 = some .cell /\ ((cellsFrom (s.heap.objs.size + 1) scope.names []).lookup y.1).isSome = true) := λ ⟨n, v⟩ hy => by
  rcases S.par n (List.of_mem_zip hy).1 with q | q
  · exact .inl q
  · exact .inr ⟨q, PySem.W.cellsFrom_some _ _ _ (.inl q)⟩
 refine codeAny_call_function hr.depth (KX _ _ lk) rfl S.co S.gen rfl (PySem.W.codeRec_of KX hcd) (hb _ _ _ _ ?_)
 refine wpAny_newFunctionEnv_cells S.kind hkind λ env he s1 x => ?_
 subst he
 refine ⟨lim.keeps x.toInCall.keep, codeAny_func ?_⟩
 obtain ⟨t, ht, hq⟩ := hbody A outer s H vs Q E (hr.deeper _) hsp
 have I : Inv (ke CX P w K mg base N qual scope f cdv A outer s H E) [] (gU N vs) H s1 := xb S hr.hd e0 hl r x
 refine wpAny_mono (ht [] s1 (gU N vs) H _ I hq) (λ fl s' hs => ?_) λ e s' hs => hs
 have fin : ∀ {σ' : St} {H' : Hp} {v : V} {u : Value}, Inv (ke CX P w K mg base N qual scope f cdv A outer s H E) [] σ' H' s' -> RelV v u -> Q v H' -> CE outer P w H s Q u s' :=
  λ {σ' H' v u} J rv q => ⟨v, H', J.os, J.bare, J.base, J.hok, rv, q⟩
 cases fl with
 | ret u =>
  obtain ⟨v, σ', H', J, rv, q⟩ := hs
  exact fin J rv q
 | next =>
  obtain ⟨σ', H', J, q⟩ := hs
  exact fin (v := V.non) (u := Value.none) J rfl q
 | brk =>
  obtain ⟨_, _, _, q⟩ := hs
  exact False.elim q
 | cont =>
  obtain ⟨_, _, _, q⟩ := hs
  exact False.elim q
section
variable {X : Cx} {x : Str} {p pos : Pos} {e : Expr} {es : List Expr} {t : TA} {id T : String} {r : List V -> Hp -> VK -> Prop}
def Bq (r : List V -> Hp -> VK -> Prop) (t : TA) : TE := λ σ H Q => t σ H λ vs H1 => r vs H1 Q
theorem bF (hc : dq X (.builtin id) r) (hg : Gl X x) (hm : X.mg x = none) (hv : bootBuiltins x = some (.builtin id)) (ha : PA X (e :: es) t) (hn : x ≠ "__name__" := by decide) (hdb : (x == ("__debug__" : Str)) = false := by decide)
 (he : starEach (e :: es) X.env = (false, eval e X.env) :: starEach es X.env := by rfl) (hpl : (backTo pos (starEach es X.env)).any (·.1) = false := by rfl) : PE X (.Call (.Name x p) (e :: es) [] pos) (Bq r t) := by
 intro pins s σ H Q I h
 refine wpAny_Call_Name_kw (mk I hg hm hv ?_ hn hdb)
 exact PyProof.Rows.callWith_builtin1 (dm (ha pos pins s σ H _ I h) λ us s1 q_ => by obtain ⟨vs, H1, I1, r1, q1⟩ := q_; exact hc pins s1 σ H1 vs us Q I1 r1 q1) he hpl
theorem cq (hc : dq X (.type T) r) (hg : Gl X x) (hm : X.mg x = none) (hv : bootBuiltins x = some (.type T)) (ha : PA X (e :: es) t) (hn : x ≠ "__name__" := by decide) (hdb : (x == ("__debug__" : Str)) = false := by decide)
 (he : starEach (e :: es) X.env = (false, eval e X.env) :: starEach es X.env := by rfl) (hpl : (backTo pos (starEach es X.env)).any (·.1) = false := by rfl) : PE X (.Call (.Name x p) (e :: es) [] pos) (Bq r t) := by
 intro pins s σ H Q I h
 refine wpAny_Call_Name_kw (mk I hg hm hv ?_ hn hdb)
 exact PyProof.Rows.callWith_type1 (dm (ha pos pins s σ H _ I h) λ us s1 q_ => by obtain ⟨vs, H1, I1, r1, q1⟩ := q_; exact hc pins s1 σ H1 vs us Q I1 r1 q1) he hpl
end
end L2
namespace HT
open PySem PyProof.Rows
section
open PySem.SeqAt
open PySem.AutoSeq1 (wpAny_loadPart')
open PySem.MeetsSeq PySem.MeetsSeq2 PySem.MeetsSeq3
end
section
variable {prog : Program} {w : World} {A : Around} {E : Value -> Shared -> Prop} {s : Shared}
theorem Br {t b : Addr} {vs ws : List Value} {Q : Value -> Shared -> Prop} (ht : IsTup s.heap t vs.toArray) (hb : IsTup s.heap b ws.toArray) (hv : vs ≠ [])
 (h1 : ws = [] -> Q (.ref t) s) (h2 : ws ≠ [] -> Q (.ref s.heap.objs.size) { s with heap := s.heap.push { cls := .type "tuple", data := .seq (vs ++ ws).toArray } })
 (hsz : vs.length + ws.length <= sizeLine) : wpAny (model prog w) A (binaryOp .Add (.ref t) (.ref b)) Q E s := by
 obtain ⟨⟨cls, dd, data, sl⟩, ho, hc, n, hd⟩ := id ht
 obtain ⟨⟨cls2, dd2, data2, sl2⟩, ho2, hc2, n2, hd2⟩ := id hb
 simp only at hc hd hc2 hd2
 subst hc hd hc2 hd2
 have e : vs.toArray ++ ws.toArray = (vs ++ ws).toArray := by simp
 by_cases hw : ws = []
 · exact concat_meets ⟨_, ho, rfl⟩ ⟨_, ho2, rfl⟩ noFill_tuple_add seq_tuple_add PySem.F.slot_tuple_add PySem.F.entry_tuple_add (PySem.F.args_tuple_add_2 _ _)
    (tuple_addW1 t b vs.toArray ws.toArray n n2 dd dd2 sl sl2 (by simpa using hv) (by simp [hw])) ⟨ho, ho2, h1 hw⟩
 · refine concat_meets ⟨_, ho, rfl⟩ ⟨_, ho2, rfl⟩ noFill_tuple_add seq_tuple_add PySem.F.slot_tuple_add PySem.F.entry_tuple_add (PySem.F.args_tuple_add_2 _ _)
    (tuple_addW2 t b vs.toArray ws.toArray n n2 dd dd2 sl sl2 (by simpa using hv) (by simpa using hw) (by rw [zM, zM]; exact hsz)) ⟨ho, ho2, ?_⟩
   rw [e]
   exact h2 hw
noncomputable def eS (n d : Nat) : Option Int -> Nat
 | none => d
 | some v => if v < 0 then (v + (n : Int)).toNat else min v.toNat n
theorem zd (n d : Nat) : eS n d none = d := rfl
theorem Dw (n d : Nat) (hd : d <= n) (o : Option Int) : eS n d o <= n := by
 cases o with
 | none => exact hd
 | some v =>
  show (if v < 0 then (v + (n : Int)).toNat else min v.toNat n) <= n
  by_cases hv : v < 0
  · rw [if_pos hv]; omega
  · rw [if_neg hv]; exact Nat.min_le_right _ _
theorem wg (v : Int) (n d : Nat) : (if v < 0 then max (v + (n : Int)) 0 else min v (n : Int)) = ((eS n d (some v) : Nat) : Int) := by
 show (if v < 0 then max (v + (n : Int)) 0 else min v (n : Int)) = (((if v < 0 then (v + (n : Int)).toNat else min v.toNat n) : Nat) : Int)
 by_cases hv : v < 0
 · simp only [if_pos hv]; omega
 · simp only [if_neg hv]; omega
theorem vO (lo hi : Option Int) (n : Nat) : Builtin.Slice.sliceAdjust lo hi 1 (n : Int) = (((eS n 0 lo : Nat) : Int), ((eS n n hi : Nat) : Int)) := by
 have h1 : ¬ ((1 : Int) < 0) := by omega
 unfold Builtin.Slice.sliceAdjust
 simp only [h1, if_false]
 refine Prod.ext ?_ ?_
 · cases lo with
   | none => rfl
   | some v => exact wg v n 0
 · cases hi with
   | none => rfl
   | some v => exact wg v n n
theorem vP (i j : Nat) : Builtin.Slice.slicePlaces (i : Int) (j : Int) 1 = j - i := by
 unfold Builtin.Slice.slicePlaces
 have h1 : (1 : Int) > 0 := by omega
 simp only [h1, if_true, Int.ediv_one]
 split <;> omega
theorem oh {v : Value} {o : Option Int} {Q : Option Int -> Shared -> Prop} (p : IsPart v o) (h : Q o s) : wpAny (model prog w) A (Builtin.Slice.slicePartIndex v) Q E s := by
 cases p with
 | none => exact slicePart_none h
 | int i t => exact slicePart_int h
theorem iL {sl : Addr} {vl vu : Value} {lo hi : Option Int} {n : Nat} {Q : Int × Int × Nat -> Shared -> Prop} (hs : s.heap.IsSliceOf sl vl vu .none) (pl : IsPart vl lo) (pu : IsPart vu hi)
 (h : Q (((eS n 0 lo : Nat) : Int), 1, eS n n hi - eS n 0 lo) s) : wpAny (model prog w) A (Builtin.Slice.sliceApplied (.ref sl) (pure (n : Int))) Q E s := by
 obtain ⟨os, hos, hcs, hds⟩ := id hs
 unfold Builtin.Slice.sliceApplied Builtin.Slice.sliceFields
 refine wB (wB (wpAny_field hos hds (x := vl) rfl (wB (wpAny_field hos hds (x := vu) rfl (wB (wpAny_field hos hds (x := .none) rfl (wP ?_)))))))
 refine wB (slicePart_none ?_)
 show wpAny _ _ (if ((1 : Int) == 0) = true then _ else _) _ _ s
 rw [if_neg (by decide)]
 refine wB (oh pl (wB (oh pu (wB (wP ?_)))))
 show wpAny _ _ (match Builtin.Slice.sliceAdjust lo hi 1 (n : Int) with | (lo, hi) => pure (lo, (1 : Int), Builtin.Slice.slicePlaces lo hi 1)) _ _ s
 rw [vO lo hi n]
 show wpAny _ _ (pure (((eS n 0 lo : Nat) : Int), (1 : Int), Builtin.Slice.slicePlaces ((eS n 0 lo : Nat) : Int) ((eS n n hi : Nat) : Int) 1)) _ _ s
 rw [vP]
 exact wP h
theorem zf (xs : Array Value) (i k : Nat) : ((List.range k).filterMap λ (m : Nat) => xs[((i : Int) + (m : Int) * 1).toNat]?).toArray = ((xs.toList.drop i).take k).toArray := by
 have e : (λ (m : Nat) => xs[((i : Int) + (m : Int) * 1).toNat]?) = λ m => xs[i + m]? := by
  funext m
  have : ((i : Int) + (m : Int) * 1).toNat = i + m := by omega
  rw [this]
 rw [e]
 have := pick_run xs i k
 rw [List.filterMap_map] at this
 have e2 : ((λ x => xs[x]?) ∘ λ x => i + x) = λ m => xs[i + m]? := rfl
 rw [e2] at this
 rw [this]
theorem lN {t sl : Addr} {items : Array Value} {vl vu : Value} {lo hi : Option Int} {Q : Value -> Shared -> Prop} (ht : IsTup s.heap t items) (hs : s.heap.IsSliceOf sl vl vu .none) (pl : IsPart vl lo) (pu : IsPart vu hi)
 (hw : ¬ (eS items.size 0 lo = 0 /\ eS items.size items.size hi = items.size))
 (h : Q (.ref s.heap.objs.size) { s with heap := s.heap.push { cls := .type "tuple", data := .seq ((items.toList.drop (eS items.size 0 lo)).take (eS items.size items.size hi - eS items.size 0 lo)).toArray } })
 (hsz : items.size <= sizeLine) : wpAny (model prog w) A (getItem (.ref t) (.ref sl)) Q E s := by
 have htake : sizeOk (.seq ((items.toList.drop (eS items.size 0 lo)).take (eS items.size items.size hi - eS items.size 0 lo)).toArray) := by
  show ((items.toList.drop (eS items.size 0 lo)).take (eS items.size items.size hi - eS items.size 0 lo)).toArray.size <= sizeLine
  rw [zM, vC, DD, Q6]
  omega
 have hj : eS items.size items.size hi <= items.size := Dw _ _ (Q2 _) hi
 obtain ⟨os, hos, hcs, hds⟩ := id hs
 have hTs : s.TypeIs (.ref sl) "slice" := ⟨os, hos, hcs⟩
 unfold getItem
 try with_reducible refine wpAny_holding ?_
 first | refine wB (wP ?_) | skip
 refine wB (wpAny_sequenceKey ht.typeIs (by decide) ?_)
 refine wB (wpAny_callSpecial?_slot (name := Str.ofString "__getitem__") ht.typeIs PyProof.Rows.slot_tuple_getitem
  (wpAny_call_entry PyProof.Rows.slot_tuple_getitem ht.typeIs entry_tuple_getitem ?_ (args_tuple_getitem _ _)))
 show wpAny _ _ (Builtin.Tuple.tupleItemsOf (.ref t) >>= _) _ _ s
 refine wB (tupleItemsOf_ ht ?_)
 refine wB (wpAny_typeOf hTs ?_)
 rw [if_pos (by decide)]
 refine wB (iL hs pl pu ?_)
 have hno : ¬ ((((eS items.size 0 lo : Nat) : Int) == 0 && (1 : Int) == 1 && (eS items.size items.size hi - eS items.size 0 lo) == items.size) = true) := by
  intro q
  rw [Qa, Qa] at q
  have q1 : ((eS items.size 0 lo : Nat) : Int) = 0 := eq_of_beq q.1.1
  have q2 : eS items.size items.size hi - eS items.size 0 lo = items.size := eq_of_beq q.2
  exact hw ⟨by omega, by omega⟩
 show wpAny _ _ (if (((eS items.size 0 lo : Nat) : Int) == 0 && (1 : Int) == 1 && (eS items.size items.size hi - eS items.size 0 lo) == items.size) = true then _ else _) _ _ s
 rw [if_neg hno, zf]
 first
  | exact wB (m := Builtin.Tuple.tupleExact _) (wpAny_newObj_type (wP ⟨_, rfl, wP h⟩) htake)
  | exact wB (m := Builtin.Tuple.tupleExact _) (wpAny_newObj_type (wB (wP (wP ⟨_, rfl, wP h⟩))) htake)
  | exact wB (wB (m := Builtin.Tuple.tupleExact _) (wpAny_newObj_type (wP (wP ⟨_, rfl, wP h⟩)) htake))
  | exact wB (wB (m := Builtin.Tuple.tupleExact _) (wpAny_newObj_type (wP ⟨_, rfl, wP h⟩) htake))
end
end HT
namespace L2
open PySem PySem.Spec PyProof.Rows
noncomputable abbrev TO := St -> Hp -> (Option Int -> Hp -> Prop) -> Prop
def PO (X : Cx) (e : Option Expr) (t : TO) : Prop :=
 ∀ (pins : List (Addr × Obj)) (s : Shared) (σ : St) (H : Hp) (Q : Option Int -> Hp -> Prop), Inv X pins σ H s -> t σ H Q ->
  wpAny (model X.prog X.w) X.A (evalPart e X.env) (λ u s' => ∃ o H', Inv X pins σ H' s' /\ IsPart u o /\ Q o H') X.xe s
noncomputable def wj : TO := λ _ H Q => Q none H
noncomputable def DQ (t : TE) : TO := λ σ H Q => t σ H λ x H1 => ∃ i, x = .int i /\ Q (some i) H1
section
variable {X : Cx} {e : Expr} {te : TE} {lo hi : Option Expr} {tl th : TO} {pos p2 : Pos}
theorem rn : PO X none wj := by
 intro pins s σ H Q I h
 rw [evalPart_none]
 exact wP ⟨none, H, I, .none, h⟩
theorem rp (h : PE X e te) : PO X (some e) (DQ te) := by
 intro pins s σ H Q I hw
 rw [evalPart_some]
 refine dm (h pins s σ H _ I hw) λ u s1 q_ => ?_
 obtain ⟨x, H1, I1, r1, q1⟩ := q_
 obtain ⟨i, rfl, q⟩ := q1
 obtain ⟨t, rfl⟩ := r1
 exact ⟨some i, H1, I1, .int i t, q⟩
def SlR (X : Cx) (r : V -> Option Int -> Option Int -> Hp -> VK -> Prop) : Prop :=
 ∀ (pins : List (Addr × Obj)) (s : Shared) (σ : St) (H : Hp) (x : V) (v vl vu : Value) (lo hi : Option Int) (sl : Addr) (Q : VK), Inv X pins σ H s -> RelV x v -> s.heap.IsSliceOf sl vl vu .none -> IsPart vl lo -> IsPart vu hi -> r x lo hi H Q ->
  ∃ T id, typeLookup (.type T) "__getitem__" = pure (some (.builtin id)) /\ s.TypeIs v T /\ wpAny (model X.prog X.w) X.A (getItem v (.ref sl)) (EP X pins σ Q) X.xe s
theorem SlR.or {r r' : V -> Option Int -> Option Int -> Hp -> VK -> Prop} (h : SlR X r) (h' : SlR X r') : SlR X (λ x lo hi H Q => r x lo hi H Q \/ r' x lo hi H Q) := by
 intro pins s σ H x v vl vu lo hi sl Q I rx hs pl pu q
 rcases q with q | q
 · exact h pins s σ H x v vl vu lo hi sl Q I rx hs pl pu q
 · exact h' pins s σ H x v vl vu lo hi sl Q I rx hs pl pu q
def GY (r : V -> Option Int -> Option Int -> Hp -> VK -> Prop) (te : TE) (tl th : TO) : TE := λ σ H Q => te σ H λ x H1 => tl σ H1 λ l H2 => th σ H2 λ u H3 => r x l u H3 Q
theorem oj {r : V -> Option Int -> Option Int -> Hp -> VK -> Prop} (hr : SlR X r) (he : PE X e te) (hl : PO X lo tl) (hu : PO X hi th) : PE X (.Subscript e (.Slice lo hi none p2) pos) (GY r te tl th) := by
 intro pins s σ H Q I h
 refine Subscript_ (dm (he pins s σ H _ I h) λ v s1 q_ => ?_)
 obtain ⟨x, H1, I1, r1, q1⟩ := q_
 refine wpAny_Slice (dm (hl pins s1 σ H1 _ I1 q1) λ vl s2 ⟨l, H2, I2, pl, q2⟩ => dm (hu pins s2 σ H2 _ I2 q2) λ vu s3 q_ => ?_)
 obtain ⟨u, H3, I3, pu, q3⟩ := q_
 rw [evalPart_none]
 refine wP ?_
 have I4 : Inv X pins σ H3 { s3 with heap := s3.heap.push { cls := .type "slice", data := .fields #[vl, vu, .none] } } := I3.kept (t' := s3.toks) λ b ob q => gy _ q
 obtain ⟨T, id, hT, ht, hg⟩ := hr pins { s3 with heap := s3.heap.push { cls := .type "slice", data := .fields #[vl, vu, .none] } } σ H3 x v vl vu l u s3.heap.objs.size Q I4 r1 (Heap.IsSliceOf.new ..) pl pu q3
 show wpAny (model X.prog X.w) X.A (subscriptTail e (.Slice lo hi none p2) v (.ref s3.heap.objs.size)) (EP X pins σ Q) X.xe { s3 with heap := s3.heap.push { cls := .type "slice", data := .fields #[vl, vu, .none] } }
 exact tail_any (ops := [.ref s3.heap.objs.size, v]) ht hT hg (by with_unfolding_all rfl)
noncomputable def tU (xs : List V) (lo hi : Option Int) : List V := (xs.drop (HT.eS xs.length 0 lo)).take (HT.eS xs.length xs.length hi - HT.eS xs.length 0 lo)
theorem nV (xs : List V) (lo hi : Option Int) : (tU xs lo hi).length <= xs.length := by
 unfold tU
 rw [vC, DD]
 omega
def FI (K : Fg) : V -> Option Int -> Option Int -> Hp -> VK -> Prop := λ x lo hi H Q => ∃ a xs, x = .ref a /\ SqT K H a xs /\
 ¬ (HT.eS xs.length 0 lo = 0 /\ HT.eS xs.length xs.length hi = xs.length) /\ ∀ p, H p = none -> Q (.ref p) (cZ H p (.tup (tU xs lo hi)))
theorem Dx : SlR X (FI X.K) := by
 intro pins s σ H x v vl vu lo hi sl Q I rx hs pl pu h
 obtain ⟨a, xs, rfl, hx, hw, q⟩ := h
 cases rx
 obtain ⟨its, r, ht, hz⟩ := I.tuple hx
 have hlen : its.toArray.size = xs.length := by rw [zM]; exact r.length.symm
 refine ⟨"tuple", _, PyProof.Rows.slot_tuple_getitem.lookup, ht.typeIs, ?_⟩
 refine HT.lN ht hs pl pu (by rw [hlen]; exact hw) ?_ (by rw [hlen]; exact hz)
 rw [hlen]
 refine ⟨.ref s.heap.objs.size, _, I.laid (t' := s.toks) (o := .tup (tU xs lo hi)) (λ b ob q => gy _ q) (Q2 _) ?_, rfl, q _ (I.hok.fresh (Q2 _))⟩
 exact ⟨Qf (nV xs lo hi) hz, _, (r.drop (HT.eS xs.length 0 lo)).take (HT.eS xs.length xs.length hi - HT.eS xs.length 0 lo), IsTup.new _ _, _, jm _ rfl, rfl⟩
def FJ (K : Fg) : R2 := λ x y H Q => ∃ a b xs ys, x = .ref a /\ y = .ref b /\ SqT K H a xs /\ SqT K H b ys /\ xs ≠ [] /\ xs.length + ys.length <= sizeLine /\
 (ys = [] -> Q (.ref a) H) /\ (ys ≠ [] -> ∀ p, H p = none -> Q (.ref p) (cZ H p (.tup (xs ++ ys))))
theorem Vals.nil_iff {xs : List V} {us : List Value} (r : Vals xs us) : us = [] ↔ xs = [] := by
 cases r with
 | nil => simp
 | cons _ _ => simp
theorem Bu : OpR X (binaryOp .Add) (FJ X.K) := by
 intro pins s σ H x y v u Q I rx ry h
 obtain ⟨a, b, xs, ys, rfl, rfl, ha, hb, hx, hz, q1, q2⟩ := h
 cases rx
 cases ry
 obtain ⟨its, r1, p1, _⟩ := I.tuple ha
 obtain ⟨its2, r2, p2, _⟩ := I.tuple hb
 refine HT.Br p1 p2 (λ z => hx (r1.nil_iff.mp z)) (λ z => ⟨.ref a, H, I, rfl, q1 (r2.nil_iff.mp z)⟩) (λ z => ?_) (by rw [<- r1.length, <- r2.length]; exact hz)
 refine ⟨.ref s.heap.objs.size, _, I.laid (t' := s.toks) (o := .tup (xs ++ ys)) (λ b ob q => gy _ q) (Q2 _) ?_, rfl, q2 (λ w => z (r2.nil_iff.mpr w)) _ (I.hok.fresh (Q2 _))⟩
 exact ⟨by rw [zQ]; exact hz, _, r1.append r2, IsTup.new _ _, _, jm _ rfl, rfl⟩
end
noncomputable def vQ (n : Nat) (i : Int) : Option Nat := if 0 <= i then (if i < n then some i.toNat else none) else if -(n : Int) <= i then some (i + n).toNat else none
noncomputable def nW {α : Type} (xs : List α) (i : Int) : Option α := (vQ xs.length i).bind λ j => xs[j]?
theorem wk {n : Nat} {i : Int} {j : Nat} (h : vQ n i = some j) : seqIndex? i n = some j /\ j < n /\ -(n : Int) <= i /\ i < n := by
 unfold vQ at h
 by_cases h0 : 0 <= i
 · rw [if_pos h0] at h
   by_cases h1 : i < n
   · rw [if_pos h1] at h
     have e : i.toNat = j := zV h
     exact ⟨by rw [seqIndex_of h0 h1, e], by omega, by omega, h1⟩
   · rw [if_neg h1] at h; cases h
 · rw [if_neg h0] at h
   by_cases h1 : -(n : Int) <= i
   · rw [if_pos h1] at h
     have e : (i + n).toNat = j := zV h
     exact ⟨by rw [seqIndex_neg (by omega) h1, e], by omega, h1, by omega⟩
   · rw [if_neg h1] at h; cases h
theorem rq {α : Type} {xs : List α} {i : Int} {v : α} (h : nW xs i = some v) : ∃ j, seqIndex? i xs.length = some j /\ xs[j]? = some v /\ j < xs.length /\ -(xs.length : Int) <= i /\ i < xs.length := by
 unfold nW at h
 cases e : vQ xs.length i with
 | none => rw [e] at h; cases h
 | some j =>
  rw [e] at h
  obtain ⟨h1, h2, h3, h4⟩ := wk e
  exact ⟨j, h1, h, h2, h3, h4⟩
theorem Bv {α : Type} {xs : List α} {j : Nat} {v : α} (h : xs[j]? = some v) : nW xs (j : Int) = some v := by
 have hj : j < xs.length := (yf.mp h).1
 have e : vQ xs.length (j : Int) = some j := by
  unfold vQ
  rw [if_pos (by omega), if_pos (by omega)]; simp
 unfold nW; rw [e]; exact h
def Bw (b : Expr) : Prop := ∀ o i, subscripted b false o i = operate [o, i] (getItem o i)
def IxR (X : Cx) (r : R2) : Prop :=
 ∀ (value slice : Expr) (pins : List (Addr × Obj)) (s : Shared) (σ : St) (H : Hp) (x y : V) (v u : Value) (Q : VK), Inv X pins σ H s -> RelV x v -> RelV y u -> r x y H Q ->
  subscripted slice false v u = operate [v, u] (getItem v u) -> wpAny (model X.prog X.w) X.A (subscriptTail value slice v u) (EP X pins σ Q) X.xe s
def G7 (X : Cx) (id : String) (r : V -> List V -> Hp -> VK -> Prop) : Prop :=
 ∀ (pins : List (Addr × Obj)) (s : Shared) (σ : St) (H : Hp) (x : V) (xs : List V) (v : Value) (us : List Value) (Q : VK), Inv X pins σ H s -> RelV x v -> Vals xs us -> r x xs H Q ->
  wpAny (model X.prog X.w) X.A (call (.builtin id) (v :: us)) (EP X pins σ Q) X.xe s
section
variable {X : Cx} {a b : Expr} {ta tb : TE} {pos : Pos}
theorem IxR.or {r r' : R2} (h : IxR X r) (h' : IxR X r') : IxR X (λ x y H Q => r x y H Q \/ r' x y H Q) := by
 intro value slice pins s σ H x y v u Q I rx ry q hs
 rcases q with q | q
 · exact h value slice pins s σ H x y v u Q I rx ry q hs
 · exact h' value slice pins s σ H x y v u Q I rx ry q hs
theorem bT {r : R2} (hr : IxR X r) (ha : PE X a ta) (hb : PE X b tb) (hs : Bw b) : PE X (.Subscript a b pos) (Do r ta tb) := by
 intro pins s σ H Q I h
 exact Subscript_ (Dp ha hb I h λ v u s2 x y H2 I2 rx ry q => hr a b pins s2 σ H2 x y v u Q I2 rx ry q (hs _ _))
def FK (K : Fg) : R2 := λ x y H Q => ∃ p xs i v, x = .ref p /\ y = .int i /\ SqL K H p xs /\ nW xs i = some v /\ Q v H
def FL (K : Fg) : R2 := λ x y H Q => ∃ p xs i v, x = .ref p /\ y = .int i /\ SqT K H p xs /\ nW xs i = some v /\ Q v H
def FM : R2 := λ x y H Q => ∃ z i c, x = .str z /\ y = .int i /\ z.length <= sizeLine /\ nW z.cps.toList i = some c /\ Q (.str ⟨#[c]⟩) H
theorem Bx : IxR X (FK X.K) := by
 intro value slice pins s σ H x y v u Q I rx ry h hs
 obtain ⟨p, xs, i, z, rfl, rfl, hq, he, q⟩ := h
 cases rx
 obtain ⟨t, rfl⟩ := ry
 obtain ⟨its, r, pl, hz⟩ := I.list hq
 obtain ⟨j, h1, h2, h3, h4, h5⟩ := rq he
 obtain ⟨w, ew, rw'⟩ := r.get h2
 have hl := r.length
 have hn := mn
 have fin : EP X pins σ Q w s := ⟨z, H, I, rw', q⟩
 by_cases h0 : 0 <= i
 · have hj : i.toNat = j := by
    rw [seqIndex_of h0 h5] at h1
    exact zV h1
   exact item_listR pl.isList h0 (by omega) (by rw [hj]; simpa using ew) fin hs
 · have hj : (i + (its.toArray.size : Int)).toNat = j := by
    rw [seqIndex_neg (by omega) h4] at h1
    rw [zM, <- hl]
    exact zV h1
   exact subscriptTail_builtinR (x := w) pl.isList.typeIs slot_list_getitem.lookup
    (wpAny_getItem_list_neg (Q := λ r s' => r = w /\ EP X pins σ Q r s') pl.isList (by omega) (by rw [zM] <;> omega) (by omega) (by rw [hj]; simpa using ew) ⟨rfl, fin⟩) hs
theorem Dy : IxR X (FL X.K) := by
 intro value slice pins s σ H x y v u Q I rx ry h hs
 obtain ⟨p, xs, i, z, rfl, rfl, hq, he, q⟩ := h
 cases rx
 obtain ⟨t, rfl⟩ := ry
 obtain ⟨its, r, pl, hz⟩ := I.tuple hq
 obtain ⟨j, h1, h2, h3, h4, h5⟩ := rq he
 obtain ⟨w, ew, rw'⟩ := r.get h2
 have hl := r.length
 have hn := mn
 have fin : EP X pins σ Q w s := ⟨z, H, I, rw', q⟩
 exact subscriptTail_builtinR (x := w) pl.typeIs slot_tuple_getitem.lookup
  (getItem_tuple (j := j) (Q := λ r s' => r = w /\ EP X pins σ Q r s') pl (by omega) (by omega) (by rw [zM, <- hl]; exact h1) (by simpa using ew) ⟨rfl, fin⟩) hs
theorem Dz : IxR X FM := by
 intro value slice pins s σ H x y v u Q I rx ry h hs
 obtain ⟨z, i, c, rfl, rfl, hz, he, q⟩ := h
 obtain ⟨t, rfl⟩ := rx
 obtain ⟨t', rfl⟩ := ry
 obtain ⟨j, h1, h2, h3, h4, h5⟩ := rq he
 have hl : z.cps.toList.length = z.length := by simp [Str.length]
 rw [hl] at h1 h4 h5
 have hn := mn
 exact tail_any (typeIs_str s z t) slot_str_getitem.lookup (getItem_str (c := c) (by
  have e1 : decide (i < -(2 ^ 63 : Int)) = false := decide_eq_false (by omega)
  have e2 : decide (i >= 2 ^ 63) = false := decide_eq_false (by omega)
  rw [e1, e2, Bool.or_false]) (by rw [h1]; simpa using h2) ⟨.str ⟨#[c]⟩, H, I.tok _, ⟨_, rfl⟩, q⟩) hs
def Fl (K : Fg) : R2 := λ x y H Q => FK K x y H Q \/ FL K x y H Q \/ FM x y H Q
theorem EA : IxR X (Fl X.K) := Bx.or (Dy.or Dz)
theorem vR (its : List Value) (n j : Nat) (u : Value) : Obj.mapSeq (·.setIfInBounds j u) { cls := .type "list", data := .seq its.toArray n } = { cls := .type "list", data := .seq (its.set j u).toArray n } := by
 simp [Obj.mapSeq]
theorem Inv.lst {pins : List (Addr × Obj)} {σ : St} {H : Hp} {s : Shared} {p : Addr} {xs : List V} (I : Inv X pins σ H s) (h : H p = some (.lst xs)) :
 ∃ (its : List Value) (n : Nat), Vals xs its /\ s.heap.get? p = some { cls := .type "list", data := .seq its.toArray n } /\ xs.length <= sizeLine := by
 obtain ⟨z, its, n, r, e⟩ := I.hok p _ h
 exact ⟨its, n, r, e, z⟩
theorem Inv.lstUpd {pins : List (Addr × Obj)} {σ : St} {H : Hp} {s : Shared} {p : Addr} {xs ys : List V} {its its' : List Value} {n n' : Nat} {f : Obj -> Obj} (I : Inv X pins σ H s) (h : H p = some (.lst xs))
 (ho : s.heap.get? p = some { cls := .type "list", data := .seq its.toArray n }) (hf : f { cls := .type "list", data := .seq its.toArray n } = { cls := .type "list", data := .seq its'.toArray n' }) (r : Vals ys its') (hz : ys.length <= sizeLine) (t : Nat) :
 Inv X pins σ (cZ H p (.lst ys)) { s with heap := s.heap.update p f, toks := t } := by
 have e : (s.heap.update p f).get? p = some { cls := .type "list", data := .seq its'.toArray n' } := by
  rw [Ej f ho (by rw [hf] <;> rfl), hf]
 refine I.write (x := p) (e := p) (by rw [h]; trivial) (.inl rfl) (λ b u hb q => (tR _ _ (Ne.symm hb)).trans q) ⟨_, e⟩ ?_
 exact ⟨hz, its', n', r, e⟩
def DR : V -> V -> V -> Hp -> (Hp -> Prop) -> Prop := λ o i v H Q => ∃ p xs k j, o = .ref p /\ i = .int k /\ H p = some (.lst xs) /\ vQ xs.length k = some j /\ Q (cZ H p (.lst (xs.set j v)))
theorem ol : FC X DR := by
 intro pins s σ H o i v ov iv u Q I ro ri rv h
 obtain ⟨p, xs, k, j, rfl, rfl, hp, hj, q⟩ := h
 cases ro
 obtain ⟨t, rfl⟩ := ri
 obtain ⟨its, n, r, ho, hz⟩ := I.lst hp
 obtain ⟨h1, h2, h3, h4⟩ := wk hj
 have hl := r.length
 have hn := mn
 have I' : Inv X pins σ (cZ H p (.lst (xs.set j v))) { s with heap := s.heap.update p (Obj.mapSeq (·.setIfInBounds j u)) } :=
  I.lstUpd hp ho (vR its n j u) (r.set rv j) (by rw [wa]; exact hz) s.toks
 by_cases h0 : 0 <= k
 · have hk : k.toNat = j := by
    rw [seqIndex_of h0 h4] at h1
    exact zV h1
   exact PySem.W.ki_setAt ho h0 (by omega) (by rw [zM, <- hl]; exact h4) (by rw [hk]; exact ⟨_, I', q⟩)
 · have hk : (k + (its.toArray.size : Int)).toNat = j := by
    rw [seqIndex_neg (by omega) h3] at h1
    rw [zM, <- hl]
    exact zV h1
   exact PySem.W.ki_setBack ho (by omega) (by rw [zM, <- hl]; exact h3) (by omega) (by rw [hk]; exact ⟨_, I', q⟩)
theorem rz (lo hi : Option Int) (n : Nat) : (sliceBounds lo hi none n).1 = ((HT.eS n 0 lo : Nat) : Int) /\ (sliceBounds lo hi none n).2.1 = ((HT.eS n n hi : Nat) : Int) /\ (sliceBounds lo hi none n).2.2 = 1 := by
 refine ⟨?_, ?_, rfl⟩
 · cases lo with
   | none => simp [sliceBounds, HT.eS]
   | some i =>
    simp only [sliceBounds, HT.eS, Option.getD_none, show (1 : Int) > 0 by decide, if_true]
    by_cases h : i < 0
    · simp only [h, if_true] <;> omega
    · simp only [h, if_false] <;> omega
 · cases hi with
   | none => simp [sliceBounds, HT.eS]
   | some i =>
    simp only [sliceBounds, HT.eS, Option.getD_none, show (1 : Int) > 0 by decide, if_true]
    by_cases h : i < 0
    · simp only [h, if_true] <;> omega
    · simp only [h, if_false] <;> omega
theorem qT (its : List Value) (lo hi : Option Int) : slicePick its.toArray lo hi none = ((its.drop (HT.eS its.length 0 lo)).take (HT.eS its.length its.length hi - HT.eS its.length 0 lo)).toArray := by
 obtain ⟨h1, h2, h3⟩ := rz lo hi its.toArray.size
 unfold slicePick
 rw [h1, h2, h3]
 simp only [sliceRange_one, pick_run, zM] <;> rfl
def FN (K : Fg) : V -> Option Int -> Option Int -> Hp -> VK -> Prop := λ x lo hi H Q => ∃ a xs, x = .ref a /\ SqL K H a xs /\ ∀ p, H p = none -> Q (.ref p) (cZ H p (.lst (tU xs lo hi)))
theorem By : SlR X (FN X.K) := by
 intro pins s σ H x v vl vu lo hi sl Q I rx hs pl pu h
 obtain ⟨a, xs, rfl, hx, q⟩ := h
 cases rx
 obtain ⟨its, r, ht, hz⟩ := I.list hx
 have hlen := r.length
 refine ⟨"list", _, slot_list_getitem.lookup, ht.isList.typeIs, ?_⟩
 refine wpAny_getItem_list_slice ht.isList hs pl pu .none (by simp) ?_ (by rw [zM] <;> omega)
 rw [qT, <- hlen]
 refine ⟨.ref s.heap.objs.size, _, I.laid (t' := s.toks) (o := .lst (tU xs lo hi)) (λ b ob q => gy _ q) (Q2 _) ?_, rfl, q _ (I.hok.fresh (Q2 _))⟩
 exact ⟨Qf (nV xs lo hi) hz, _, 0, (r.drop (HT.eS xs.length 0 lo)).take (HT.eS xs.length xs.length hi - HT.eS xs.length 0 lo), jm _ rfl⟩
noncomputable def kH : V -> Bool
 | .non => true
 | .bl _ => true
 | .int _ => true
 | .str _ => true
 | _ => false
noncomputable def xc : V -> V -> Bool
 | .non, .non => true
 | .bl a, .bl b => a == b
 | .bl a, .int b => (if a then 1 else 0) == b
 | .int a, .bl b => a == (if b then 1 else 0)
 | .int a, .int b => a == b
 | .str a, .str b => a == b
 | _, _ => false
theorem EB {A : Around} {s : Shared} {y x : V} {u v : Value} (ry : RelV y u) (rx : RelV x v) (fy : kH y = true) (fx : kH x = true) : SeqAt.EqAt A s u v (xc y x) := by
 cases y with
 | non =>
  cases ry
  cases x with
  | non => cases rx; exact SeqAt.EqAt.same _
  | bl b => cases rx; exact SeqAt.EqAt.none_bool b
  | int b => obtain ⟨t, rfl⟩ := rx; exact SeqAt.EqAt.none_int b t
  | str b => obtain ⟨t, rfl⟩ := rx; exact SeqAt.EqAt.none_str b t
  | _ => exact absurd (show false = true from fx) yh
 | bl a =>
  cases ry
  cases x with
  | non => cases rx; exact SeqAt.EqAt.bool_none a
  | bl b => cases rx; exact SeqAt.EqAt.bool_bool a b
  | int b => obtain ⟨t, rfl⟩ := rx; exact SeqAt.EqAt.bool_int a b t
  | str b => obtain ⟨t, rfl⟩ := rx; exact SeqAt.EqAt.bool_str a b t
  | _ => exact absurd (show false = true from fx) yh
 | int a =>
  obtain ⟨t', rfl⟩ := ry
  cases x with
  | non => cases rx; exact SeqAt.EqAt.int_none a t'
  | bl b => cases rx; exact SeqAt.EqAt.int_bool a t' b
  | int b => obtain ⟨t, rfl⟩ := rx; exact SeqAt.EqAt.int_int a t' b t
  | str b => obtain ⟨t, rfl⟩ := rx; exact SeqAt.EqAt.int_str a t' b t
  | _ => exact absurd (show false = true from fx) yh
 | str a =>
  obtain ⟨t', rfl⟩ := ry
  cases x with
  | non => cases rx; exact SeqAt.EqAt.str_none a t'
  | bl b => cases rx; exact SeqAt.EqAt.str_bool a t' b
  | int b => obtain ⟨t, rfl⟩ := rx; exact SeqAt.EqAt.str_int a t' b t
  | str b => obtain ⟨t, rfl⟩ := rx; exact SeqAt.EqAt.str_str a t' b t
  | _ => exact absurd (show false = true from fx) yh
 | _ => exact absurd (show false = true from fy) yh
noncomputable def yj (x : V) (u : Value) : Bool := match u with
 | .none => xc .non x
 | .bool b => xc (.bl b) x
 | .int i _ => xc (.int i) x
 | .str z _ => xc (.str z) x
 | _ => false
theorem zg {x y : V} {u : Value} (r : RelV y u) (f : kH y = true) : yj x u = xc y x := by
 cases y with
 | non => cases r; rfl
 | bl b => cases r; rfl
 | int i => obtain ⟨t, rfl⟩ := r; rfl
 | str z => obtain ⟨t, rfl⟩ := r; rfl
 | _ => exact absurd (show false = true from f) yh
theorem wl {x : V} {xs : List V} {us : List Value} (h : Vals xs us) (f : xs.all kH = true) : us.any (yj x) = xs.any λ y => xc y x := by
 induction h with
 | nil => rfl
 | cons r t ih =>
  rw [List.all_cons, Qa] at f
  rw [List.any_cons, List.any_cons, zg r f.1, ih f.2]
theorem tV {A : Around} {s : Shared} {x : V} {v : Value} (rx : RelV x v) (fx : kH x = true) {xs : List V} {us : List Value} (h : Vals xs us) (f : xs.all kH = true) : ∀ u ∈ us, SeqAt.EqAt A s u v (yj x u) := by
 induction h with
 | nil => exact λ u hu => by cases hu
 | cons r t ih =>
  intro u' hu
  rw [List.all_cons, Qa] at f
  rcases qS.mp hu with rfl | hu
  · rw [zg r f.1]; exact EB r rx f.1 fx
  · exact ih f.2 u' hu
noncomputable def Fm (x : V) (xs : List V) : Bool := xs.any λ y => xc y x
def GH (K : Fg) (neg : Bool) : R2 := λ x y H Q => ∃ p xs, y = .ref p /\ (SqL K H p xs \/ SqT K H p xs) /\ kH x = true /\ xs.all kH = true /\ Q (.bl (if neg then !Fm x xs else Fm x xs)) H
theorem xf : OpR X (compareOp .In) (GH X.K false) := by
 intro pins s σ H x y v u Q I rx ry h
 obtain ⟨p, xs, rfl, hq, fx, fs, q⟩ := h
 cases ry
 rcases hq with hq | hq
 · obtain ⟨its, r, pl, hz⟩ := I.list hq
   refine SeqAt.in_listAt (yj x) pl.isList (λ w hw => tV rx fx r fs w (by simpa using hw)) ⟨.bl _, H, I, rfl, ?_⟩
   rw [show its.toArray.any (yj x) = its.any (yj x) by simp, wl r fs]
   exact q
 · obtain ⟨its, r, pl, hz⟩ := I.tuple hq
   refine SeqAt.in_tupleAt (yj x) pl (λ w hw => tV rx fx r fs w (by simpa using hw)) ⟨.bl _, H, I, rfl, ?_⟩
   rw [show its.toArray.any (yj x) = its.any (yj x) by simp, wl r fs]
   exact q
theorem sC : dq X (.type "list") (λ xs H Q => ∃ p ys, xs = [.ref p] /\ (SqL X.K H p ys \/ SqT X.K H p ys) /\ ∀ l, H l = none -> Q (.ref l) (cZ H l (.lst ys))) := by
 intro pins s σ H xs us Q I r h
 obtain ⟨p, ys, rfl, hq, q⟩ := h
 obtain ⟨u, rfl, rx⟩ := nS r
 cases rx
 have fin : ∀ (its : List Value), Vals ys its -> ys.length <= sizeLine -> ∀ (h' : Heap) (c' : Nat), (∀ b o', s.heap.get? b = some o' -> h'.get? b = some o') ->
  h'.get? s.heap.objs.size = some { cls := .type "list", dict := none, data := .seq its.toArray c', slots := #[] } -> EP X pins σ Q (.ref s.heap.objs.size) { s with heap := h' } := λ its r' hz h' c' kp e =>
  ⟨.ref s.heap.objs.size, _, I.laid (t' := s.toks) kp (Q2 _) (show ObjOk X.prog X.w _ h' _ (.lst ys) from ⟨hz, its, c', r', e⟩), rfl, q _ (I.hok.fresh (Q2 _))⟩
 rcases hq with hq | hq
 · obtain ⟨its, r', pl, hz⟩ := I.list hq
   have hlen := r'.length
   obtain ⟨o, ho, hc, n, hd⟩ := pl.isList
   exact call_list_seq p (.inl rfl) ho hc hd (λ h' c' kp e => fin its r' hz h' c' kp e) (by simp only [zM] <;> omega)
 · obtain ⟨its, r', pl, hz⟩ := I.tuple hq
   have hlen := r'.length
   obtain ⟨o, ho, hc, n, hd⟩ := pl
   exact call_list_seq p (.inr rfl) ho hc hd (λ h' c' kp e => fin its r' hz h' c' kp e) (by simp only [zM] <;> omega)
theorem qU : dq X (.type "tuple") (λ xs H Q => ∃ p ys, xs = [.ref p] /\ ((SqL X.K H p ys /\ ∀ l, H l = none -> Q (.ref l) (cZ H l (.tup ys))) \/ (SqT X.K H p ys /\ Q (.ref p) H))) := by
 intro pins s σ H xs us Q I r h
 obtain ⟨p, ys, rfl, h⟩ := h
 obtain ⟨u, rfl, rx⟩ := nS r
 cases rx
 rcases h with ⟨hq, q⟩ | ⟨hq, q⟩
 · obtain ⟨its, r', pl, hz⟩ := I.list hq
   have hlen := r'.length
   refine call_tuple_list pl.isList (λ h' kp => ?_) (by simp only [zM] <;> omega)
   have I1 : Inv X pins σ H { s with heap := h' } := I.kept (t' := s.toks) kp
   have I2 : Inv X pins σ (cZ H h'.objs.size (.tup ys)) { s with heap := h'.push { cls := .type "tuple", data := .seq its.toArray } } :=
    I1.laid (t' := s.toks) (λ b o e => gy _ e) (Q2 _) (show ObjOk X.prog X.w _ _ _ (.tup ys) from ⟨hz, its, r', IsTup.new _ _, _, jm _ rfl, rfl⟩)
   exact ⟨.ref h'.objs.size, _, I2, rfl, q _ (I1.hok.fresh (Q2 _))⟩
 · obtain ⟨its, r', pl, hz⟩ := I.tuple hq
   exact call_tuple_same pl ⟨.ref p, H, I, rfl, q⟩
def GZ (K : Fg) (T : String) (x : V) (H : Hp) : Prop := match x with
 | .str _ => T = "str"
 | .int _ => T = "int"
 | .ref p => (T = "list" /\ ∃ xs, SqL K H p xs) \/ (T = "tuple" /\ ∃ o, K.lookup p = some o /\ o.cls = .type "tuple" /\ o.dict = none) \/
  (T = "dict" /\ ((∃ kvs, H p = some (.dK kvs)) \/ ∃ kvs, H p = some (.dT kvs))) \/ (T = "set" /\ ∃ S n, H p = some (.set S n))
 | _ => False
theorem EC {pins : List (Addr × Obj)} {σ : St} {H : Hp} {s : Shared} {T : String} {x : V} {v : Value} (I : Inv X pins σ H s) (r : RelV x v) (ty : GZ X.K T x H) :
 s.TypeIs v T /\ ∀ a, v = .ref a -> ∃ ob, s.heap.get? a = some ob /\ ob.dict = none := by
 cases x with
 | str z =>
  obtain ⟨t, rfl⟩ := r
  cases (show T = "str" from ty)
  exact ⟨typeIs_str s z t, λ _ e => nomatch e⟩
 | int i =>
  obtain ⟨t, rfl⟩ := r
  cases (show T = "int" from ty)
  exact ⟨typeIs_int s i t, λ _ e => nomatch e⟩
 | ref p =>
  cases r
  rcases ty with ⟨rfl, xs, hq⟩ | ⟨rfl, o, hk, hc, hd⟩ | ⟨rfl, hk⟩ | ⟨rfl, S, n, hk⟩
  · obtain ⟨its, _, pl, _⟩ := I.list hq
    refine ⟨pl.isList.typeIs, λ a e => ?_⟩
    cases e
    obtain ⟨o, n, e, c, hd, _⟩ := pl
    exact ⟨o, e, hd⟩
  · refine ⟨⟨o, I.kIn p o hk, hc⟩, λ a e => ?_⟩
    cases e
    exact ⟨o, I.kIn _ o hk, hd⟩
  · have z : ∃ o, s.heap.get? p = some o /\ o.ExactDict := by
     rcases hk with ⟨kvs, hk⟩ | ⟨kvs, hk⟩
     · obtain ⟨_, _, _, _, o, _, _, e, ex, _⟩ := I.hok p _ hk
       exact ⟨o, e, ex⟩
     · obtain ⟨_, _, _, _, o, _, _, e, ex, _⟩ := I.hok p _ hk
       exact ⟨o, e, ex⟩
    obtain ⟨o, e, ex⟩ := z
    refine ⟨⟨o, e, ex.1⟩, λ a e2 => ?_⟩
    cases e2
    exact ⟨o, e, ex.2.1⟩
  · obtain ⟨o, _, _, _, e, ex, _⟩ := I.hok p _ hk
    refine ⟨⟨o, e, ex.1⟩, λ a e2 => ?_⟩
    cases e2
    exact ⟨o, e, ex.2.1⟩
 | _ => exact False.elim ty
def Fn (K : Fg) (T : String) (r : V -> List V -> Hp -> VK -> Prop) (to : TE) (t : TA) : TE := λ σ H Q => to σ H λ x H1 => GZ K T x H1 /\ t σ H1 λ xs H2 => r x xs H2 Q
variable {o e : Expr} {es : List Expr} {to : TE} {t : TA} {name : Str} {apos cpos : Pos} {T id : String} {r : V -> List V -> Hp -> VK -> Prop}
theorem om (pa : PlainAttrs T) (slot : Slot T name id) (hty : typeOf (.builtin id) = pure (.type "method_descriptor")) (hm : G7 X id r) (ho : PE X o to) (ha : PA X (e :: es) t)
 (hbase : attributeBase o name X.env (eval o X.env) = eval o X.env := by rfl)
 (hfew : ((backTo cpos (starEach (e :: es) X.env)).all (λ x => !x.1) && (backToKw cpos (keywordEach [] X.env)).all (λ x => x.1.isSome)
  && decide ((e :: es).length + ([] : List Keyword).length + (if ([] : List Keyword).isEmpty then 0 else 1) < 30)) = true := by rfl)
 (hline : (apos.endLine == cpos.line) = true := by rfl) (hs : starEach (e :: es) X.env = (false, eval e X.env) :: starEach es X.env := by rfl) (hplain : (backTo cpos (starEach es X.env)).any (·.1) = false := by rfl) :
 PE X (.Call (.Attribute o name apos) (e :: es) [] cpos) (Fn X.K T r to t) := by
 intro pins s σ H Q I h
 refine wpAny_Call_method_late hbase hfew hline rfl (dm (ho pins s σ H _ I h) λ v s1 q_ => ?_)
 obtain ⟨x, H1, I1, r1, ty, q1⟩ := q_
 obtain ⟨h1, h2⟩ := EC I1 r1 ty
 refine ⟨T, id, pa, slot, hty, h1, h2, ?_⟩
 have hA := ha cpos pins s1 σ H1 _ I1 q1
 rw [hs] at hA ⊢
 refine Calls.callWith_builtin (by show (false || (backTo cpos (starEach es X.env)).any (·.1)) = false; rw [hplain] <;> rfl) (Calls.evalArgs_plain ?_)
 exact dm hA λ us s2 q_ => by obtain ⟨vs, H2, I2, r2, q2⟩ := q_; exact hm pins s2 σ H2 x vs v us Q I2 r1 r2 q2
end
def GI (X : Cx) (id : String) (r : V -> List V -> Hp -> VK -> Prop) : Prop :=
 ∀ (pins : List (Addr × Obj)) (s : Shared) (σ : St) (H : Hp) (x : V) (xs : List V) (v : Value) (us : List Value) (Q : VK), Inv X pins σ H s -> RelV x v -> Vals xs us -> r x xs H Q ->
  wpAny (model X.prog X.w) X.A (call (.builtin id) (v :: us)) (EP X pins σ Q) X.xe s
theorem Vals.one : ∀ {x : V} {us : List Value}, Vals [x] us -> ∃ u, us = [u] /\ RelV x u
 | _, _, h => by cases h with | cons r t => cases t; exact ⟨_, rfl, r⟩
theorem Vals.two : ∀ {x y : V} {us : List Value}, Vals [x, y] us -> ∃ u v, us = [u, v] /\ RelV x u /\ RelV y v
 | _, _, _, h => by
  cases h with
  | cons r t =>
   obtain ⟨v, e, q⟩ := Vals.one t
   subst e
   exact ⟨_, _, rfl, r, q⟩
section
variable {X : Cx} {pins : List (Addr × Obj)} {σ : St} {H : Hp} {s : Shared} {l b : Addr} {xs ys zs : List V}
theorem Inv.lset {its its' : List Value} {n : Nat} {f : Array Value -> Array Value} {t' : Nat} (I : Inv X pins σ H s) (hH : H l = some (.lst xs))
 (e : s.heap.get? l = some { cls := .type "list", data := .seq its.toArray n }) (hf : f its.toArray = its'.toArray) (hv : Vals ys its') (hz : ys.length <= sizeLine) :
 Inv X pins σ (cZ H l (.lst ys)) { s with heap := s.heap.update l (Obj.mapSeq f), toks := t' } := by
 have q := PySem.IsL.update e f
 rw [hf] at q
 refine I.write (x := l) (e := l) (by rw [hH]; exact trivial) (.inl rfl) (λ b' u hb hu => (tR s.heap (Obj.mapSeq f) (Ne.symm hb)).trans hu) ⟨_, q⟩ ?_
 exact ⟨hz, its', _, hv, q⟩
theorem Inv.lnew {its : List Value} {t' : Nat} (I : Inv X pins σ H s) (hv : Vals ys its) (hz : ys.length <= sizeLine) :
 Inv X pins σ (cZ H s.heap.objs.size (.lst ys)) { s with heap := s.heap.push { cls := .type "list", data := .seq its.toArray }, toks := t' } :=
 I.laid (λ _ _ q => gy _ q) (Q2 _) ⟨hz, its, 0, hv, jm _ rfl⟩
theorem Inv.fresh (I : Inv X pins σ H s) : H s.heap.objs.size = none := I.hok.fresh (Q2 _)
theorem Inv.lstM (I : Inv X pins σ H s) (hH : H l = some (.lst xs)) : xs.length <= sizeLine /\ ∃ (its : List Value) (n : Nat), Vals xs its /\ xs.length = its.length /\ s.heap.get? l = some { cls := .type "list", data := .seq its.toArray n } := by
 obtain ⟨z, its, n, r, e⟩ := I.hok l _ hH
 exact ⟨z, its, n, r, r.length, e⟩
theorem zh {n : Nat} (h : n <= sizeLine) : Builtin.List.listTooLong n = false := by
 unfold Builtin.List.listTooLong
 exact decide_eq_false (by omega)
end
section
variable {X : Cx}
def wm : V -> List V -> Hp -> VK -> Prop := λ x vs H Q => ∃ l xs y, x = .ref l /\ vs = [y] /\ H l = some (.lst xs) /\ xs.length < sizeLine /\ Q .non (cZ H l (.lst (xs ++ [y])))
theorem iM : GI X "list.append" wm := by
 intro pins s σ H x vs v us Q I rx rv h
 obtain ⟨l, xs, y, rfl, rfl, hH, hz, q⟩ := h
 cases rx
 obtain ⟨u, rfl, ru⟩ := rv.one
 obtain ⟨z, its, n, r, hl, e⟩ := I.lstM hH
 refine call_meets F.slot_list_append ⟨_, e, rfl⟩ F.entry_list_append (F.args_list_append_2 _ _) (PySem.list_append l its.toArray n u (by rw [zM]; omega)) ⟨e, ?_⟩
 refine ⟨.non, _, I.lset (its' := its ++ [u]) hH e (by simp) (r.append (.cons ru .nil)) ?_, rfl, q⟩
 rw [zQ, List.length_singleton]
 omega
def wn : V -> List V -> Hp -> VK -> Prop := λ x vs H Q => ∃ l b xs zs, x = .ref l /\ vs = [.ref b] /\ H l = some (.lst xs) /\ H b = some (.lst zs) /\ xs.length + zs.length <= sizeLine /\ Q .non (cZ H l (.lst (xs ++ zs)))
theorem xg : GI X "list.extend" wn := by
 intro pins s σ H x vs v us Q I rx rv h
 obtain ⟨l, b, xs, zs, rfl, rfl, hH, hB, hz, q⟩ := h
 cases rx
 obtain ⟨u, rfl, ru⟩ := rv.one
 cases ru
 obtain ⟨z, its, n, r, hl, e⟩ := I.lstM hH
 obtain ⟨z2, its2, n2, r2, hl2, e2⟩ := I.lstM hB
 have hsz : its.toArray.size + its2.toArray.size <= sizeLine := by rw [zM, zM]; omega
 have hlong : ¬ (!its.toArray.isEmpty && Builtin.List.listTooLong (its.toArray.size + its2.toArray.size)) = true := by
  rw [zh hsz, Bool.and_false]
  exact yh
 refine call_meets F.slot_list_extend ⟨_, e, rfl⟩ F.entry_list_extend (F.args_list_extend_2 _ _)
  (AutoSeq1.list_extend_list_list_0 l its.toArray n b its2.toArray n2 hlong (by rw [zM]; omega) (by omega)) ⟨e, e2, ?_⟩
 refine ⟨.non, _, I.lset (its' := its ++ its2) hH e (by simp) (r.append r2) ?_, rfl, q⟩
 rw [zQ]
 omega
def FO : R2 := λ x y H Q => ∃ l b xs zs, x = .ref l /\ y = .ref b /\ H l = some (.lst xs) /\ H b = some (.lst zs) /\ xs.length + zs.length <= sizeLine /\ ∀ p, H p = none -> Q (.ref p) (cZ H p (.lst (xs ++ zs)))
theorem ED : OpR X (binaryOp .Add) FO := by
 intro pins s σ H x y v u Q I rx ry h
 obtain ⟨l, b, xs, zs, rfl, rfl, hH, hB, hz, q⟩ := h
 cases rx
 cases ry
 obtain ⟨z, its, n, r, hl, e⟩ := I.lstM hH
 obtain ⟨z2, its2, n2, r2, hl2, e2⟩ := I.lstM hB
 refine PySem.P.add_list e e2 ?_ (by rw [zM, zM]; omega)
 have ea : its.toArray ++ its2.toArray = (its ++ its2).toArray := by simp
 rw [ea]
 exact ⟨.ref _, _, I.lnew (t' := s.toks) (r.append r2) (by rw [zQ]; omega), rfl, q _ I.fresh⟩
end
section
variable {prog : Program} {w : World} {A : Around} {E : Value -> Shared -> Prop} {s : Shared}
end
section
variable {X : Cx}
end
end L2
namespace Att
open PySem PySem.W PySem.Calls PyProof.Rows
theorem ny {P : Params} {h : Heap} : ∀ (ns : List Int) (vs : List Value), WellAll P h vs (ns.map WData.int) -> IntsAre vs ns := by
 intro ns
 induction ns with
 | nil =>
  intro vs w
  rw [zL] at w
  cases w
  exact .nil
 | cons n ns ih =>
  intro vs w
  rw [zI] at w
  cases w with
  | cons a b =>
   cases a
   exact .cons _ _ (ih _ b)
theorem xh {l : OpenLaw} {n : Nat} (hn : l.most = some n) {P : Params} {h : Heap} {args : List WData} {vals : List Value}
 (hpre : l.row.toRowW.claim.pre args = true) (hwl : WellAll P h vals args) :
 ∃ a vs ns, vals = [Value.ref a] /\ args = [WData.list (ns.map WData.int)] /\ h.get? a = some { cls := .type "list", data := .seq vs.toArray } /\ IntsAre vs ns /\ ns.length <= n := by
 have hsh : WShape.hasAll [] args [.list .int] = true := (pre_splitW hpre).1
 have hc : l.pre.holds [] { args := args } = true := (pre_splitW hpre).2
 obtain ⟨d, r, rfl, h1, h2⟩ := hasAllW_cons hsh
 obtain rfl := hasAllW_nil h2
 obtain ⟨xs, rfl, h3⟩ := hasW_list h1
 obtain ⟨ns, rfl⟩ := items_int h3
 have hlen : ns.length <= n := by
  unfold OpenLaw.pre at hc
  have h4 : (WTm.not (.lt (.lit (.int (n : Int))) (.len (.arg 0)))).holds [] { args := [.list (ns.map .int)] } = true := by
   have h4 := (holds_andW hc).1
   rw [hn] at h4
   exact h4
  have h5 := condW_of h4 (w_not (w_lt w_lit (w_len_list (w_arg rfl))))
  rw [zJ] at h5
  refine Nat.le_of_not_lt λ q => ?_
  have q' : (n : Int) < ((ns.length : Nat) : Int) := by omega
  first
   | (rw [decide_eq_true q'] at h5; exact absurd h5 (by decide))
   | (simp at h5; omega)
 cases hwl with
 | cons w1 w2 =>
  cases w2
  cases w1 with
  | list ho hall => exact ⟨_, _, ns, rfl, rfl, ho, ny ns _ hall, hlen⟩
theorem xi (l : OpenLaw) (args : List WData) : l.row.toRowW.claim.post args (.bool true) args = true :=
 postW_of (r := l.row.toRowW) (X := (true == true))
  (show WShape.has [] (.bool true) .bool = true by first | rfl | decide | simp [WShape.has, WShape.arms, WShape.armsAll])
  (show (WTm.eq .res (.lit (.bool true))).value [] { args := args, res := some (.bool true), after := args } = some (.bool (true == true)) from w_eq_bool (w_res rfl) w_lit) rfl
theorem tW {l : OpenLaw} {n : Nat} {q : Program} {loose : List Str} {XP : (Str -> Option Value) -> Heap -> Prop} {YP : World -> Heap -> Prop} {d : DefRec}
 (hn : l.most = some n) (hdf : d.params.defaults = [])
 (call : ∀ (w : World) (s₀ s₁ : Shared) (mg mb : Str -> Option Value) (fa : Addr) (o : Obj) (pm cd doc : Value) (a : Addr) (vs : List Value) (ns : List Int),
  Ground q loose [] XP w s₀ mg mb s₁.heap -> YP w s₁.heap ->
  s₁.heap.get? fa = some o -> o.data = .func (docDef d.name d.params d.body d.scope pm cd doc) -> s₁.heap.CodeRec cd d.name -> mg d.name = some (.ref fa) ->
  s₁.heap.get? a = some { cls := .type "list", data := .seq vs.toArray } -> IntsAre vs ns -> ns.length <= n -> s₁.gens = #[] ->
  codeAny (model l.prog w) callerA (.call (.ref fa) ⟨[.ref a], []⟩) (λ r s' => r = .ok (.ret (.bool true)) /\ OldK s₁.heap s'.heap /\ s'.os = s₁.os /\ AllBare s'.gens) s₁) :
 WalkO q loose XP YP l.row.toRowW d [] (λ f vs => PySem.call f vs) := by
 intro w s₀ s₁ mg mb G Y fa o pm cd doc dV kV ho hd hcd hD hmg hg args vals as hpre hlay hrd hwl hlo
 obtain rfl : dV = .none := Dflts.none hD hdf
 obtain rfl : kV = .none := Dflts.noKw hD
 obtain ⟨a, vs, ns, rfl, rfl, hobj, hints, hlen⟩ := xh hn hpre hwl
 refine enter_call (codeAny_mono (call w s₀ s₁ mg mb fa o pm cd doc a vs ns G Y ho (fd_plain hd) hcd hmg hobj hints hlen hg) λ r s' hq => ?_)
 obtain ⟨rfl, h2, h3, h4⟩ := hq
 exact ⟨.inl ⟨.bool true, .bool true, [], rfl, λ _ => rfl, .bool true, xi l _, λ _ => ⟨List.Pairwise.nil, λ _ hm => (nomatch hm)⟩⟩, h2, h3, h4⟩
section
variable {prog : Program} {w : World} {A : Around} {E : Value -> Shared -> Prop} {s : Shared} {K : Frag}
noncomputable def on (h : Heap) : Heap := { h with objs := #[] }
theorem kg (h : Heap) (b : Addr) : (on h).get? b = none := by
 cases e : (on h).get? b with
 | none => rfl
 | some o => exact absurd (fG e) (zS _)
noncomputable def mq (h : Heap) (L d : Addr) : List (Addr × Obj) := (List.range h.objs.size).filterMap λ a => if a = L \/ a = d then none else (h.get? a).map λ o => (a, o)
theorem ii {h : Heap} {L d a : Addr} {o : Obj} : (a, o) ∈ mq h L d ↔ a ≠ L /\ a ≠ d /\ h.get? a = some o := by
 unfold mq
 rw [List.mem_filterMap]
 constructor
 · rintro ⟨b, _, e⟩
   split at e
   · cases e
   · rename_i hb
     obtain ⟨o', ho, e'⟩ := Q3.mp e
     cases e'
     exact ⟨λ q => hb (.inl q), λ q => hb (.inr q), ho⟩
 · rintro ⟨n1, n2, ho⟩
   refine ⟨a, List.mem_range.mpr (fG ho), ?_⟩
   rw [if_neg (show ¬ (a = L \/ a = d) from λ q => q.elim n1 n2), ho] <;> rfl
theorem tX {h : Heap} {L d : Addr} {od : Obj} (hne : d ≠ L) (ho : h.get? d = some od) : News (on h) L h ([] ++ (d, od) :: mq h L d) := by
 rintro ⟨a, o⟩ hp
 rcases qS.mp hp with e | hp
 · cases e
   exact ⟨ho, hne, kg _ _⟩
 · obtain ⟨n1, n2, e⟩ := ii.mp hp
   exact ⟨e, n1, kg _ _⟩
theorem EE {h : Heap} {L : Addr} {m : Str -> Option Value} (n : h.Ns L m) : Fr (on h) L h m :=
 ⟨n, λ b o e => (by rw [kg] at e; cases e), zU _⟩
end
end Att
namespace L2
open PySem PySem.Spec PyProof.Rows
theorem xj {vs : List Value} {ns : List Int} (h : IntsAre vs ns) : Vals (ns.map V.int) vs := by
 induction h with
 | nil => exact .nil
 | cons n t h ih => exact .cons ⟨t, rfl⟩ ih
noncomputable def aw (s : Stmt) : Arguments := match s with
 | .FunctionDef _ a _ _ _ _ _ _ _ _ => a
 | _ => { posonlyargs := [], args := [], vararg := none, kwonlyargs := [], kw_defaults := [], kwarg := none, defaults := [] }
noncomputable def ah (s : Stmt) : List Stmt := match s with
 | .FunctionDef _ _ b _ _ _ _ _ _ _ => b
 | _ => []
noncomputable def aK (s : Stmt) : Scope := match s with
 | .FunctionDef _ _ _ _ _ _ sc _ _ _ => sc
 | _ => { kind := .function, names := [], isGenerator := false, isCoroutine := false }
abbrev iC : xa := λ _ _ _ _ _ _ => False
abbrev E0 : XK := λ _ _ _ => False
theorem DS {X : Cx} : mo iC X E0 := λ _ _ _ _ _ _ _ h => h.elim
structure Fun (K : Fg) (x qual : Str) (st : Stmt) (f : Addr) (fd : FuncData) : Prop where
 ex : ∃ (oc : Value) (od : Option Addr) (kV doc pm : Value) (an : Option Addr) (cdv ct : Value) (osl : Array (Option Value)),
  fd = PySem.W.fnOf x qual (aw st) (ah st) (aK st) .none kV doc pm an cdv ct /\ K.lookup f = some ⟨oc, od, .func fd, osl⟩ /\ PySem.W.codeIn K cdv qual = true
 kp : PySem.W.keepIn K (.ref f) = true
section
variable {P : Program} {w : World} {K : Fg} {mg : Str -> Option Value} {base : Heap}
theorem Fun.ok {x qual : Str} {st : Stmt} {f : Addr} {fd : FuncData} {N ps : List Str} {k : Nat} {sp : Sp} (F : Fun K x qual st f fd) (S : FnScope N ps (aK st)) (len : ∀ vs H Q E, sp vs H Q E -> vs.length = ps.length)
 (hbody : ∀ (cdv : Value) (A : Around) (outer : List Env) (s : Shared) (H : Hp) (vs : List V) (Q : VK) (E : XK), Room k (A.deeper (envOfC qual (aK st) s.heap.objs.size f cdv)) -> sp vs H Q E ->
  ∃ t, PSs (ke iC P w K mg base N qual (aK st) f cdv A outer s H E).nox (ah st) t /\ t { nx := λ _ H' => Q .non H', rt := Q } (gU N vs) H) : FnOk P w K mg base iC (k + 1) f fd ps sp := by
 obtain ⟨oc, od, kV, doc, pm, an, cdv, ct, osl, rfl, lk, hcd⟩ := F.ex
 refine DP lk hcd S len λ A outer s H vs Q E hr hsp => ?_
 obtain ⟨t, h, q⟩ := hbody cdv A outer s H vs Q E hr hsp
 exact ⟨t, h.nox, q⟩
theorem Fun.binds {x qual : Str} {st : Stmt} {f : Addr} {fd : FuncData} {ps : List Str} (F : Fun K x qual st f fd)
 (h : ∀ (kV doc pm : Value) (an : Option Addr) (cdv ct : Value) (us : List Value), us.length = ps.length -> bindArgs (PySem.W.fnOf x qual (aw st) (ah st) (aK st) .none kV doc pm an cdv ct) ⟨us, []⟩ = pure (ps.zip us)) : Binds K fd ps [] := by
 obtain ⟨oc, od, kV, doc, pm, an, cdv, ct, osl, rfl, lk, hcd⟩ := F.ex
 exact .all (h kV doc pm an cdv ct)
theorem bX {x qual : Str} {st : Stmt} {f : Addr} {oc : Value} {od an : Option Addr} {osl : Array (Option Value)} {kV doc pm cdv ct : Value} (l : K.lookup f = some ⟨oc, od, .func (PySem.W.fnOf x qual (aw st) (ah st) (aK st) .none kV doc pm an cdv ct), osl⟩)
 (c : PySem.W.codeIn K cdv qual = true) (k : PySem.W.keepIn K (.ref f) = true) : Fun K x qual st f (PySem.W.fnOf x qual (aw st) (ah st) (aK st) .none kV doc pm an cdv ct) := ⟨⟨oc, od, kV, doc, pm, an, cdv, ct, osl, rfl, l, c⟩, k⟩
end
theorem xk {n : Nat} (h : n <= 1000) : n < sizeLine := Nat.lt_of_le_of_lt h (by decide)
section
variable {X : Cx}
theorem pv (i : Nat) {x : Str} {pos : Pos} (hN : X.N[i]? = some x := by rfl) (hv : Ew X.env.scope x := by first | exact Or.inl rfl | exact Or.inr (Or.inl rfl) | exact Or.inr (Or.inr rfl)) (hd : (x == ("__debug__" : Str)) = false := by decide)
 (hcd : (x == ("__classdict__" : Str)) = false := by decide) : PE X (.Name x pos) (mj i) := Dh hN hv hd hcd
end
theorem xl {A B : Prop} (h : B) : if false = true then A else B := by
 rw [if_neg yh]
 exact h
theorem xm {A B : Prop} (h : A) : if true = true then A else B := by
 rw [if_pos rfl]
 exact h
def Same (H H' : Hp) : Prop := ∀ b o, H b = some o -> H' b = some o
theorem Same.refl (H : Hp) : Same H H := λ _ _ h => h
theorem Same.trans {H H1 H2 : Hp} (a : Same H H1) (b : Same H1 H2) : Same H H2 := λ c o h => b c o (a c o h)
theorem Same.free {H H' : Hp} (e : Same H H') {l : Addr} (h : H' l = Option.none) : H l = Option.none := by
 cases q : H l with
 | none => rfl
 | some o =>
  rw [e l o q] at h
  cases h
theorem Same.seq {K : Fg} {H H' : Hp} {a : Addr} {xs : List V} (e : Same H H') (h : SqL K H a xs) : SqL K H' a xs := by
 rcases h with (h | ⟨o, h⟩) | h
 · exact .inl (.inl (e _ _ h))
 · exact .inl (.inr ⟨o, e _ _ h⟩)
 · exact .inr h
noncomputable def fJ (env : Env) : List (Str × NameKind) -> List (Str × Addr) -> List (Str × Addr)
 | [], acc => acc
 | (n, k) :: r, acc => if k == .free then fJ env r ((n, (env.cells.lookup n).getD 0) :: acc) else fJ env r acc
theorem sD {env : Env} : ∀ (names : List (Str × NameKind)) (acc : List (Str × Addr)), (∀ y ∈ names, y.2 = .free -> ∃ c, env.cells.lookup y.1 = some c) ->
 (forIn (m := Sem) names acc λ (x : Str × NameKind) cs => (if (x.2 == .free) = true then do let c <- cellOf env x.1; pure (ForInStep.yield ((x.1, c) :: cs)) else pure (ForInStep.yield cs))) = pure (fJ env names acc)
 | [], acc, _ => rfl
 | (n, k) :: r, acc, h => by
  have hr : ∀ y ∈ r, y.2 = .free -> ∃ c, env.cells.lookup y.1 = some c := λ y hy => h y (nv _ hy)
  rw [List.forIn_cons]
  by_cases e : k = .free
  · subst e
    obtain ⟨c, hc⟩ := h (n, .free) oW rfl
    have hc' : env.cells.lookup n = some c := hc
    have e1 : cellOf env n = pure c := by unfold cellOf; rw [hc']
    show ((if (NameKind.free == NameKind.free) = true then _ else _) >>= _) = pure (if (NameKind.free == NameKind.free) = true then _ else _)
    rw [if_pos (by rfl), if_pos (by rfl), e1, hc']
    exact sD r _ hr
  · have e' : (k == NameKind.free) = false := by simpa using e
    show ((if (k == NameKind.free) = true then _ else _) >>= _) = pure (if (k == NameKind.free) = true then _ else _)
    rw [e', if_neg (by simp), if_neg (by simp)]
    exact sD r _ hr
theorem kI {scope : Scope} {env : Env} (h : ∀ y ∈ scope.names, y.2 = .free -> ∃ c, env.cells.lookup y.1 = some c) : closureFor scope env = pure (fJ env scope.names []) := by
 have q := sD scope.names [] h
 unfold closureFor
 show (forIn (m := Sem) scope.names [] _ >>= λ r => pure r) = _
 refine Eq.trans ?_ q
 exact bind_pure _
theorem jY {env : Env} : ∀ {names : List (Str × NameKind)} {acc : List (Str × Addr)} {x : Str} {c : Addr}, (∀ y ∈ names, y.2 = .free -> ∃ c, env.cells.lookup y.1 = some c) -> (x, c) ∈ fJ env names acc -> (x, c) ∈ acc \/ env.cells.lookup x = some c
 | [], acc, x, c, _, m => .inl m
 | (n, k) :: r, acc, x, c, h, m => by
  have hr : ∀ y ∈ r, y.2 = .free -> ∃ c, env.cells.lookup y.1 = some c := λ y hy => h y (nv _ hy)
  by_cases e : k = .free
  · subst e
    obtain ⟨d, hd⟩ := h (n, .free) oW rfl
    have hd' : env.cells.lookup n = some d := hd
    have m' : (x, c) ∈ fJ env r ((n, (env.cells.lookup n).getD 0) :: acc) := m
    rcases jY hr m' with q | q
    · rcases qS.mp q with q | q
      · rw [hd'] at q
        injection q with q1 q2
        subst q1 q2
        exact .inr hd'
      · exact .inl q
    · exact .inr q
  · have e' : (k == NameKind.free) = false := by simpa using e
    have m' : (x, c) ∈ (if (k == NameKind.free) = true then fJ env r ((n, (env.cells.lookup n).getD 0) :: acc) else fJ env r acc) := m
    rw [e', if_neg (by simp)] at m'
    exact jY hr m'
theorem lO {env : Env} : ∀ {names : List (Str × NameKind)} {acc : List (Str × Addr)} {x : Str}, ((x, NameKind.free) ∈ names \/ ∃ c, (x, c) ∈ acc) -> ∃ c, (x, c) ∈ fJ env names acc
 | [], acc, x, h => by
  rcases h with h | h
  · simp at h
  · exact h
 | (n, k) :: r, acc, x, h => by
  by_cases e : k = .free
  · subst e
    show ∃ c, (x, c) ∈ fJ env r ((n, (env.cells.lookup n).getD 0) :: acc)
    refine lO ?_
    rcases h with h | ⟨c, h⟩
    · rcases qS.mp h with h | h
      · injection h with h1 _
        subst h1
        exact .inr ⟨_, oW⟩
      · exact .inl h
    · exact .inr ⟨c, nv _ h⟩
  · have e' : (k == NameKind.free) = false := by simpa using e
    show ∃ c, (x, c) ∈ (if (k == NameKind.free) = true then fJ env r ((n, (env.cells.lookup n).getD 0) :: acc) else fJ env r acc)
    rw [e', if_neg (by simp)]
    refine lO ?_
    rcases h with h | h
    · rcases qS.mp h with h | h
      · injection h with _ h2
        exact absurd h2.symm e
      · exact .inl h
    · exact .inr h
theorem iD {β : Type} : ∀ {l : List (Str × β)} {x : Str} {c : β}, (x, c) ∈ l -> ∃ d, l.lookup x = some d
 | (n, k) :: r, x, c, h => by
  by_cases e : x = n
  · subst e; exact ⟨k, by simp⟩
  · rcases qS.mp h with q | q
    · injection q with q1 _; exact absurd q1 e
    · obtain ⟨d, hd⟩ := iD q
      exact ⟨d, by rw [re]; have : (x == n) = false := by simpa using e
                   rw [this]; exact hd⟩
def FP (X : Cx) (cs : List Expr) (t : TT) : Prop :=
 ∀ (pins : List (Addr × Obj)) (s : Shared) (σ : St) (H : Hp) (Q : Bool -> Hp -> Prop), Inv X pins σ H s -> t σ H Q ->
  wpAny (model X.prog X.w) X.A (forIn cs true λ c r => if r = true then do let ok <- isTrue c X.env (eval c X.env); pure (ForInStep.yield ok) else pure (ForInStep.yield r)) (TP X pins σ Q) X.xe s
def FQ : TT := λ _ H Q => Q true H
theorem gG {X : Cx} : FP X [] FQ := λ pins s σ H Q I h => wpAny_tests_nil ⟨H, I, h⟩
theorem sE {X : Cx} {c : Expr} {t : TT} (h : PT X c t) : FP X [c] t := λ pins s σ H Q I q => wpAny_tests_one (h pins s σ H Q I q)
def zi (n : Nat) (fr : List (Str × Nat)) (σ : St) : St := List.replicate n none ++ fr.map λ p => (σ[p.2]?).join
def zj (n : Nat) (fr : List (Str × Nat)) (wi : TI) (g : TG) (tc : TT) (te : TE) : TE := λ σ H Q => wi σ H λ J H1 => ∀ acc, H1 acc = none ->
 ∃ W : Nat -> Nat -> St -> Hp -> Prop, (∃ m, W 0 m (zi n fr σ) (cZ H1 acc (.lst []))) /\ ∀ i m σ' H', W i m σ' H' ->
  (J.stop i H' /\ Q (.ref acc) H') \/ (J.go i H' /\ ∃ Nx : St -> Hp -> Prop, (∀ σ2 H2, Nx σ2 H2 -> ∃ m', m' < m /\ W (i + 1) m' σ2 H2) /\
   ∀ x H2, J.yld i H' x H2 -> g x σ' H2 λ σ2 H3 => tc σ2 H3 λ b H4 => if b = true then te σ2 H4 λ y H5 => ∃ ys, H5 acc = some (.lst ys) /\ ys.length < sizeLine /\ Nx σ2 (cZ H5 acc (.lst (ys ++ [y]))) else Nx σ2 H4)
section
variable {prog : Program} {w : World} {A : Around} {R : Result -> Shared -> Prop} {s : Shared}
theorem tY {elt target iter : Expr} {ifs : List Expr} {scope : Scope} {pos : Pos} {it acc : Value} {env : Env} (I : Nat -> Shared -> Prop)
 (turn : ∀ n s, I n s -> wpAny (model prog w) A (pyNext it) (λ r s₁ => match r with
  | none => R (.ok .next) s₁
  | some v => wpAny (model prog w) A (letOwnedTupleGo target it v) (λ _ s₂ => wpAny (model prog w) A (assign target env v) (λ _ s₂ =>
   wpAny (model prog w) A (forIn ifs true λ c r => if r = true then do let ok <- isTrue c env (eval c env); pure (ForInStep.yield ok) else pure (ForInStep.yield r)) (λ ok s₃ =>
    if ok = true then wpAny (model prog w) A (eval elt env) (λ x s₄ =>
     wpAny (model prog w) A (call (.builtin "list.append") [acc, x]) (λ _ s₅ => ∃ m, m < n /\ I m s₅) (λ _ _ => False) s₄) (λ _ _ => False) s₃
    else ∃ m, m < n /\ I m s₃) (λ _ _ => False) s₂) (λ _ _ => False) s₂) (λ _ _ => False) s₁) (λ _ _ => False) s)
 (n : Nat) (h : I n s) :
 codeAny (model prog w) A (.compLoop (.ListComp elt [⟨target, iter, ifs, 0⟩] scope pos) 0 it acc env) R s := by
 refine codeAny_loop rfl I (λ n s hI => ?_) n h
 show wpAny _ A ((compTurn (.ListComp elt [⟨target, iter, ifs, 0⟩] scope pos) 0 it acc env).onRaise (λ x => do noteFrame x env; theTreesLotGoes x)) _ _ s
 refine wpAny_noted ?_
 rw [compTurn_list]
 refine wB (wpAny_standAt (wB (wpAny_mono (turn n s hI) (λ r s₁ h₁ => ?_) λ _ _ h' => h'.elim)))
 cases r with
 | none => exact wP h₁
 | some v =>
  refine wB (wpAny_mono h₁ (λ _ s₂ h₂ => ?_) λ _ _ h' => h'.elim)
  refine wB (wpAny_mono h₂ (λ _ s₂ h₂ => wB (wpAny_mono h₂ (λ ok s₃ h₃ => ?_) λ _ _ h' => h'.elim)) λ _ _ h' => h'.elim)
  cases ok with
  | false => exact wP ⟨rfl, h₃⟩
  | true =>
   exact wB (wB (wpAny_mono h₃ (λ x s₄ h₄ => wB (wpAny_mono h₄ (λ _ s₅ h₅ => wP (wP ⟨rfl, h₅⟩)) λ _ _ h' => h'.elim)) λ _ _ h' => h'.elim))
end
theorem HOk.sameBut {P : Program} {w : World} {H : Hp} {h h' : Heap} {C : Addr} (x : HOk P w H h) (n : H C = none) (sb : Heap.SameBut C h h') : HOk P w H h' := λ a o e =>
 (x a o e).stay (λ b u q z => (sb.2 b (by
  rcases q with q | q
  · subst q; exact aU e n
  · exact aU q n)).trans z) (λ _ q => q) (λ _ _ q => q) λ _ _ _ q => q
theorem oq {env : Env} : ∀ {names : List (Str × NameKind)} {x : Str}, names.lookup x = some .free ->
 (((names.map λ (n, k) => if (k == NameKind.free && env.scope.kind == .function && env.kindOf n == some .cell) then (n, NameKind.cell) else (n, k)).lookup x = some .cell) \/
  ((names.map λ (n, k) => if (k == NameKind.free && env.scope.kind == .function && env.kindOf n == some .cell) then (n, NameKind.cell) else (n, k)).lookup x = some .free))
 | [], x, h => by simp at h
 | (n, k) :: r, x, h => by
  have e1 : ((n, k) :: r).map (λ (n, k) => if (k == NameKind.free && env.scope.kind == .function && env.kindOf n == some .cell) = true then (n, NameKind.cell) else (n, k)) =
   (if (k == NameKind.free && env.scope.kind == .function && env.kindOf n == some .cell) = true then (n, NameKind.cell) else (n, k)) :: r.map (λ (n, k) => if (k == NameKind.free && env.scope.kind == .function && env.kindOf n == some .cell) = true then (n, NameKind.cell) else (n, k)) := rfl
  rw [e1]
  cases hx : x == n with
  | true =>
   simp only [re, hx] at h
   have hk : k = .free := zV h
   by_cases c : (k == NameKind.free && env.scope.kind == .function && env.kindOf n == some .cell) = true
   · rw [if_pos c]; left; simp [re, hx]
   · rw [if_neg c]; right; simp [re, hx, hk]
  | false =>
   simp only [re, hx] at h
   have q := oq (env := env) h
   by_cases c : (k == NameKind.free && env.scope.kind == .function && env.kindOf n == some .cell) = true
   · rw [if_pos c]; simpa only [re, hx] using q
   · rw [if_neg c]; simpa only [re, hx] using q
section
variable {X : Cx}
theorem Bz {n : Nat} {fr : List (Str × Nat)} {own : List Str} {σ : St} {i : Nat} {x : Str} {v : V} (hn : own.length = n) (h1 : (own ++ fr.map (·.1))[i]? = some x) (h2 : (zi n fr σ)[i]? = some (some v)) :
 ∃ p ∈ fr, p.1 = x /\ σ[p.2]? = some (some v) := by
 unfold zi at h2
 by_cases hi : i < n
 · rw [Q8 (by simpa using hi), Qd, if_pos hi] at h2
   cases h2
 · rw [Q9 (by simpa using hi)] at h2
   rw [Q9 (by omega)] at h1
   rw [ym, zK] at h2
   rw [hn, zK] at h1
   cases e : fr[i - n]? with
   | none => rw [e] at h1; cases h1
   | some p =>
    rw [e] at h1 h2
    refine ⟨p, List.mem_of_getElem? e, zV h1, ?_⟩
    have h3 : (σ[p.2]?).join = some v := zV h2
    cases q : σ[p.2]? with
    | none => rw [q] at h3; cases h3
    | some z => rw [q] at h3; exact congrArg some h3
end
open AutoSeq1 (wpAny_loadPart')
section
variable {prog : Program} {w : World} {A : Around} {E : Value -> Shared -> Prop} {s : Shared}
theorem zk {it t : Addr} {i : Nat} {its : Array Value} {x : Value} {Q : Value -> Shared -> Prop} (hit : s.heap.IsTupleIter it t i) (ht : s.heap.IsTuple t its) (hx : its[i]? = some x)
 (k : ∀ h', h'.IsTupleIter it t (i + 1) -> Heap.SameBut it s.heap h' -> Q x { s with heap := h' }) : wpAny (model prog w) A (Builtin.SmallTypes.nextOf (.ref it)) Q E s := by
 have ty := hit.typeIs
 obtain ⟨ob, eo, ec, ed⟩ := hit
 obtain ⟨ot, et, _, n, edt⟩ := ht
 unfold Builtin.SmallTypes.nextOf
 refine wB (wpAny_callSpecial?_slot (name := Str.ofString "__next__") ty F.slot_tuple_iterator_next (wpAny_call_entry F.slot_tuple_iterator_next ty F.entry_tuple_iterator_next ?_ (F.args_tuple_iterator_next_1 _)))
 show wpAny _ _ (field (.ref it) 0 >>= _) _ _ s
 refine wB (wpAny_field eo ed (x := .ref t) rfl ?_)
 show wpAny _ _ (if (Value.ref t == Value.none) = true then _ else _) _ _ s
 rw [if_neg (show ¬ ((Value.ref t == Value.none) = true) from yh)]
 show wpAny _ _ (field (.ref it) 1 >>= _) _ _ s
 refine wB (wpAny_field eo ed (x := .int i 0) rfl ?_)
 show wpAny _ _ (seqItems? (.ref t) >>= _) _ _ s
 refine wB (wpAny_seqItems et edt ?_)
 simp only [Int.toNat_natCast, hx]
 refine wB (wpAny_setField eo ed (by simp) (wP ⟨x, rfl, wP (k _ ⟨_, Ej _ eo (Obj.isFreed_of_fields (Obj.data_mapFields ed _)), (Obj.cls_mapFields ..).trans ec, ?_⟩ (Heap.SameBut.update ..))⟩))
 rw [Obj.data_mapFields ed]
 simp [rawInt]
theorem CA {it t : Addr} {i : Nat} {its : Array Value} {Q : Value -> Shared -> Prop} (hh : A.handled = none) (hit : s.heap.IsTupleIter it t i) (ht : s.heap.IsTuple t its) (hx : its[i]? = none)
 (k : ∀ h' e, Heap.ExtBut it s.heap h' -> (∃ o, h'.get? e = some o /\ o.cls = .type "StopIteration") -> E (.ref e) { s with heap := h' }) : wpAny (model prog w) A (Builtin.SmallTypes.nextOf (.ref it)) Q E s := by
 have ty := hit.typeIs
 obtain ⟨ob, eo, ec, ed⟩ := hit
 obtain ⟨ot, et, _, n, edt⟩ := ht
 unfold Builtin.SmallTypes.nextOf
 refine wB (wpAny_callSpecial?_slot (name := Str.ofString "__next__") ty F.slot_tuple_iterator_next (wpAny_call_entry F.slot_tuple_iterator_next ty F.entry_tuple_iterator_next ?_ (F.args_tuple_iterator_next_1 _)))
 show wpAny _ _ (field (.ref it) 0 >>= _) _ _ s
 refine wB (wpAny_field eo ed (x := .ref t) rfl ?_)
 show wpAny _ _ (if (Value.ref t == Value.none) = true then _ else _) _ _ s
 rw [if_neg (show ¬ ((Value.ref t == Value.none) = true) from yh)]
 show wpAny _ _ (field (.ref it) 1 >>= _) _ _ s
 refine wB (wpAny_field eo ed (x := .int i 0) rfl ?_)
 show wpAny _ _ (seqItems? (.ref t) >>= _) _ _ s
 refine wB (wpAny_seqItems et edt ?_)
 simp only [Int.toNat_natCast, hx]
 refine wB (wpAny_rule (wB (wpAny_setField eo ed (by simp) ?_)))
 show wpAny _ _ (newExc (.type "StopIteration") [] >>= _) _ _ _
 refine wB ?_
 simp only [newExc, newTuple]
 refine wB (wpAny_newObj_type ?_ (by size_fits))
 refine wB (m := firstArgMember _ _) (wpAny_of_eq (a := Value.none) (by first | rfl | (simp only [firstArgMember]; rfl)) ?_)
 refine wpAny_newObj_type ?_ (by size_fits)
 simp only [raiseNew]
 refine wB (wpAny_handled ?_)
 first | rw [show A.in1.handled = none from hh] | rw [hh]
 exact wB (wP (wpAny_throw (k _ _ (((Heap.SameBut.update ..).extBut.push _).push _) ⟨_, jm _ rfl, rfl⟩)))
end
theorem G8 {prog : Program} {w : World} {A : Around} (hh : A.handled = none) (it t : Addr) (ne : t ≠ it) (its : Array Value) :
 Draws prog w A it [it, t] its.size (λ i v => its[i]? = some v) (λ i h => h.IsTupleIter it t i /\ h.IsTuple t its) where
 live := λ _ _ st => by obtain ⟨⟨o, e, _⟩, _⟩ := st; exact ⟨o, e⟩
 frame := λ _ _ _ st k => ⟨st.1.at λ o e => k it (by simp) o e, st.2.at λ o e => k t (by simp) o e⟩
 item := λ i s Q E hi st k => zk st.1 st.2 (x := its[i]) (by simp [hi]) λ h' a b => k _ h' s.toks (by simp [hi]) ⟨a, st.2.extBut b.extBut ne⟩ b
 done := λ s Q E st k => CA hh st.1 st.2 (by simp) k
theorem CB (l : Addr) (its : Array Value) (n : Nat) (dct : Option Addr) (sl : Array (Option Value)) :
 Meets (Builtin.«enumerate.__new__» ⟨[.type "enumerate", .ref l], []⟩) (λ _ R s => s.heap.get? l = some { cls := .type "tuple", dict := dct, data := .seq its n, slots := sl } /\
  R (.ok (.ret (.ref (s.heap.push { cls := .type "tuple_iterator", data := .fields #[.ref l, .int 0 0] }).objs.size)))
   { s with heap := (s.heap.push { cls := .type "tuple_iterator", data := .fields #[.ref l, .int 0 0] }).push { cls := .type "enumerate", data := .fields #[.none, .bool false, .ref s.heap.objs.size, rawInt 0, .none, .none] } }) :=
 .of_wp λ prog w A R s h => by
  obtain ⟨hp, g, d, tk, os⟩ := s
  obtain ⟨hl, h⟩ := h
  have hsub := sub_enumerate
  have hT : Heap.IsTuple (Shared.heap ⟨hp, g, d, tk, os⟩) l its := ⟨_, hl, rfl, n, rfl⟩
  wp_walk using wpAny_loadPart' hl
  refine wpAny_stack_any λ st => wP ?_
  split
  · rename_i c _ _ _ _ _
    cases (c == Value.type "enumerate") <;> (wp_walk using wpAny_loadPart' hl, wpAny_pyIter_tuple hT; exact ⟨_, rfl, h⟩)
  · wp_walk using wpAny_loadPart' hl, wpAny_pyIter_tuple hT
    exact ⟨_, rfl, h⟩
section
variable {prog : Program} {w : World} {A : Around} {E : Value -> Shared -> Prop} {s : Shared}
theorem zm {l : Addr} {its : Array Value} {Q : Value -> Shared -> Prop} (hL : s.heap.IsTuple l its)
 (k : ∀ h', IsEnum h' (s.heap.objs.size + 1) s.heap.objs.size 0 .none -> h'.IsTupleIter s.heap.objs.size l 0 -> h'.objs.size = s.heap.objs.size + 2 -> (∀ b o, s.heap.get? b = some o -> h'.get? b = some o) -> Q (.ref (s.heap.objs.size + 1)) { s with heap := h' }) :
 wpAny (model prog w) A (call (.type "enumerate") [.ref l]) Q E s := by
 obtain ⟨⟨c, dct, dt, sl⟩, hl, hc, n, hd⟩ := hL
 have hc' : c = .type "tuple" := hc
 have hd' : dt = .seq its n := hd
 subst hc' hd'
 refine callType_new F.called_enumerate (by decide) (F.typeCall_enumerate_1 _) (F.newCall_enumerate_1 _) (λ obj => F.args_object_init_2 obj _) F.entry_enumerate_new (CB l its n dct sl) ⟨hl, ?_⟩
 generalize hg : s.heap.push { cls := .type "tuple_iterator", data := .fields #[.ref l, .int 0 0] } = g1
 have z1 : g1.objs.size = s.heap.objs.size + 1 := by rw [<- hg]; exact yi ..
 have he : IsEnum (g1.push { cls := .type "enumerate", data := .fields #[.none, .bool false, .ref s.heap.objs.size, rawInt 0, .none, .none] }) (s.heap.objs.size + 1) s.heap.objs.size 0 .none := by
  rw [<- z1]; exact jm _ rfl
 show _ /\ _
 rw [z1]
 refine ⟨⟨_, he, rfl⟩, k _ he ⟨_, gy _ (by rw [<- hg]; exact jm _ rfl), rfl, rfl⟩ (by rw [yi, z1]) λ b o x => gy _ (by rw [<- hg]; exact gy _ x)⟩
end
open AutoSeq1 (wpAny_loadPart')
structure ZA (z TI TO i1 i2 : Addr) (f1 f2 : List Addr) : Prop where
 a1 : TI ≠ z
 a2 : TO ≠ z
 a3 : i1 ≠ z
 a4 : i2 ≠ z
 a5 : TO ≠ i1
 a6 : TO ≠ i2
 b1 : z ∉ f1
 b2 : z ∉ f2
 b3 : TO ∉ f1
 b4 : TO ∉ f2
 b5 : i2 ∉ f1
 b6 : i1 ∉ f2
section
variable {prog : Program} {w : World} {A : Around} {E : Value -> Shared -> Prop} {s : Shared}
theorem tZ {T : Addr} {a b x : Value} {k : Nat} {Q : Unit -> Shared -> Prop} (hT : IsPair s.heap T a b)
 (h : ∀ h', h'.get? T = some { cls := .type "tuple", data := .seq ((#[a, b] : Array Value).setIfInBounds k x) } -> Heap.SameBut T s.heap h' -> Q () { s with heap := h' }) : wpAny (model prog w) A (updateSeq T (·.setIfInBounds k x)) Q E s := wpAny_updateSeq_pair hT h
variable {z TI TO i1 i2 : Addr} {f1 f2 : List Addr} {n1 n2 k : Nat} {P1 P2 : Nat -> Value -> Prop} {S1 S2 : Nat -> Heap -> Prop} {a b : Value}
theorem xn {Q : Value -> Shared -> Prop} (D1 : Draws prog w A i1 f1 n1 P1 S1) (D2 : Draws prog w A i2 f2 n2 P2 S2) (ap : ZA z TI TO i1 i2 f1 f2)
 (hz : IsZip s.heap z TI TO .none) (hTI : IsPair s.heap TI (.ref i1) (.ref i2)) (hTO : IsPair s.heap TO a b) (h1 : S1 k s.heap) (h2 : S2 k s.heap) (l1 : k < n1) (l2 : k < n2)
 (K : ∀ x y h' tk, P1 k x -> P2 k y -> IsZip h' z TI TO (rawInt s.heap.objs.size) -> IsPair h' TO x y -> S1 (k + 1) h' -> S2 (k + 1) h' -> IsPair h' s.heap.objs.size x y -> h'.objs.size = s.heap.objs.size + 1 ->
  (∀ c o, c ≠ z -> c ≠ TO -> c ≠ i1 -> c ≠ i2 -> s.heap.get? c = some o -> h'.get? c = some o) -> Q (.ref s.heap.objs.size) { s with heap := h', toks := tk }) :
 wpAny (model prog w) A (Builtin.«zip.__next__» ⟨[.ref z], []⟩) (λ fin s' => ∃ v, fin = .done (.ret v) /\ Q v s') E s := by
 obtain ⟨hp, g, d, tk0, os⟩ := s
 obtain ⟨o1, e1⟩ := D1.live _ _ h1
 obtain ⟨o2, e2⟩ := D2.live _ _ h2
 show wpAny _ _ (field (.ref z) 2 >>= _) _ _ _
 refine wB (wpAny_field hz rfl (x := .bool false) rfl ?_)
 show wpAny _ _ (field (.ref z) 3 >>= _) _ _ _
 refine wB (wpAny_field hz rfl (x := .ref TI) rfl ?_)
 refine wB (wpAny_seqItems hTI rfl ?_)
 show wpAny _ _ (Builtin.SmallTypes.ownedTupleIsFree (.ref z) >>= _) _ _ _
 refine wB ?_
 unfold Builtin.SmallTypes.ownedTupleIsFree
 refine wB (wpAny_field hz rfl (x := .none) rfl (wP ?_))
 simp only [if_true]
 refine wB (wpAny_rule ?_)
 refine wB (wpAny_field hz rfl (x := .ref TO) rfl ?_)
 refine wB (wpAny_setField_rec hz (by simp) λ g1 z1 c1 => ?_)
 have z1 : IsZip g1 z TI TO .ellipsis := z1
 have c1 : Heap.SameBut z hp g1 := c1
 refine wB ?_
 simp only [List.zipIdx_cons, List.zipIdx_nil, List.forIn_cons, List.forIn_nil]
 refine wB (wB (wpAny_onRaise ?_))
 show wpAny _ _ (Builtin.SmallTypes.nextOf (.ref i1) >>= _) _ _ _
 refine wB (D1.item k _ _ _ l1 (D1.frame _ _ _ h1 λ q hq o e => (c1.2 q λ y => ap.b1 (y ▸ hq)).trans e) λ x g2 t2 px s2 c2 => wP ?_)
 have c2 : Heap.SameBut i1 g1 g2 := c2
 have p2 : IsPair g2 TO a b := (c2.2 _ ap.a5).trans ((c1.2 _ ap.a2).trans hTO)
 refine wB (wpAny_seqItems p2 rfl ?_)
 refine wB (tZ p2 λ g3 p3 c3 => ?_)
 have p3 : IsPair g3 TO x b := p3
 have c3 : Heap.SameBut TO g2 g3 := c3
 refine wB (wpAny_letGo (wP ?_))
 refine wB (wB (wpAny_onRaise ?_))
 show wpAny _ _ (Builtin.SmallTypes.nextOf (.ref i2) >>= _) _ _ _
 have m2 : S2 k g3 := D2.frame _ _ _ h2 λ q hq o e => (c3.2 q λ y => ap.b4 (y ▸ hq)).trans ((c2.2 q λ y => ap.b6 (y ▸ hq)).trans ((c1.2 q λ y => ap.b2 (y ▸ hq)).trans e))
 refine wB (D2.item k _ _ _ l2 m2 λ y g4 t4 py s4 c4 => wP ?_)
 have c4 : Heap.SameBut i2 g3 g4 := c4
 have p4 : IsPair g4 TO x b := (c4.2 _ ap.a6).trans p3
 refine wB (wpAny_seqItems p4 rfl ?_)
 refine wB (tZ p4 λ g5 p5 c5 => ?_)
 have p5 : IsPair g5 TO x y := p5
 have c5 : Heap.SameBut TO g4 g5 := c5
 refine wB (wpAny_letGo (wP (wP ?_)))
 refine wB (wpAny_seqItems p5 rfl ?_)
 refine wB (wpAny_newTuple ?_)
 have zz : g5.objs.size = hp.objs.size := by rw [c5.1, c4.1, c3.1, c2.1, c1.1]
 have z5 : IsZip g5 z TI TO .ellipsis := (c5.2 _ ap.a2.symm).trans ((c4.2 _ ap.a4.symm).trans ((c3.2 _ ap.a2.symm).trans ((c2.2 _ ap.a3.symm).trans z1)))
 have k5 : ∀ c o, c ≠ z -> c ≠ TO -> c ≠ i1 -> c ≠ i2 -> hp.get? c = some o -> g5.get? c = some o := λ c o n1 n2 n3 n4 e => (c5.2 _ n2).trans ((c4.2 _ n4).trans ((c3.2 _ n2).trans ((c2.2 _ n3).trans ((c1.2 _ n1).trans e))))
 have w1 : S1 (k + 1) g5 := D1.frame _ _ _ s2 λ q hq o e => (c5.2 q λ y => ap.b3 (y ▸ hq)).trans ((c4.2 q λ y => ap.b5 (y ▸ hq)).trans ((c3.2 q λ y => ap.b3 (y ▸ hq)).trans e))
 have w2 : S2 (k + 1) g5 := D2.frame _ _ _ s4 λ q hq o e => (c5.2 q λ y => ap.b4 (y ▸ hq)).trans e
 have zl : z < g5.objs.size := fG z5
 show wpAny _ _ (Builtin.SmallTypes.ownedTupleHandOut (.ref z) (.ref g5.objs.size) >>= _) _ _ _
 refine wB ?_
 unfold Builtin.SmallTypes.ownedTupleHandOut
 have z6 : IsZip (g5.push { cls := .type "tuple", data := .seq #[x, y] }) z TI TO .ellipsis := gy _ z5
 refine wB (wpAny_setField_rec z6 (by simp) λ g7 z7 c7 => ?_)
 have z7 : IsZip g7 z TI TO (rawInt g5.objs.size) := z7
 have c7 : Heap.SameBut z (g5.push { cls := .type "tuple", data := .seq #[x, y] }) g7 := c7
 refine wpAny_setField_rec z7 (by simp) λ g8 z8 c8 => ?_
 have z8 : IsZip g8 z TI TO (rawInt g5.objs.size) := z8
 have c8 : Heap.SameBut z g7 g8 := c8
 have up : ∀ c o, c ≠ z -> g5.get? c = some o -> g8.get? c = some o := λ c o n e => (c8.2 _ n).trans ((c7.2 _ n).trans (gy _ e))
 have t8 : IsPair g8 g5.objs.size x y := (c8.2 _ (xX zl)).trans ((c7.2 _ (xX zl)).trans (jm _ rfl))
 have l8 : g8.objs.size = g5.objs.size + 1 := by rw [c8.1, c7.1, yi]
 rw [zz] at z8 t8 l8
 refine wP ⟨_, rfl, ?_⟩
 show Q (.ref g5.objs.size) _
 rw [zz]
 exact K x y g8 _ px py z8 (up _ _ ap.a2 p5) (D1.frame _ _ _ w1 λ q hq o e => up q o (λ y => ap.b1 (y ▸ hq)) e) (D2.frame _ _ _ w2 λ q hq o e => up q o (λ y => ap.b2 (y ▸ hq)) e) t8 l8 λ c o n1 n2 n3 n4 e => up c o n1 (k5 c o n1 n2 n3 n4 e)
theorem zn {Q : Fin -> Shared -> Prop} (D1 : Draws prog w A i1 f1 n1 P1 S1) (ap : ZA z TI TO i1 i2 f1 f2)
 (hz : IsZip s.heap z TI TO .none) (hTI : IsPair s.heap TI (.ref i1) (.ref i2)) (hTO : IsPair s.heap TO a b) (h1 : S1 n1 s.heap)
 (K : ∀ h' e, (∀ c o, c ≠ z -> c ≠ i1 -> s.heap.get? c = some o -> h'.get? c = some o) -> (∃ o, h'.get? e = some o /\ o.cls = .type "StopIteration") -> E (.ref e) { s with heap := h' }) :
 wpAny (model prog w) A (Builtin.«zip.__next__» ⟨[.ref z], []⟩) Q E s := by
 show wpAny _ _ (field (.ref z) 2 >>= _) _ _ _
 refine wB (wpAny_field hz rfl (x := .bool false) rfl ?_)
 show wpAny _ _ (field (.ref z) 3 >>= _) _ _ _
 refine wB (wpAny_field hz rfl (x := .ref TI) rfl ?_)
 refine wB (wpAny_seqItems hTI rfl ?_)
 show wpAny _ _ (Builtin.SmallTypes.ownedTupleIsFree (.ref z) >>= _) _ _ _
 refine wB ?_
 unfold Builtin.SmallTypes.ownedTupleIsFree
 refine wB (wpAny_field hz rfl (x := .none) rfl (wP ?_))
 simp only [if_true]
 refine wB (wpAny_rule ?_)
 refine wB (wpAny_field hz rfl (x := .ref TO) rfl ?_)
 refine wB (wpAny_setField_rec hz (by simp) λ g1 z1 c1 => ?_)
 have z1 : IsZip g1 z TI TO .ellipsis := z1
 have c1 : Heap.SameBut z s.heap g1 := c1
 refine wB ?_
 simp only [List.zipIdx_cons, List.zipIdx_nil, List.forIn_cons, List.forIn_nil]
 refine wB (wB (wpAny_onRaise ?_))
 show wpAny _ _ (Builtin.SmallTypes.nextOf (.ref i1) >>= _) _ _ _
 refine wB (D1.done _ _ _ (D1.frame _ _ _ h1 λ q hq o e => (c1.2 q λ y => ap.b1 (y ▸ hq)).trans e) λ g2 e c2 st => ?_)
 have c2 : Heap.ExtBut i1 g1 g2 := c2
 obtain ⟨oe, ho, hc⟩ := st
 have z2 : IsZip g2 z TI TO .ellipsis := c2 _ _ ap.a3.symm z1
 have ne : e ≠ z := λ y => by
  subst y
  have : g2.get? e = some oe := ho
  rw [z2] at this
  cases this
  simp at hc
 refine wpAny_setField_rec z2 (by simp) λ g3 _ c3 => ?_
 have c3 : Heap.SameBut z g2 g3 := c3
 exact K g3 e (λ c o n1 n2 y => (c3.2 _ n1).trans (c2 _ _ n2 ((c1.2 _ n1).trans y))) ⟨oe, (c3.2 _ ne).trans ho, hc⟩
theorem vS {Q : Option Value -> Shared -> Prop} (D1 : Draws prog w A.in1 i1 f1 n1 P1 S1) (D2 : Draws prog w A.in1 i2 f2 n2 P2 S2) (ap : ZA z TI TO i1 i2 f1 f2)
 (hz : IsZip s.heap z TI TO .none) (hTI : IsPair s.heap TI (.ref i1) (.ref i2)) (hTO : IsPair s.heap TO a b) (h1 : S1 k s.heap) (h2 : S2 k s.heap) (l1 : k < n1) (l2 : k < n2)
 (K : ∀ x y h' tk, P1 k x -> P2 k y -> IsZip h' z TI TO (rawInt s.heap.objs.size) -> IsPair h' TO x y -> S1 (k + 1) h' -> S2 (k + 1) h' -> IsPair h' s.heap.objs.size x y -> h'.objs.size = s.heap.objs.size + 1 ->
  (∀ c o, c ≠ z -> c ≠ TO -> c ≠ i1 -> c ≠ i2 -> s.heap.get? c = some o -> h'.get? c = some o) -> Q (some (.ref s.heap.objs.size)) { s with heap := h', toks := tk }) :
 wpAny (model prog w) A (pyNext (.ref z)) Q E s := by
 have ty : s.TypeIs (.ref z) "zip" := ⟨_, hz, rfl⟩
 unfold pyNext
 exact wB (wpAny_attempt (wpAny_callSpecial?_slot (name := Str.ofString "__next__") ty F.slot_zip_next (wpAny_call_entry F.slot_zip_next ty F.entry_zip_next
  (xn D1 D2 ap hz hTI hTO h1 h2 l1 l2 λ x y h' tk q1 q2 q3 q4 q5 q6 q7 q8 q9 => wP (K x y h' tk q1 q2 q3 q4 q5 q6 q7 q8 q9)) (F.args_zip_next_1 _))))
theorem xo {Q : Option Value -> Shared -> Prop} (D1 : Draws prog w A.in1 i1 f1 n1 P1 S1) (ap : ZA z TI TO i1 i2 f1 f2)
 (hz : IsZip s.heap z TI TO .none) (hTI : IsPair s.heap TI (.ref i1) (.ref i2)) (hTO : IsPair s.heap TO a b) (h1 : S1 n1 s.heap)
 (K : ∀ h', (∀ c o, c ≠ z -> c ≠ i1 -> s.heap.get? c = some o -> h'.get? c = some o) -> Q none { s with heap := h' }) : wpAny (model prog w) A (pyNext (.ref z)) Q E s := by
 have ty : s.TypeIs (.ref z) "zip" := ⟨_, hz, rfl⟩
 unfold pyNext
 refine wB (wpAny_attempt (wpAny_callSpecial?_slot (name := Str.ofString "__next__") ty F.slot_zip_next (wpAny_call_entry F.slot_zip_next ty F.entry_zip_next (zn D1 ap hz hTI hTO h1 λ h' e q st => ?_) (F.args_zip_next_1 _))))
 obtain ⟨o, ho, hc⟩ := st
 exact wB (wpAny_isInstance (T := "StopIteration") (b := true) ⟨o, ho, hc⟩ isSubtype_stop (wP (K _ q)))
end
theorem zo (l1 l2 : Addr) (xs ys : Array Value) :
 Meets (Builtin.«zip.__new__» ⟨[.type "zip", .ref l1, .ref l2], []⟩) (λ _ R s => s.heap.IsTuple l1 xs /\ s.heap.IsTuple l2 ys /\
  ∀ g1 g2 g3 g4 g5, g1 = s.heap.push { cls := .type "tuple_iterator", data := .fields #[.ref l1, .int 0 0] } -> g2 = g1.push { cls := .type "tuple_iterator", data := .fields #[.ref l2, .int 0 0] } ->
   g3 = g2.push { cls := .type "tuple", data := .seq #[.ref s.heap.objs.size, .ref g1.objs.size] } -> g4 = g3.push { cls := .type "tuple", data := .seq #[.none, .none] } ->
   g5 = g4.push { cls := .type "zip", data := .fields #[.none, .bool false, .bool false, .ref g2.objs.size, .ref g3.objs.size] } -> R (.ok (.ret (.ref g4.objs.size))) { s with heap := g5 }) :=
 .of_wp λ prog w A R s h => by
  obtain ⟨hp, g, d, tk, os⟩ := s
  obtain ⟨h1, h2, h⟩ := h
  have hsub := sub_zip
  have m1 : Heap.IsTuple (Shared.heap ⟨hp, g, d, tk, os⟩) l1 xs := h1
  have m2 : Heap.IsTuple (Shared.heap ⟨hp.push { cls := .type "tuple_iterator", data := .fields #[.ref l1, .int 0 0] }, g, d, tk, os⟩) l2 ys := Heap.IsTuple.push h2 _
  wp_walk using wpAny_pyIter_tuple m1, wpAny_pyIter_tuple m2
  exact ⟨_, rfl, h _ _ _ _ _ rfl rfl rfl rfl rfl⟩
section
variable {prog : Program} {w : World} {A : Around} {E : Value -> Shared -> Prop} {s : Shared}
theorem xp {l1 l2 : Addr} {xs ys : Array Value} {Q : Value -> Shared -> Prop} (h1 : s.heap.IsTuple l1 xs) (h2 : s.heap.IsTuple l2 ys)
 (k : ∀ h', IsZip h' (s.heap.objs.size + 4) (s.heap.objs.size + 2) (s.heap.objs.size + 3) .none -> IsPair h' (s.heap.objs.size + 2) (.ref s.heap.objs.size) (.ref (s.heap.objs.size + 1)) -> IsPair h' (s.heap.objs.size + 3) .none .none ->
  h'.IsTupleIter s.heap.objs.size l1 0 -> h'.IsTupleIter (s.heap.objs.size + 1) l2 0 -> h'.objs.size = s.heap.objs.size + 5 -> (∀ c o, s.heap.get? c = some o -> h'.get? c = some o) -> Q (.ref (s.heap.objs.size + 4)) { s with heap := h' }) :
 wpAny (model prog w) A (call (.type "zip") [.ref l1, .ref l2]) Q E s := by
 refine callType_new F.called_zip (by decide) (F.typeCall_zip_2 _ _) (F.newCall_zip_2 _ _) (λ obj => F.args_object_init_3 obj _ _) F.entry_zip_new (zo l1 l2 xs ys) ⟨h1, h2, ?_⟩
 intro g1 g2 g3 g4 g5 e1 e2 e3 e4 e5
 have z1 : g1.objs.size = s.heap.objs.size + 1 := by rw [e1]; exact yi ..
 have z2 : g2.objs.size = s.heap.objs.size + 2 := by rw [e2, yi, z1]
 have z3 : g3.objs.size = s.heap.objs.size + 3 := by rw [e3, yi, z2]
 have z4 : g4.objs.size = s.heap.objs.size + 4 := by rw [e4, yi, z3]
 have z5 : g5.objs.size = s.heap.objs.size + 5 := by rw [e5, yi, z4]
 have u2 : ∀ {c o}, g1.get? c = some o -> g2.get? c = some o := λ e => by rw [e2]; exact gy _ e
 have u3 : ∀ {c o}, g2.get? c = some o -> g3.get? c = some o := λ e => by rw [e3]; exact gy _ e
 have u4 : ∀ {c o}, g3.get? c = some o -> g4.get? c = some o := λ e => by rw [e4]; exact gy _ e
 have u5 : ∀ {c o}, g4.get? c = some o -> g5.get? c = some o := λ e => by rw [e5]; exact gy _ e
 have q5 : IsZip g5 (s.heap.objs.size + 4) (s.heap.objs.size + 2) (s.heap.objs.size + 3) .none := by rw [<- z4, <- z3, <- z2, e5]; exact jm _ rfl
 have q4 : IsPair g5 (s.heap.objs.size + 3) .none .none := by rw [<- z3]; exact u5 (by rw [e4]; exact jm _ rfl)
 have q3 : IsPair g5 (s.heap.objs.size + 2) (.ref s.heap.objs.size) (.ref (s.heap.objs.size + 1)) := by rw [<- z2, <- z1]; exact u5 (u4 (by rw [e3]; exact jm _ rfl))
 have q2 : g5.IsTupleIter (s.heap.objs.size + 1) l2 0 := ⟨_, by rw [<- z1]; exact u5 (u4 (u3 (by rw [e2]; exact jm _ rfl))), rfl, rfl⟩
 have q1 : g5.IsTupleIter s.heap.objs.size l1 0 := ⟨_, u5 (u4 (u3 (u2 (by rw [e1]; exact jm _ rfl)))), rfl, rfl⟩
 rw [z4]
 exact ⟨⟨_, q5, rfl⟩, k _ q5 q3 q4 q1 q2 z5 λ c o x => u5 (u4 (u3 (u2 (by rw [e1]; exact gy _ x))))⟩
end
section
variable {X : Cx} {pins : List (Addr × Obj)} {σ : St} {H : Hp} {s : Shared}
theorem Inv.turnedN {ch : List Addr} {h' : Heap} {t' : Nat} {p : Addr} {o : HO} (I : Inv X pins σ H s) (hf : ∀ b ∈ ch, o6 X pins H b) (k : ∀ b u, b ∉ ch -> s.heap.get? b = some u -> h'.get? b = some u)
 (hp : s.heap.objs.size <= p) (new : ObjOk X.prog X.w (cZ H p o) h' p o) : Inv X pins σ (cZ H p o) { s with heap := h', toks := t' } := by
 have hn : H p = none := I.hok.fresh hp
 have nit : ∀ b u, H b = some u -> b ∉ ch := λ b u e z => by rw [(hf b z).1] at e; cases e
 have old : ∀ b u, s.heap.get? b = some u -> b ≠ p := λ b u e => oX (jn (fG e) hp)
 refine I.step (g' := s.gens) (d' := s.drawn) (ch := ch) (λ b hb => ⟨(hf b hb).2.2.2.1, (hf b hb).2.1, (hf b hb).2.2.2.2.1, (hf b hb).2.2.2.2.2⟩) (λ b o _ _ hc e _ => k b o hc e) (λ b o _ _ hc e _ => ⟨o.slots, k b o hc e⟩)
  (λ b u _ e n => by rw [aZ (old b u e)]; exact n) (λ b o hc e => ⟨o, k b o hc e⟩) (λ b xs e => by rw [aZ (aU e hn)]; exact e) (λ b u xs e => by rw [aZ (aU e hn)]; exact e)
  (λ b ps e => ⟨#[], by rw [aZ (aU e hn), e]; simp⟩) (λ m hm => ?_) (λ b u e => ?_) I.bare
 · obtain ⟨ob, es, ep, ho, r⟩ := hm
   exact ⟨ob, es, ep, k _ ob (λ z => (hf _ z).2.1 rfl) ho, r⟩
 · by_cases hb : b = p
   · subst hb; rw [ae] at e; cases e; exact new
   · rw [aZ hb] at e
     refine (I.hok b u e).stay (λ c v hc q => k c v ?_ q) (λ c q => by rw [aZ (aU q hn)]; exact q) (λ c xs q => by rw [aZ (aU q hn)]; exact q) λ c ob xs q => by rw [aZ (aU q hn)]; exact q
     rcases hc with z | z
     · rw [z]; exact nit b u e
     · exact nit c _ z
theorem Inv.turned0 {ch : List Addr} {h' : Heap} {t' : Nat} (I : Inv X pins σ H s) (hf : ∀ b ∈ ch, o6 X pins H b) (k : ∀ b u, b ∉ ch -> s.heap.get? b = some u -> h'.get? b = some u) : Inv X pins σ H { s with heap := h', toks := t' } := by
 have nit : ∀ b u, H b = some u -> b ∉ ch := λ b u e z => by rw [(hf b z).1] at e; cases e
 refine I.step (g' := s.gens) (d' := s.drawn) (ch := ch) (λ b hb => ⟨(hf b hb).2.2.2.1, (hf b hb).2.1, (hf b hb).2.2.2.2.1, (hf b hb).2.2.2.2.2⟩) (λ b o _ _ hc e _ => k b o hc e) (λ b o _ _ hc e _ => ⟨o.slots, k b o hc e⟩)
  (λ _ _ _ _ n => n) (λ b o hc e => ⟨o, k b o hc e⟩) (λ _ _ e => e) (λ _ _ _ e => e) (λ b ps e => ⟨#[], by rw [e]; simp⟩) (λ m hm => ?_) (λ b u e => ?_) I.bare
 · obtain ⟨ob, es, ep, ho, r⟩ := hm
   exact ⟨ob, es, ep, k _ ob (λ z => (hf _ z).2.1 rfl) ho, r⟩
 · refine (I.hok b u e).stay (λ c v hc q => k c v ?_ q) (λ _ q => q) (λ _ _ q => q) λ _ _ _ q => q
   rcases hc with z | z
   · rw [z]; exact nit b u e
   · exact nit c _ z
end
structure Src (P : Program) (w : World) (K : Fg) (a it : Addr) (S : Hp -> List V -> Prop) (IT : Nat -> Heap -> Prop) : Prop where
 inj : ∀ (X : Cx), X.K = K -> ∀ (pins : List (Addr × Obj)) (σ : St) (H : Hp) (s : Shared) (xs ys : List V), Inv X pins σ H s -> S H xs -> S H ys -> xs = ys
 at_ : ∀ i h h', IT i h -> (∀ o, h.get? it = some o -> h'.get? it = some o) -> IT i h'
 ob : ∀ i h, IT i h -> ∃ o n, h.get? it = some o /\ o.cls = .type n /\ n ≠ "list" /\ n ≠ "tuple" /\ n ≠ "enumerate" /\ n ≠ "zip" /\ ∀ v, o.data ≠ .cell v
 dr : ∀ (X : Cx), X.prog = P -> X.w = w -> X.K = K -> ∀ (pins : List (Addr × Obj)) (σ : St) (H : Hp) (s : Shared) (xs : List V), Inv X pins σ H s -> S H xs -> ∃ (its : List Value) (SA : Heap -> Prop), Vals xs its /\ SA s.heap /\
  (∃ o n, s.heap.get? a = some o /\ o.cls = .type n /\ (n = "list" \/ n = "tuple")) /\ ∀ A : Around, A.handled = none -> a ≠ it -> Draws P w A it [it, a] its.toArray.size (λ i v => its.toArray[i]? = some v) λ i h => IT i h /\ SA h
theorem EF {P : Program} {w : World} {K : Fg} (a it : Addr) : Src P w K a it (λ H xs => SqT K H a xs) (λ i h => h.IsTupleIter it a i) where
 inj := λ X hK pins σ H s xs ys I h1 h2 => by subst hK; exact I.tuple_inj h1 h2
 at_ := λ i h h' x e => x.at e
 ob := λ i h x => by obtain ⟨o, e, c, d⟩ := x; exact ⟨o, _, e, c, by decide, by decide, by decide, by decide, λ v z => by rw [d] at z; cases z⟩
 dr := λ X hP hw hK pins σ H s xs I h => by
  subst hP hw hK
  obtain ⟨its, rv, p, hz⟩ := I.tuple h
  refine ⟨its, λ h => h.IsTuple a its.toArray, rv, p, ?_, λ A hh ne => G8 hh it a ne its.toArray⟩
  obtain ⟨o, e, c, _⟩ := p
  exact ⟨o, _, e, c, .inr rfl⟩
theorem GJ {P : Program} {w : World} {K : Fg} (a it : Addr) : Src P w K a it (λ H xs => SqL K H a xs) (λ i h => h.IsListIter it a i) where
 inj := λ X hK pins σ H s xs ys I h1 h2 => by subst hK; exact I.list_inj h1 h2
 at_ := λ i h h' x e => x.at e
 ob := λ i h x => by obtain ⟨o, e, c, d⟩ := x; exact ⟨o, _, e, c, by decide, by decide, by decide, by decide, λ v z => by rw [d] at z; cases z⟩
 dr := λ X hP hw hK pins σ H s xs I h => by
  subst hP hw hK
  obtain ⟨its, rv, p, hz⟩ := I.list h
  refine ⟨its, λ h => h.IsList a its.toArray, rv, p.isList, ?_, λ A hh ne => Draws.list hh it a ne its.toArray⟩
  obtain ⟨o, e, c, _⟩ := p.isList
  exact ⟨o, _, e, c, .inl rfl⟩
theorem bP {h : Heap} {a b : Addr} {o u : Obj} {n m : String} (e : h.get? a = some o) (c : o.cls = .type n) (e' : h.get? b = some u) (c' : u.cls = .type m) (d : n ≠ m) : a ≠ b := λ z => by
 subst z
 rw [e] at e'
 cases e'
 rw [c] at c'
 exact d (by injection c')
def Fo (S : Hp -> List V -> Prop) : It :=
 ⟨λ i H => ∃ xs x, S H xs /\ xs[i]? = some x, λ i H x H' => ∃ p v, H p = none /\ x = .ref p /\ H' = cZ H p (.tup [.int (i : Nat), v]) /\ ∀ xs, S H xs -> xs[i]? = some v, λ i H => ∃ xs, S H xs /\ xs.length = i⟩
theorem qv {P : Program} {w : World} {K : Fg} {es : List Expr} {k1 : Nat} {tp : Pos} {a e it : Addr} {S : Hp -> List V -> Prop} {IT : Nat -> Heap -> Prop} (R : Src P w K a it S IT) :
 Turn P w K (.Tuple es k1 tp) (Fo S) [e, it] e (λ i h => (∃ old, IsEnum h e it (i : Nat) old) /\ IT i h) where
 mem := by simp
 obj := λ i h st b hb => by
  obtain ⟨⟨old, he⟩, hi⟩ := st
  have hb' : b = e \/ b = it := by simpa using hb
  rcases hb' with z | z
  · subst z; exact ⟨_, he, λ v z => by cases z⟩
  · subst z
    obtain ⟨o, n, q, _, _, _, _, _, d⟩ := R.ob _ _ hi
    exact ⟨o, q, d⟩
 keep := λ i h h' st k => by
  obtain ⟨⟨old, he⟩, hi⟩ := st
  exact ⟨⟨old, k e (by simp) _ he⟩, R.at_ _ _ _ hi λ o q => k it (by simp) o q⟩
 item := by
  intro X hP hw hK hc i pins s σ H E I hf st hg
  obtain ⟨xs, x, hq, hx⟩ := hg
  obtain ⟨⟨old, he⟩, hi⟩ := st
  obtain ⟨its, SA, rv, sa, ⟨oa, na, ea, ca, da⟩, dr⟩ := R.dr X hP hw hK pins σ H s xs I hq
  obtain ⟨oi, ni, ei, ci, d1, d2, d3, _, _⟩ := R.ob _ _ hi
  have nai : a ≠ it := bP ea ca ei ci (by rcases da with z | z <;> (subst z; first | exact d1.symm | exact d2.symm))
  have nea : e ≠ a := bP he rfl ea ca (by rcases da with z | z <;> (subst z; decide))
  have nei : e ≠ it := bP he rfl ei ci (Ne.symm d3)
  obtain ⟨u, hu, ru⟩ := rv.get hx
  have hh : X.A.in1.handled = none := I.ok.hd hc
  have hlt : i < its.toArray.size := by have := (yf.mp hu).1; simpa using this
  subst hP hw
  refine wpAny_pyNext_enum_itemD (dr _ hh nai) he ⟨hi, sa⟩ hlt nei (by simp [nei, nea]) λ y h' tk py heo st' ht hsz hk => ?_
  have ey : y = u := by
   have : its[i]? = some y := by simpa using py
   rw [hu] at this; exact (zV this).symm
  subst ey
  refine ⟨_, rfl, wpAny_letOwnedTupleGo_enum heo λ h2 he2 c2 => ?_⟩
  have c2 : Heap.SameBut e h' h2 := c2
  have el : e < s.heap.objs.size := fG he
  have t2 : h2.get? s.heap.objs.size = some { cls := .type "tuple", data := .seq #[.int i tk, y] } := (c2.2 _ (xX el)).trans ht
  have I2 : Inv X pins σ (cZ H s.heap.objs.size (.tup [.int (i : Nat), x])) { s with heap := h2, toks := tk + 1 } := I.turnedN (ch := [e, it]) hf (λ b o hb q => by
   have hb' : b ≠ e /\ b ≠ it := by simpa using hb
   exact (c2.2 _ hb'.1).trans (hk b o hb'.1 hb'.2 q)) (Q2 _) ⟨by show 2 <= sizeLine; decide, [.int i tk, y], .cons ⟨tk, rfl⟩ (.cons ru .nil), ⟨_, t2, rfl, _, rfl⟩, _, t2, rfl⟩
  have hn : H s.heap.objs.size = none := I.hok.fresh (Q2 _)
  refine ⟨.ref s.heap.objs.size, _, I2, rfl, ⟨_, x, hn, rfl, rfl, λ ys hy => by rw [R.inj X hK pins σ H s ys xs I hy hq]; exact hx⟩, ⟨⟨_, by simpa using he2⟩, R.at_ _ _ _ st'.1 λ o q => (c2.2 _ nei.symm).trans q⟩, λ b hb => ?_⟩
  have lb : b < s.heap.objs.size := by
   have hb' : b = e \/ b = it := by simpa using hb
   rcases hb' with z | z
   · rw [z]; exact el
   · rw [z]; exact fG ei
  rw [aZ (oX lb)]
  exact (hf b hb).1
 done := by
  intro X hP hw hK hc i pins s σ H E I hf st hg
  obtain ⟨xs, hq, hx⟩ := hg
  obtain ⟨⟨old, he⟩, hi⟩ := st
  obtain ⟨its, SA, rv, sa, ⟨oa, na, ea, ca, da⟩, dr⟩ := R.dr X hP hw hK pins σ H s xs I hq
  obtain ⟨oi, ni, ei, ci, d1, d2, d3, _, _⟩ := R.ob _ _ hi
  have nai : a ≠ it := bP ea ca ei ci (by rcases da with z | z <;> (subst z; first | exact d1.symm | exact d2.symm))
  have hh : X.A.in1.handled = none := I.ok.hd hc
  subst hP hw
  have hl : its.toArray.size = i := by rw [<- hx, rv.length]; simp
  refine wpAny_pyNext_enum_endD (dr _ hh nai) he (by rw [hl]; exact ⟨hi, sa⟩) λ h' eb => ⟨rfl, I.turned0 (t' := s.toks) (ch := [e, it]) hf λ b u hb q => ?_⟩
  have hb' : b ≠ e /\ b ≠ it := by simpa using hb
  exact eb b u hb'.2 q
 self := λ A i s Q E st h => by
  obtain ⟨⟨old, he⟩, hi⟩ := st
  exact wpAny_pyIter_enum he h
def GK (S1 S2 : Hp -> List V -> Prop) : It :=
 ⟨λ i H => ∃ xs ys x y, S1 H xs /\ S2 H ys /\ xs[i]? = some x /\ ys[i]? = some y,
  λ i H x H' => ∃ p v u, H p = none /\ x = .ref p /\ H' = cZ H p (.tup [v, u]) /\ (∀ xs, S1 H xs -> xs[i]? = some v) /\ ∀ ys, S2 H ys -> ys[i]? = some u,
  λ i H => ∃ xs, S1 H xs /\ xs.length = i⟩
theorem zq {P : Program} {w : World} {K : Fg} {es : List Expr} {k1 : Nat} {tp : Pos} {a1 a2 z TI TO i1 i2 : Addr} {S1 S2 : Hp -> List V -> Prop} {IT1 IT2 : Nat -> Heap -> Prop} (R1 : Src P w K a1 i1 S1 IT1) (R2 : Src P w K a2 i2 S2 IT2) (n12 : i1 ≠ i2) (nT : TI ≠ TO) :
 Turn P w K (.Tuple es k1 tp) (GK S1 S2) [z, TI, TO, i1, i2] z (λ i h => IsZip h z TI TO .none /\ IsPair h TI (.ref i1) (.ref i2) /\ (∃ a b, IsPair h TO a b) /\ IT1 i h /\ IT2 i h /\ a1 ≠ TO /\ a2 ≠ TO) where
 mem := by simp
 obj := λ i h st b hb => by
  obtain ⟨hz, hTI, ⟨a, b', hTO⟩, h1, h2, _, _⟩ := st
  have hb' : b = z \/ b = TI \/ b = TO \/ b = i1 \/ b = i2 := by simpa using hb
  rcases hb' with q | q | q | q | q
  · subst q; exact ⟨_, hz, λ v z => by cases z⟩
  · subst q; exact ⟨_, hTI, λ v z => by cases z⟩
  · subst q; exact ⟨_, hTO, λ v z => by cases z⟩
  · subst q
    obtain ⟨o, n, q, _, _, _, _, _, d⟩ := R1.ob _ _ h1
    exact ⟨o, q, d⟩
  · subst q
    obtain ⟨o, n, q, _, _, _, _, _, d⟩ := R2.ob _ _ h2
    exact ⟨o, q, d⟩
 keep := λ i h h' st k => by
  obtain ⟨hz, hTI, ⟨a, b', hTO⟩, h1, h2, q1, q2⟩ := st
  exact ⟨k z (by simp) _ hz, k TI (by simp) _ hTI, ⟨a, b', k TO (by simp) _ hTO⟩, R1.at_ _ _ _ h1 λ o q => k i1 (by simp) o q, R2.at_ _ _ _ h2 λ o q => k i2 (by simp) o q, q1, q2⟩
 item := by
  intro X hP hw hK hc i pins s σ H E I hf st hg
  obtain ⟨xs, ys, x, y, hq1, hq2, hx, hy⟩ := hg
  obtain ⟨hz, hTI, ⟨a, b', hTO⟩, h1, h2, q1, q2⟩ := st
  obtain ⟨is1, SA1, rv1, sa1, ⟨oa1, na1, ea1, ca1, da1⟩, dr1⟩ := R1.dr X hP hw hK pins σ H s xs I hq1
  obtain ⟨is2, SA2, rv2, sa2, ⟨oa2, na2, ea2, ca2, da2⟩, dr2⟩ := R2.dr X hP hw hK pins σ H s ys I hq2
  obtain ⟨o1, n1, e1, c1, d11, d12, d13, d14, _⟩ := R1.ob _ _ h1
  obtain ⟨o2, n2, e2, c2, d21, d22, d23, d24, _⟩ := R2.ob _ _ h2
  have s11 : a1 ≠ i1 := bP ea1 ca1 e1 c1 (by rcases da1 with z | z <;> (subst z; first | exact d11.symm | exact d12.symm))
  have s22 : a2 ≠ i2 := bP ea2 ca2 e2 c2 (by rcases da2 with z | z <;> (subst z; first | exact d21.symm | exact d22.symm))
  have s12 : a1 ≠ i2 := bP ea1 ca1 e2 c2 (by rcases da1 with z | z <;> (subst z; first | exact d21.symm | exact d22.symm))
  have s21 : a2 ≠ i1 := bP ea2 ca2 e1 c1 (by rcases da2 with z | z <;> (subst z; first | exact d11.symm | exact d12.symm))
  have sz1 : a1 ≠ z := bP ea1 ca1 hz rfl (by rcases da1 with z | z <;> (subst z; decide))
  have sz2 : a2 ≠ z := bP ea2 ca2 hz rfl (by rcases da2 with z | z <;> (subst z; decide))
  have tz : TI ≠ z := bP hTI rfl hz rfl (by decide)
  have oz : TO ≠ z := bP hTO rfl hz rfl (by decide)
  have iz1 : i1 ≠ z := bP e1 c1 hz rfl d14
  have iz2 : i2 ≠ z := bP e2 c2 hz rfl d24
  have oi1 : TO ≠ i1 := bP hTO rfl e1 c1 (Ne.symm d12)
  have oi2 : TO ≠ i2 := bP hTO rfl e2 c2 (Ne.symm d22)
  have ti1 : TI ≠ i1 := bP hTI rfl e1 c1 (Ne.symm d12)
  have ti2 : TI ≠ i2 := bP hTI rfl e2 c2 (Ne.symm d22)
  obtain ⟨u, hu, ru⟩ := rv1.get hx
  obtain ⟨v, hv, rv⟩ := rv2.get hy
  have hh : X.A.in1.handled = none := I.ok.hd hc
  have l1 : i < is1.toArray.size := by have := (yf.mp hu).1; simpa using this
  have l2 : i < is2.toArray.size := by have := (yf.mp hv).1; simpa using this
  subst hP hw
  have ap : ZA z TI TO i1 i2 [i1, a1] [i2, a2] := ⟨tz, oz, iz1, iz2, oi1, oi2, by simp [iz1.symm, sz1.symm], by simp [iz2.symm, sz2.symm], by simp [oi1, q1.symm], by simp [oi2, q2.symm], by simp [n12.symm, s12.symm], by simp [n12, s21.symm]⟩
  refine vS (dr1 _ hh s11) (dr2 _ hh s22) ap hz hTI hTO ⟨h1, sa1⟩ ⟨h2, sa2⟩ l1 l2 λ x' y' h' tk p1 p2 z' to' w1 w2 t' sz' hk => ?_
  have ex : x' = u := by
   have : is1[i]? = some x' := by simpa using p1
   rw [hu] at this; exact (zV this).symm
  have ey : y' = v := by
   have : is2[i]? = some y' := by simpa using p2
   rw [hv] at this; exact (zV this).symm
  subst ex ey
  refine ⟨_, rfl, wpAny_letOwnedTupleGo_zip z' λ g2 z2 cc => ?_⟩
  have cc : Heap.SameBut z h' g2 := cc
  have zl : z < s.heap.objs.size := fG hz
  have t2 : IsPair g2 s.heap.objs.size x' y' := (cc.2 _ (xX zl)).trans t'
  have I2 : Inv X pins σ (cZ H s.heap.objs.size (.tup [x, y])) { s with heap := g2, toks := tk } := I.turnedN (ch := [z, TI, TO, i1, i2]) hf (λ b o hb q => by
   have hb' : b ≠ z /\ b ≠ TI /\ b ≠ TO /\ b ≠ i1 /\ b ≠ i2 := by simpa using hb
   exact (cc.2 _ hb'.1).trans (hk b o hb'.1 hb'.2.2.1 hb'.2.2.2.1 hb'.2.2.2.2 q)) (Q2 _) ⟨by show 2 <= sizeLine; decide, [x', y'], .cons ru (.cons rv .nil), ⟨_, t2, rfl, _, rfl⟩, _, t2, rfl⟩
  have hn : H s.heap.objs.size = none := I.hok.fresh (Q2 _)
  refine ⟨.ref s.heap.objs.size, _, I2, rfl, ⟨_, x, y, hn, rfl, rfl, λ zs hz' => by rw [R1.inj X hK pins σ H s zs xs I hz' hq1]; exact hx, λ zs hz' => by rw [R2.inj X hK pins σ H s zs ys I hz' hq2]; exact hy⟩,
   ⟨z2, (cc.2 _ tz).trans (hk _ _ tz nT ti1 ti2 hTI), ⟨_, _, (cc.2 _ oz).trans to'⟩, R1.at_ _ _ _ w1.1 λ o q => (cc.2 _ iz1).trans q, R2.at_ _ _ _ w2.1 λ o q => (cc.2 _ iz2).trans q, q1, q2⟩, λ b hb => ?_⟩
  have lb : b < s.heap.objs.size := by
   have hb' : b = z \/ b = TI \/ b = TO \/ b = i1 \/ b = i2 := by simpa using hb
   rcases hb' with q | q | q | q | q <;> rw [q]
   · exact zl
   · exact fG hTI
   · exact fG hTO
   · exact fG e1
   · exact fG e2
  rw [aZ (oX lb)]
  exact (hf b hb).1
 done := by
  intro X hP hw hK hc i pins s σ H E I hf st hg
  obtain ⟨xs, hq1, hx⟩ := hg
  obtain ⟨hz, hTI, ⟨a, b', hTO⟩, h1, h2, q1, q2⟩ := st
  obtain ⟨is1, SA1, rv1, sa1, ⟨oa1, na1, ea1, ca1, da1⟩, dr1⟩ := R1.dr X hP hw hK pins σ H s xs I hq1
  obtain ⟨o1, n1, e1, c1, d11, d12, d13, d14, _⟩ := R1.ob _ _ h1
  obtain ⟨o2, n2, e2, c2, d21, d22, d23, d24, _⟩ := R2.ob _ _ h2
  have s11 : a1 ≠ i1 := bP ea1 ca1 e1 c1 (by rcases da1 with z | z <;> (subst z; first | exact d11.symm | exact d12.symm))
  have s12 : a1 ≠ i2 := bP ea1 ca1 e2 c2 (by rcases da1 with z | z <;> (subst z; first | exact d21.symm | exact d22.symm))
  have sz1 : a1 ≠ z := bP ea1 ca1 hz rfl (by rcases da1 with z | z <;> (subst z; decide))
  have tz : TI ≠ z := bP hTI rfl hz rfl (by decide)
  have oz : TO ≠ z := bP hTO rfl hz rfl (by decide)
  have iz1 : i1 ≠ z := bP e1 c1 hz rfl d14
  have iz2 : i2 ≠ z := bP e2 c2 hz rfl d24
  have oi1 : TO ≠ i1 := bP hTO rfl e1 c1 (Ne.symm d12)
  have oi2 : TO ≠ i2 := bP hTO rfl e2 c2 (Ne.symm d22)
  have hh : X.A.in1.handled = none := I.ok.hd hc
  subst hP hw
  have hl : is1.toArray.size = i := by rw [<- hx, rv1.length]; simp
  have ap : ZA z TI TO i1 i2 [i1, a1] [] := ⟨tz, oz, iz1, iz2, oi1, oi2, by simp [iz1.symm, sz1.symm], by simp, by simp [oi1, q1.symm], by simp, by simp [n12.symm, s12.symm], by simp⟩
  refine xo (dr1 _ hh s11) ap hz hTI hTO (by rw [hl]; exact ⟨h1, sa1⟩) λ h' eb => ⟨rfl, I.turned0 (t' := s.toks) (ch := [z, TI, TO, i1, i2]) hf λ b u hb q => ?_⟩
  have hb' : b ≠ z /\ b ≠ TI /\ b ≠ TO /\ b ≠ i1 /\ b ≠ i2 := by simpa using hb
  exact eb b u hb'.1 hb'.2.2.2.1 q
 self := λ A i s Q E st h => wpAny_pyIter_zip st.1 h
section
variable {X : Cx} {es : List Expr} {k1 : Nat} {tp : Pos}
def zr (K : Fg) (ta : TA) : TI := λ σ H R => ta σ H λ vs H1 => ∃ a b, vs = [.ref a, .ref b] /\ (∃ xs, SqT K H1 a xs) /\ (∃ ys, SqT K H1 b ys) /\ R (GK (λ H xs => SqT K H a xs) λ H xs => SqT K H b xs) H1
theorem CC {a b : Expr} {ta : TA} {p pos : Pos} (hg : Gl X "zip") (hm : X.mg "zip" = none) (ha : PA X [a, b] ta) (hs : starEach [a, b] X.env = [(false, eval a X.env), (false, eval b X.env)] := by rfl) (hs2 : starEach [b] X.env = [(false, eval b X.env)] := by rfl) :
 PI X (.Tuple es k1 tp) (.Call (.Name "zip" p) [a, b] [] pos) (zr X.K ta) := by
 intro pins s σ H R I h
 refine Call_ (mk I hg hm boot_zip (PyProof.Rows.callWith_type1 (dm (ha pos pins s σ H _ I h) λ us s1 q_ => ?_) (by rw [hs, hs2]) (by rw [hs2]; rfl)))
 obtain ⟨vs, H1, I1, r1, q1⟩ := q_
 obtain ⟨c, d, e, ⟨xs, hx⟩, ⟨ys, hy⟩, q⟩ := q1
 subst e
 cases r1 with
 | cons r rr =>
  cases rr with
  | cons r' rr =>
   cases rr
   cases r
   cases r'
   obtain ⟨its, rv, pt, hz⟩ := I1.tuple hx
   obtain ⟨its2, rv2, pt2, hz2⟩ := I1.tuple hy
   refine xp (show s1.heap.IsTuple c its.toArray from pt) (show s1.heap.IsTuple d its2.toArray from pt2) λ h' q1 q2 q3 q4 q5 q6 q7 => ?_
   have lc := pt.lt
   have ld := pt2.lt
   refine wpAny_pyIter_zip q1 ⟨_, [_, _, _, _, _], _, _, H1, rfl, I1.kept (t' := s1.toks) q7, zq (TI := s1.heap.objs.size + 2) (TO := s1.heap.objs.size + 3) (EF c s1.heap.objs.size) (EF d (s1.heap.objs.size + 1)) (oX (DC _)) (oX (DC _)), ⟨q1, q2, ⟨_, _, q3⟩, q4, q5, oX (jn lc (Bi _ _)), oX (jn ld (Bi _ _))⟩, λ b hb => ?_, q⟩
   have hb' : b = s1.heap.objs.size + 4 \/ b = s1.heap.objs.size + 2 \/ b = s1.heap.objs.size + 3 \/ b = s1.heap.objs.size \/ b = s1.heap.objs.size + 1 := by simpa using hb
   have hle : s1.heap.objs.size <= b := by
    rcases hb' with z | z | z | z | z <;> rw [z]
    all_goals first | exact Q2 _ | exact Bi _ _
   exact I1.fpOk hle (I1.hok.fresh hle)
end
mutual
noncomputable def IsD (K : Fg) (H : Hp) (x : V) : PyData -> Prop
 | .none => x = .non
 | .bool b => x = .bl b
 | .int i => x = .int i
 | .str y => x = .str y
 | .list ds => ∃ a xs, x = .ref a /\ SqL K H a xs /\ AllD K H xs ds
 | .tuple ds => ∃ a xs, x = .ref a /\ SqT K H a xs /\ AllD K H xs ds
 | .dict _ => False
noncomputable def AllD (K : Fg) (H : Hp) (xs : List V) : List PyData -> Prop
 | [] => xs = []
 | d :: ds => ∃ x r, xs = x :: r /\ IsD K H x d /\ AllD K H r ds
end
theorem Same.seqT {K : Fg} {H H' : Hp} {a : Addr} {xs : List V} (e : Same H H') (h : SqT K H a xs) : SqT K H' a xs := by
 rcases h with h | h
 · rcases h with h | ⟨o, h⟩
   · exact .inl (.inl (e _ _ h))
   · exact .inl (.inr ⟨o, e _ _ h⟩)
 · exact .inr h
theorem bU {H : Hp} {p : Addr} (h : H p = none) (o : HO) : Same H (cZ H p o) := λ b u q => by rw [aZ (aU q h)]; exact q
mutual
theorem IsD.same {K : Fg} {H H' : Hp} (s : Same H H') : ∀ {x : V} (d : PyData), IsD K H x d -> IsD K H' x d
 | _, .none, h => h
 | _, .bool _, h => h
 | _, .int _, h => h
 | _, .str _, h => h
 | _, .list ds, h => by
  obtain ⟨a, xs, e, q, r⟩ := h
  exact ⟨a, xs, e, s.seq q, AllD.same s ds r⟩
 | _, .tuple ds, h => by
  obtain ⟨a, xs, e, q, r⟩ := h
  exact ⟨a, xs, e, s.seqT q, AllD.same s ds r⟩
 | _, .dict _, h => h.elim
theorem AllD.same {K : Fg} {H H' : Hp} (s : Same H H') : ∀ {xs : List V} (ds : List PyData), AllD K H xs ds -> AllD K H' xs ds
 | _, [], h => h
 | _, d :: ds, h => by
  obtain ⟨x, r, e, q, t⟩ := h
  exact ⟨x, r, e, IsD.same s d q, AllD.same s ds t⟩
end
section
variable {X : Cx} {pins : List (Addr × Obj)} {σ : St} {H : Hp} {s : Shared}
mutual
theorem IsD.reads (I : Inv X pins σ H s) : ∀ {x : V} {u : Value} (d : PyData), IsD X.K H x d -> RelV x u -> ∃ as, Reads s.heap u d as
 | _, _, .none, h, r => by rw [show _ = V.non from h] at r; cases r; exact ⟨_, .none⟩
 | _, _, .bool b, h, r => by rw [show _ = V.bl b from h] at r; cases r; exact ⟨_, .bool b⟩
 | _, _, .int i, h, r => by rw [show _ = V.int i from h] at r; obtain ⟨t, rfl⟩ := r; exact ⟨_, .int i t⟩
 | _, _, .str y, h, r => by rw [show _ = V.str y from h] at r; obtain ⟨t, rfl⟩ := r; exact ⟨_, .str y t⟩
 | _, _, .list ds, h, r => by
  obtain ⟨a, xs, e, q, al⟩ := h
  subst e
  cases r
  obtain ⟨its, rv, p, _⟩ := I.list q
  obtain ⟨o, h1, h2, n, h3⟩ := p.isList
  obtain ⟨as, ra⟩ := AllD.reads I ds al rv
  exact ⟨_, .list h1 h2 h3 (by simpa using ra)⟩
 | _, _, .tuple ds, h, r => by
  obtain ⟨a, xs, e, q, al⟩ := h
  subst e
  cases r
  obtain ⟨its, rv, p, _⟩ := I.tuple q
  obtain ⟨o, h1, h2, n, h3⟩ := p
  obtain ⟨as, ra⟩ := AllD.reads I ds al rv
  exact ⟨_, .tuple h1 h2 h3 (by simpa using ra)⟩
 | _, _, .dict _, h, _ => h.elim
theorem AllD.reads (I : Inv X pins σ H s) : ∀ {xs : List V} {us : List Value} (ds : List PyData), AllD X.K H xs ds -> Vals xs us -> ∃ as, ReadsAll s.heap us ds as
 | _, _, [], h, r => by rw [show _ = [] from h] at r; cases r; exact ⟨_, .nil⟩
 | _, _, d :: ds, h, r => by
  obtain ⟨x, rr, e, q, al⟩ := h
  subst e
  cases r with
  | cons r1 r2 =>
   obtain ⟨as, ra⟩ := IsD.reads I d q r1
   obtain ⟨bs, rb⟩ := AllD.reads I ds al r2
   exact ⟨_, .cons ra rb⟩
end
def zt (d : PyData) : Prop := d.canLay0 = true /\ d.depth <= 60
def xq (K : Fg) (neg : Bool) : R2 := λ x y H Q => ∃ da db, IsD K H x da /\ IsD K H y db /\ zt da /\ zt db /\ Q (.bl (if neg then !PyData.eqv da db else PyData.eqv da db)) H
theorem EG (hu : X.A.units + 64 < cLine) : OpR X (compareOp .Eq) (xq X.K false) := by
 intro pins s σ H x y v u Q I rx ry h
 obtain ⟨da, db, hx, hy, ca, cb, q⟩ := h
 obtain ⟨as, ra⟩ := hx.reads I _ rx
 obtain ⟨bs, rb⟩ := hy.reads I _ ry
 exact SeqAt.compareEq_reads ra rb ca.1 cb.1 (by have := ca.2; omega) ⟨.bl _, H, I, rfl, q⟩
theorem EH (hu : X.A.units + 64 < cLine) : OpR X (compareOp .NotEq) (xq X.K true) := by
 intro pins s σ H x y v u Q I rx ry h
 obtain ⟨da, db, hx, hy, ca, cb, q⟩ := h
 obtain ⟨as, ra⟩ := hx.reads I _ rx
 obtain ⟨bs, rb⟩ := hy.reads I _ ry
 exact SeqAt.compareNe_reads ra rb ca.1 cb.1 (by have := ca.2; omega) ⟨.bl _, H, I, rfl, q⟩
def EI (K : Fg) : List V -> Hp -> VK -> Prop := λ xs H Q => ∃ (p : Addr) (bs : List Bool), xs = [.ref p] /\ SqL K H p (bs.map V.bl) /\ Q (.bl (bs.all id)) H
theorem xr {bs : List Bool} : (List.range bs.length).all (λ i => bs.getD i true) = bs.all id := by
 rw [Bool.eq_iff_iff, tN, tN]
 constructor
 · intro h x hx
   obtain ⟨i, hi, e⟩ := List.mem_iff_getElem.mp hx
   have := h i (by simpa using hi)
   rw [jX, fI hi, e] at this
   exact this
 · intro h i hi
   have hi' : i < bs.length := by simpa using hi
   rw [jX, fI hi']
   exact h _ (tM hi')
theorem zu (hc : X.calm = true) : dq X (.builtin "all") (EI X.K) := by
 intro pins s σ H xs us Q I rv h
 obtain ⟨p, bs, rfl, hq, q⟩ := h
 obtain ⟨u, rfl, r⟩ := rv.one
 cases r
 obtain ⟨its, rr, pl, hz⟩ := I.list hq
 have hl : its.length = bs.length := by rw [<- rr.length, zJ]
 have hh : X.A.in1.handled = none := I.ok.hd hc
 have lp : p < s.heap.objs.size := by obtain ⟨o, e, _⟩ := pl.isList; exact fG e
 refine call_all_walk (wpAny_pyIter_list pl.isList ⟨_, _, _, _, _, _, λ i => bs.getD i true, rfl, Walks.list hh s.heap.objs.size p (oX lp) its.toArray, ⟨⟨_, jm _ rfl, rfl, rfl⟩, pl.isList.push _⟩, ?_, λ h' tk k => ?_⟩)
 · intro i v s' Q' E' hP hQ
   have hP' : its[i]? = some v := by simpa using hP
   have hi : i < its.length := (yf.mp hP').1
   have hb : (bs.map V.bl)[i]? = some (.bl (bs[i]'(by omega))) := by rw [zK, fI (by omega)]; rfl
   obtain ⟨u, hu, ru⟩ := rr.get hb
   rw [hP'] at hu
   cases hu
   cases ru
   have e : bs.getD i true = bs[i]'(by omega) := by rw [jX, fI (by omega)]; rfl
   have hQ' : Q' (bs.getD i true) s' := hQ
   rw [e] at hQ'
   exact wpAny_truthy_bool hQ'
 · have e : (List.range its.toArray.size).all (λ i => bs.getD i true) = bs.all id := by rw [zM, hl, xr]
   rw [e]
   refine ⟨.bl _, H, ?_, rfl, q⟩
   refine I.kept λ b o eb => k b o ?_ (gy _ eb)
   simp only [yp]
   exact oX (fG eb)
def wo : V -> List V -> Hp -> VK -> Prop := λ x vs H Q => ∃ (l : Addr) (ns : List Int) (n : Int), x = .ref l /\ vs = [.int n] /\ H l = some (.lst (ns.map V.int)) /\ n ∈ ns /\ Q .non (cZ H l (.lst ((ns.erase n).map V.int)))
theorem xt (n : Int) (ns : List Int) : ∀ {us : List Value}, Vals (ns.map V.int) us -> n ∈ ns -> ∃ j, ∃ (hj : j < us.length), yj (.int n) us[j] = true /\ (∀ m (hm : m < us.length), m < j -> yj (.int n) us[m] = false) /\ Vals ((ns.erase n).map V.int) (us.eraseIdx j) := by
 induction ns with
 | nil => intro us _ h; simp at h
 | cons a r ih =>
  intro us rv h
  cases rv with
  | @cons _ b _ l2 r1 r2 =>
   obtain ⟨t, rfl⟩ := (show ∃ t, b = Value.int a t from r1)
   by_cases e : a = n
   · subst e
     refine ⟨0, by simp, ?_, λ m _ hm => absurd hm (zS _), ?_⟩
     · show xc (.int a) (.int a) = true
       simp [xc]
     · simpa using r2
   · have hr : n ∈ r := by
      rcases qS.mp h with z | z
      · exact absurd z.symm e
      · exact z
     obtain ⟨j, hj, h1, h2, h3⟩ := ih r2 hr
     refine ⟨j + 1, by simpa using hj, by simpa using h1, λ m hm hmj => ?_, ?_⟩
     · cases m with
       | zero =>
        show xc (.int a) (.int n) = false
        simp [xc, e]
       | succ m => simpa using h2 m (by simpa using hm) (by omega)
     · rw [List.erase_cons_tail (by simpa using e)]
       exact .cons ⟨t, rfl⟩ h3
theorem qw : GI X "list.remove" wo := by
 intro pins s σ H x vs v us Q I rx rv h
 obtain ⟨l, ns, n, rfl, rfl, hH, hm, q⟩ := h
 cases rx
 obtain ⟨u, rfl, ru⟩ := rv.one
 obtain ⟨z, its, k, r, hl, e⟩ := I.lstM hH
 obtain ⟨t, rfl⟩ := (show ∃ t, u = Value.int n t from ru)
 obtain ⟨j, hj, h1, h2, h3⟩ := xt n ns r hm
 have hz : its.length <= sizeLine := by rw [<- hl]; exact z
 refine call_meets F.slot_list_remove ⟨_, e, rfl⟩ F.entry_list_remove (F.args_list_remove_2 _ _) (MeetsSeq.list_remove l its.toArray k (.int n t) (yj (.int n)) ?_ j (by simpa using hj) (by simpa using h1) (λ m hm hmj => by simpa using h2 m (by simpa using hm) hmj) (by rw [zM]; exact hz)) ⟨e, ?_⟩
 · intro y hy
   have hy' : y ∈ its := by simpa using hy
   obtain ⟨i, hi, ei⟩ := List.mem_iff_getElem.mp hy'
   have hl' : (ns.map V.int).length = its.length := r.length
   have hi' : i < ns.length := by rw [zJ] at hl'; omega
   obtain ⟨u, hu, ru⟩ := r.get (i := i) (x := .int ns[i]) (by rw [zK, fI hi'] <;> rfl)
   rw [fI hi, ei] at hu
   cases hu
   obtain ⟨t', rfl⟩ := ru
   exact MeetsSeq.EqGives.int ns[i] n t' t
 · refine ⟨.non, _, I.lset (its' := its.eraseIdx j) hH e (by simp [Array.eraseIdxIfInBounds, hj]) h3 ?_, rfl, q⟩
   rw [zJ]
   have := List.length_erase_le (a := n) (l := ns)
   rw [zJ] at z
   omega
end
section
variable {prog : Program} {w : World} {A : Around} {E : Value -> Shared -> Prop} {s : Shared}
theorem xu {t sl : Addr} {items : Array Value} {vl vu : Value} {lo hi : Option Int} {Q : Value -> Shared -> Prop} (ht : IsTup s.heap t items) (hs : s.heap.IsSliceOf sl vl vu .none) (pl : IsPart vl lo) (pu : IsPart vu hi)
 (hw : HT.eS items.size 0 lo = 0 /\ HT.eS items.size items.size hi = items.size) (h : Q (.ref t) s) : wpAny (model prog w) A (getItem (.ref t) (.ref sl)) Q E s := by
 obtain ⟨os, hos, hcs, hds⟩ := id hs
 have hTs : s.TypeIs (.ref sl) "slice" := ⟨os, hos, hcs⟩
 unfold getItem
 try with_reducible refine wpAny_holding ?_
 first | refine wB (wP ?_) | skip
 refine wB (wpAny_sequenceKey ht.typeIs (by decide) ?_)
 refine wB (wpAny_callSpecial?_slot (name := Str.ofString "__getitem__") ht.typeIs PyProof.Rows.slot_tuple_getitem (wpAny_call_entry PyProof.Rows.slot_tuple_getitem ht.typeIs entry_tuple_getitem ?_ (args_tuple_getitem _ _)))
 show wpAny _ _ (Builtin.Tuple.tupleItemsOf (.ref t) >>= _) _ _ s
 refine wB (tupleItemsOf_ ht ?_)
 refine wB (wpAny_typeOf hTs ?_)
 rw [if_pos (by decide)]
 refine wB (HT.iL hs pl pu ?_)
 rw [hw.1, hw.2]
 show wpAny _ _ (if (((0 : Nat) : Int) == 0 && (1 : Int) == 1 && (items.size - 0) == items.size) = true then _ else _) _ _ s
 rw [if_pos (by simp)]
 show wpAny _ _ (Builtin.Tuple.tupleIsExact (.ref t) >>= _) _ _ s
 refine wB ?_
 unfold Builtin.Tuple.tupleIsExact
 refine wB (wpAny_typeOf ht.typeIs (wP ?_))
 first
  | exact wB (wpAny_rule (wP ⟨_, rfl, wP h⟩))
  | (simp only [beq_self_eq_true, if_true]; exact wB (wpAny_rule (wB (wP (wP ⟨_, rfl, wP h⟩)))))
  | (simp only [beq_self_eq_true, if_true]; exact wB (wpAny_rule (wP ⟨_, rfl, wP h⟩)))
end
section
variable {X : Cx}
def FR (K : Fg) : V -> Option Int -> Option Int -> Hp -> VK -> Prop := λ x lo hi H Q => ∃ a xs, x = .ref a /\ SqT K H a xs /\ HT.eS xs.length 0 lo = 0 /\ HT.eS xs.length xs.length hi = xs.length /\ Q (.ref a) H
theorem CD : SlR X (FR X.K) := by
 intro pins s σ H x v vl vu lo hi sl Q I rx hs pl pu h
 obtain ⟨a, xs, rfl, hx, h1, h2, q⟩ := h
 cases rx
 obtain ⟨its, r, ht, hz⟩ := I.tuple hx
 have hlen : its.toArray.size = xs.length := by rw [zM]; exact r.length.symm
 refine ⟨"tuple", _, PyProof.Rows.slot_tuple_getitem.lookup, ht.typeIs, xu ht hs pl pu (by rw [hlen]; exact ⟨h1, h2⟩) ⟨.ref a, H, I, rfl, q⟩⟩
end
section
variable {prog : Program} {w : World} {A : Around} {E : Value -> Shared -> Prop} {s : Shared}
theorem CF {t b : Addr} {vs ws : List Value} {Q : Value -> Shared -> Prop} (ht : IsTup s.heap t vs.toArray) (hb : IsTup s.heap b ws.toArray) (hv : vs = []) (h : Q (.ref b) s) : wpAny (model prog w) A (binaryOp .Add (.ref t) (.ref b)) Q E s := by
 obtain ⟨⟨cls, dd, data, sl⟩, ho, hc, n, hd⟩ := id ht
 obtain ⟨⟨cls2, dd2, data2, sl2⟩, ho2, hc2, n2, hd2⟩ := id hb
 simp only at hc hd hc2 hd2
 subst hc hd hc2 hd2
 exact concat_meets ⟨_, ho, rfl⟩ ⟨_, ho2, rfl⟩ noFill_tuple_add seq_tuple_add PySem.F.slot_tuple_add PySem.F.entry_tuple_add (PySem.F.args_tuple_add_2 _ _) (tuple_addW0 t b vs.toArray ws.toArray n n2 dd dd2 sl sl2 (by simp [hv])) ⟨ho, ho2, h⟩
end
section
variable {X : Cx}
end
structure Own (P : Program) (w : World) (K : Fg) (mg : Str -> Option Value) (base : Heap) (k : Nat) (x : Str) (ps : List Str) (sp : Sp) : Prop where
 ex : ∃ (f : Addr) (fd : FuncData), FnOk P w K mg base iC k f fd ps sp /\ mg x = some (.ref f) /\ PySem.W.keepIn K (.ref f) = true /\ Binds K fd ps []
section
variable {X : Cx}
theorem aY {k n : Nat} {x : Str} {ps : List Str} {sp : Sp} {p pos : Pos} {e : Expr} {es : List Expr} {t : TA} (O : Own X.prog X.w X.K X.mg X.base k x ps sp) (hr : Room n X.A) (ha : PA X (e :: es) t) (hkn : k <= n := by decide) (hg : Gl X x := by rfl)
 (hdb : (x == ("__debug__" : Str)) = false := by decide) (he : starEach (e :: es) X.env = (false, eval e X.env) :: starEach es X.env := by rfl) (hpl : (backTo pos (starEach es X.env)).any (·.1) = false := by rfl) :
 PE X (.Call (.Name x p) (e :: es) [] pos) (nU sp [] E0 t) := by
 obtain ⟨f, fd, F, m, kp, b⟩ := O.ex
 exact wf F (hr.mono hkn) hg m kp b .nil DS ha hdb he hpl
end
structure Bt (mg : Str -> Option Value) : Prop where
 len : mg "len" = none
 isinstance : mg "isinstance" = none
 range : mg "range" = none
 int : mg "int" = none
 bool : mg "bool" = none
 tuple : mg "tuple" = none
 list : mg "list" = none
 all : mg "all" = none
 enumerate : mg "enumerate" = none
 zip : mg "zip" = none
 sum : mg "sum" = none
 sorted : mg "sorted" = none
 max : mg "max" = none
 min : mg "min" = none
 set : mg "set" = none
 str : mg "str" = none
theorem eD : bootBuiltins "isinstance" = some (.builtin "isinstance") := by decide +kernel
theorem jZ {n : Nat} (h : n <= 1000) : n <= sizeLine := xW (xk h)
section
variable {X : Cx}
end
section
variable {X : Cx}
theorem DT (K : Fg) (h : X.K = K := by rfl) : OpR X (compareOp .In) (GH K false) := h ▸ xf
theorem ij (K : Fg) (hu : X.A.units + 64 < cLine) (h : X.K = K := by rfl) : OpR X (compareOp .Eq) (xq K false) := h ▸ EG hu
theorem sG (K : Fg) (hu : X.A.units + 64 < cLine) (h : X.K = K := by rfl) : OpR X (compareOp .NotEq) (xq K true) := h ▸ EH hu
def wq (K : Fg) : List V -> Hp -> VK -> Prop := λ xs H Q => ∃ p ys, xs = [.ref p] /\ (SqL K H p ys \/ SqT K H p ys) /\ ∀ l, H l = none -> Q (.ref l) (cZ H l (.lst ys))
def t5 (K : Fg) : List V -> Hp -> VK -> Prop := λ xs H Q => ∃ p ys, xs = [.ref p] /\ ((SqL K H p ys /\ ∀ l, H l = none -> Q (.ref l) (cZ H l (.tup ys))) \/ (SqT K H p ys /\ Q (.ref p) H))
theorem lQ (K : Fg) (h : X.K = K := by rfl) : dq X (.type "list") (wq K) := h ▸ sC
theorem lR (K : Fg) (h : X.K = K := by rfl) : dq X (.type "tuple") (t5 K) := h ▸ qU
theorem vT (K : Fg) (h : X.K = K := by rfl) (hc : X.calm = true := by rfl) : dq X (.builtin "all") (EI K) := h ▸ zu hc
theorem EJ {es : List Expr} {k1 : Nat} {tp : Pos} {a b : Expr} {ta : TA} {p pos : Pos} (K : Fg) (hm : X.mg "zip" = none) (ha : PA X [a, b] ta) (h : X.K = K := by rfl) (hg : Gl X "zip" := by rfl) (hs : starEach [a, b] X.env = [(false, eval a X.env), (false, eval b X.env)] := by rfl) (hs2 : starEach [b] X.env = [(false, eval b X.env)] := by rfl) :
 PI X (.Tuple es k1 tp) (.Call (.Name "zip" p) [a, b] [] pos) (zr K ta) := h ▸ CC hg hm ha hs hs2
theorem lS {es : List Expr} {k1 : Nat} {t : yw} {n : Nat} {pos : Pos} (K : Fg) (h2 : FA X es t) (h : X.K = K := by rfl) (hc : X.calm = true := by rfl) (hn : (assignEach es X.env).length = n := by rfl) (hst : (assignEach es X.env).findIdx? (·.1) = none := by rfl) : PG X (.Tuple es k1 pos) (Dl K n t) := h ▸ Dm hc h2 hn hst
def FS (K : Fg) (ta : TE) : TT := λ σ H Q => ta σ H λ x H' => ∃ k, Bn K x H' k /\ Q k H'
theorem gM {a : Expr} {ta : TE} (K : Fg) (ha : PE X a ta) (h : X.K = K := by rfl) (he : ∀ whole, isTrue a X.env whole = (do let v <- whole; standAt a.pos; holding [v] (truthy v)) := by intro _; rfl) : PT X a (FS K ta) := h ▸ zZ ha he
end
theorem wr (c : Int) : ∀ u : List Int, Fm (.int c) (u.map V.int) = decide (c ∈ u)
 | [] => rfl
 | a :: u => by
  have ih := wr c u
  show (xc (.int a) (.int c) || Fm (.int c) (u.map V.int)) = _
  rw [ih]
  show ((a == c) || decide (c ∈ u)) = _
  by_cases e : a = c
  · subst e; simp
  · have e' : ¬ c = a := λ z => e z.symm
    have : (a == c) = false := by simpa using e
    rw [this]
    simp [e']
theorem qx : ∀ u : List Int, (u.map V.int).all kH = true
 | [] => rfl
 | _ :: u => by
  show (true && (u.map V.int).all kH) = true
  rw [qx u]
  rfl
theorem jp : ∀ {names : List (Str × NameKind)} {n : Nat} {acc : List (Str × Addr)} {x : Str} {c : Addr}, (x, c) ∈ cellsFrom n names acc -> (x, c) ∈ acc \/ (n <= c /\ (x, NameKind.cell) ∈ names)
 | [], n, acc, x, c, h => .inl h
 | (y, k) :: r, n, acc, x, c, h => by
  unfold cellsFrom at h
  by_cases hk : (k == .cell) = true
  · rw [if_pos hk] at h
    have hk' : k = .cell := by simpa using hk
    rcases jp h with q | ⟨q1, q2⟩
    · rcases qS.mp q with q | q
      · injection q with q1 q2
        subst q1 q2
        exact .inr ⟨Q2 _, by rw [hk']; exact oW⟩
      · exact .inl q
    · exact .inr ⟨Nat.le_of_succ_le q1, nv _ q2⟩
  · rw [if_neg hk] at h
    rcases jp h with q | ⟨q1, q2⟩
    · exact .inl q
    · exact .inr ⟨q1, nv _ q2⟩
theorem mr : ∀ {names : List (Str × NameKind)} {n : Nat} {acc : List (Str × Addr)} {x y : Str} {c : Addr}, (∀ z ∈ acc, z.2 < n) -> (x, c) ∈ cellsFrom n names acc -> (y, c) ∈ cellsFrom n names acc -> n <= c -> x = y
 | [], n, acc, x, y, c, ha, h1, _, hc => absurd (ha _ h1) (Nat.not_lt.mpr hc)
 | (z, k) :: r, n, acc, x, y, c, ha, h1, h2, hc => by
  unfold cellsFrom at h1 h2
  by_cases hk : (k == .cell) = true
  · rw [if_pos hk] at h1 h2
    have ha' : ∀ w ∈ (z, n) :: acc, w.2 < n + 1 := λ w hw => by
     rcases qS.mp hw with q | q
     · rw [q]; exact DC _
     · exact Nat.lt_succ_of_lt (ha w q)
    by_cases e : c = n
    · subst e
      have only : ∀ {u : Str}, (u, c) ∈ cellsFrom (c + 1) r ((z, c) :: acc) -> u = z := λ {u} hu => by
       rcases jp hu with q | ⟨q, _⟩
       · rcases qS.mp q with q | q
         · injection q
         · exact absurd (ha _ q) (zT _)
       · exact absurd q (Nat.not_succ_le_self _)
      rw [only h1, only h2]
    · exact mr ha' h1 h2 (Nat.succ_le_of_lt (Nat.lt_of_le_of_ne hc (λ q => e q.symm)))
  · rw [if_neg hk] at h1 h2
    exact mr ha h1 h2 hc
theorem mt {lo : Nat} : ∀ {names : List (Str × NameKind)} {n : Nat} {acc : List (Str × Addr)} {x : Str} {c : Addr}, lo <= n -> (names.lookup x = some .cell \/ ∃ c0, acc.lookup x = some c0 /\ lo <= c0) -> (cellsFrom n names acc).lookup x = some c -> lo <= c
 | [], n, acc, x, c, hn, h, e => by
  rcases h with h | ⟨c0, h1, h2⟩
  · simp at h
  · have e' : acc.lookup x = some c := e
    rw [h1] at e'
    cases e'
    exact h2
 | (y, k) :: r, n, acc, x, c, hn, h, e => by
  unfold cellsFrom at e
  by_cases hk : (k == .cell) = true
  · rw [if_pos hk] at e
    refine mt (Nat.le_succ_of_le hn) ?_ e
    cases hx : x == y with
    | true => exact .inr ⟨n, by simp [re, hx], hn⟩
    | false =>
     rcases h with h | ⟨c0, h1, h2⟩
     · exact .inl (by simpa only [re, hx] using h)
     · exact .inr ⟨c0, by simpa only [re, hx] using h1, h2⟩
  · rw [if_neg hk] at e
    refine mt hn ?_ e
    rcases h with h | h
    · cases hx : x == y with
      | true =>
       simp only [re, hx] at h
       have : k = .cell := zV h
       rw [this] at hk
       exact absurd rfl hk
      | false => exact .inl (by simpa only [re, hx] using h)
    · exact .inr h
theorem mv : ∀ {names : List (Str × NameKind)} {n : Nat} {acc : List (Str × Addr)} {x : Str}, (∀ y ∈ names, y.1 = x -> y.2 ≠ .cell) -> (cellsFrom n names acc).lookup x = acc.lookup x
 | [], _, _, _, _ => rfl
 | (y, k) :: r, n, acc, x, h => by
  have hr : ∀ z ∈ r, z.1 = x -> z.2 ≠ .cell := λ z hz => h z (nv _ hz)
  unfold cellsFrom
  by_cases hk : (k == .cell) = true
  · rw [if_pos hk, mv hr]
    have hk' : k = .cell := by simpa using hk
    have hx : (x == y) = false := by
     have : y ≠ x := λ q => h (y, k) oW q hk'
     simpa using λ q : x = y => this q.symm
    simp only [re, hx]
  · rw [if_neg hk, mv hr]
theorem kh : ∀ {names : List (Str × NameKind)} {h : Heap} {acc : List (Str × Addr)} {x : Str} {c : Addr}, (∀ z ∈ acc, z.2 < h.objs.size) -> (x, c) ∈ cellsFrom h.objs.size names acc -> h.objs.size <= c -> (pushCells h names).IsCell c none
 | [], h, acc, x, c, ha, hm, hc => absurd (ha _ hm) (Nat.not_lt.mpr hc)
 | (y, k) :: r, h, acc, x, c, ha, hm, hc => by
  unfold cellsFrom at hm
  unfold pushCells
  by_cases hk : (k == .cell) = true
  · rw [if_pos hk] at hm ⊢
    have z : (h.push { cls := .type "cell", data := .cell none }).objs.size = h.objs.size + 1 := yi ..
    have ha' : ∀ w ∈ (y, h.objs.size) :: acc, w.2 < (h.push { cls := .type "cell", data := .cell none }).objs.size := λ w hw => by
     rw [z]
     rcases qS.mp hw with q | q
     · rw [q]; exact DC _
     · exact Nat.lt_succ_of_lt (ha w q)
    by_cases e : c = h.objs.size
    · exact ⟨_, pushCells_keeps _ _ _ _ (by rw [e]; exact jm _ rfl), rfl⟩
    · rw [<- z] at hm
      exact kh ha' hm (by rw [z]; exact Nat.succ_le_of_lt (Nat.lt_of_le_of_ne hc λ q => e q.symm))
  · rw [if_neg hk] at hm ⊢
    exact kh ha hm hc
theorem t6 {env : Env} : ∀ {names : List (Str × NameKind)} {x : Str},
 (((names.map λ (n, k) => if (k == NameKind.free && env.scope.kind == .function && env.kindOf n == some .cell) then (n, NameKind.cell) else (n, k)).lookup x = some .cell) \/
  ((names.map λ (n, k) => if (k == NameKind.free && env.scope.kind == .function && env.kindOf n == some .cell) then (n, NameKind.cell) else (n, k)).lookup x = some .free)) ->
 names.lookup x = some .cell \/ names.lookup x = some .free
 | [], x, h => by rcases h with h | h <;> simp at h
 | (n, k) :: r, x, h => by
  have e1 : ((n, k) :: r).map (λ (n, k) => if (k == NameKind.free && env.scope.kind == .function && env.kindOf n == some .cell) = true then (n, NameKind.cell) else (n, k)) =
   (if (k == NameKind.free && env.scope.kind == .function && env.kindOf n == some .cell) = true then (n, NameKind.cell) else (n, k)) :: r.map (λ (n, k) => if (k == NameKind.free && env.scope.kind == .function && env.kindOf n == some .cell) = true then (n, NameKind.cell) else (n, k)) := rfl
  rw [e1] at h
  cases hx : x == n with
  | true =>
   by_cases c : (k == NameKind.free && env.scope.kind == .function && env.kindOf n == some .cell) = true
   · have : k = .free := by
      simp only [Qa] at c
      simpa using c.1.1
     subst this
     right
     simp [re, hx]
   · rw [if_neg c] at h
     simpa only [re, hx] using h
  | false =>
   have : ((r.map λ (n, k) => if (k == NameKind.free && env.scope.kind == .function && env.kindOf n == some .cell) = true then (n, NameKind.cell) else (n, k)).lookup x = some .cell) \/
    ((r.map λ (n, k) => if (k == NameKind.free && env.scope.kind == .function && env.kindOf n == some .cell) = true then (n, NameKind.cell) else (n, k)).lookup x = some .free) := by
    by_cases c : (k == NameKind.free && env.scope.kind == .function && env.kindOf n == some .cell) = true
    · rw [if_pos c] at h; simpa only [re, hx] using h
    · rw [if_neg c] at h; simpa only [re, hx] using h
   have q := t6 this
   simpa only [re, hx] using q
section
variable {M : Model} {A : Around} {E : Value -> Shared -> Prop} {s : Shared}
theorem xw {scope : Scope} {cl : List (Str × Addr)} {env : Env} {Q : Env -> Shared -> Prop}
 (hQ : Q { scope := scope, locals := s.heap.objs.size, globals := env.globals, cells := cellsFrom (s.heap.objs.size + 1) scope.names cl, qual := env.qual, func := none, code := env.code, frame := env.frame, builtins := env.builtins }
  { s with heap := pushCells (s.heap.push { cls := .type "dict", data := .dict #[] }) scope.names }) : wpAny M A (newFunctionEnv scope env.globals cl [] env.qual none .none (some env)) Q E s := by
 simp only [newFunctionEnv, Option.isSome_some, if_true]
 refine wB (wpAny_alloc ?_)
 refine wB (wpAny_layCells _ (λ name kind cells => by cases hkc : kind == NameKind.cell <;> simp [hkc]) _ _ _ _ ?_)
 rw [show ({ s with heap := s.heap.push { cls := .type "dict", data := .dict #[] } } : Shared).heap.objs.size = s.heap.objs.size + 1 from yi ..]
 simp only [List.forIn_nil]
 exact wB (wP (wP hQ))
end
noncomputable def iN (X : Cx) (N : List Str) (sc : Scope) (C : Addr) (fp : List Addr) (s : Shared) (H : Hp) : Cx :=
 { X with N := N, s₀ := s, H₀ := H, env := compEnvC sc (cellsFrom (C + 1) sc.names (fJ X.env sc.names [])) C X.env, outer := X.stack, ex := fp, fn := λ x => sc.names.lookup x == some .cell, pn := [], xe := λ _ _ => False }
section
variable {X : Cx}
theorem t7 {pins : List (Addr × Obj)} {σ : St} {H : Hp} {s : Shared} {sc : Scope} (I : Inv X pins σ H s) (hfree : ∀ y ∈ sc.names, y.2 = .free -> X.env.kindOf y.1 = some .cell \/ X.env.kindOf y.1 = some .free) {x : Str} {c : Addr}
 (e : (x, c) ∈ cellsFrom (s.heap.objs.size + 2) sc.names (fJ X.env sc.names [])) : (X.env.cells.lookup x = some c /\ c < s.heap.objs.size) \/ s.heap.objs.size + 2 <= c := by
 have hcl : ∀ y ∈ sc.names, y.2 = .free -> ∃ c, X.env.cells.lookup y.1 = some c := λ y hy e => I.ok.has _ (hfree y hy e)
 rcases jp e with q | ⟨q, _⟩
 · rcases jY hcl q with q | q
   · simp at q
   · obtain ⟨v, hv⟩ := I.cell x c q
     obtain ⟨o, ho, _⟩ := hv
     exact .inl ⟨q, fG ho⟩
 · exact .inr q
theorem zw {pins : List (Addr × Obj)} {σ : St} {H : Hp} {s : Shared} {sc : Scope} (I : Inv X pins σ H s) (hfree : ∀ y ∈ sc.names, y.2 = .free -> X.env.kindOf y.1 = some .cell \/ X.env.kindOf y.1 = some .free) :
 ∀ z ∈ fJ X.env sc.names [], z.2 < s.heap.objs.size := λ z hz => by
 have hcl : ∀ y ∈ sc.names, y.2 = .free -> ∃ c, X.env.cells.lookup y.1 = some c := λ y hy e => I.ok.has _ (hfree y hy e)
 rcases jY (x := z.1) (c := z.2) hcl hz with q | q
 · simp at q
 · obtain ⟨v, hv⟩ := I.cell _ _ q
   obtain ⟨o, ho, _⟩ := hv
   exact fG ho
theorem FT {pins : List (Addr × Obj)} {σ : St} {H : Hp} {s : Shared} {N : List Str} {sc : Scope} {fp : List Addr} (I : Inv X pins σ H s) (hk : sc.kind = .function)
 (hfree : ∀ y ∈ sc.names, y.2 = .free -> X.env.kindOf y.1 = some .cell \/ X.env.kindOf y.1 = some .free) (hf : ∀ b ∈ fp, o6 X pins H b) (hb : ∀ b ∈ fp, b < s.heap.objs.size) :
 (iN X N sc (s.heap.objs.size + 1) fp s H).Ok := by
 have cc : ∀ x c, (cellsFrom (s.heap.objs.size + 2) sc.names (fJ X.env sc.names [])).lookup x = some c -> (X.env.cells.lookup x = some c /\ c < s.heap.objs.size) \/ s.heap.objs.size + 2 <= c := λ x c e => t7 I hfree (PySem.mem_of_lookup e)
 have ca : ∀ z ∈ fJ X.env sc.names [], z.2 < s.heap.objs.size + 2 := λ z hz => jn (zw I hfree z hz) (Bi _ _)
 exact {
  mod := I.ok.mod
  kind := hk
  glob := I.ok.glob
  blt := I.ok.blt
  above := Nat.le_succ _
  inj := λ x y c h1 h2 => by
   have h1' : (cellsFrom (s.heap.objs.size + 2) sc.names (fJ X.env sc.names [])).lookup x = some c := h1
   have h2' : (cellsFrom (s.heap.objs.size + 2) sc.names (fJ X.env sc.names [])).lookup y = some c := h2
   rcases cc x c h1' with ⟨q1, l1⟩ | q1
   · rcases cc y c h2' with ⟨q2, _⟩ | q2
     · exact I.ok.inj x y c q1 q2
     · exact absurd (jn l1 (Qf (Bi _ 2) q2)) (zT _)
   · exact mr ca (PySem.mem_of_lookup h1') (PySem.mem_of_lookup h2') q1
  has := λ x h => by
   have h' := t6 h
   have q : ((cellsFrom (s.heap.objs.size + 2) sc.names (fJ X.env sc.names [])).lookup x).isSome = true := by
    rcases h' with h' | h'
    · exact PySem.W.cellsFrom_some _ _ _ (.inl h')
    · obtain ⟨c, hc⟩ := lO (env := X.env) (acc := []) (.inl (PySem.mem_of_lookup h'))
      obtain ⟨d, hd⟩ := iD hc
      exact PySem.W.cellsFrom_some _ _ _ (.inr (by rw [hd]; rfl))
   exact Option.isSome_iff_exists.mp q
  cab := λ x c h e => by
   have h' : sc.names.lookup x = some .cell := by simpa [iN] using h
   exact Qf (Bi _ 2) (mt (Q2 _) (.inl h') e)
  hd := I.ok.hd
  frames := I.ok.frames
  stk := .inl rfl
  exf := λ b hb' => ⟨oX (Nat.lt_succ_of_lt (hb b hb')), λ x c e => by
   rcases cc x c e with ⟨q, _⟩ | q
   · exact (hf b hb').2.2.2.2.1 x c q
   · exact xX (jn (hb b hb') (Qf (Bi _ 2) q))⟩
  bs := I.bs
  bsz := Qf I.ok.bsz I.sz
  noex := λ b o e hb' => by
   rcases (hf b hb').2.2.2.1 with q | q
   · exact I.ok.noex b o e q
   · exact absurd (jn (fG e) (Qf I.ok.bsz q)) (zT _)
  exfs := λ b hb' hs => by
   have q := I.stkSub b hs
   rcases qS.mp q with q | q
   · exact (hf b hb').2.1 q
   · exact (hf b hb').2.2.1 q
  funs := I.stack
  frf := I.stkFree }
theorem zx {pins : List (Addr × Obj)} {σ : St} {H : Hp} {s : Shared} {h1 : Heap} {own : List Str} {fr : List (Str × Nat)} {n : Nat} {sc : Scope} {fp : List Addr} {m : Str -> Option Value} {t' : Nat} (I : Inv X pins σ H s) (hk : sc.kind = .function)
 (hfree : ∀ y ∈ sc.names, y.2 = .free -> X.env.kindOf y.1 = some .cell \/ X.env.kindOf y.1 = some .free) (hfr : ∀ p ∈ fr, X.N[p.2]? = some p.1 /\ sc.names.lookup p.1 = some .free /\ ∀ y ∈ sc.names, y.1 = p.1 -> y.2 ≠ .cell) (hn : own.length = n) (hf : ∀ b ∈ fp, o6 X pins H b) (hb : ∀ b ∈ fp, b < s.heap.objs.size)
 (ns : h1.Ns (s.heap.objs.size + 1) m) (hD : h1.get? s.heap.objs.size = some { cls := .type "list", data := .seq ([] : List Value).toArray }) (old : ∀ b o, s.heap.get? b = some o -> h1.get? b = some o)
 (hnc : ∀ x c, (x, c) ∈ cellsFrom (s.heap.objs.size + 2) sc.names (fJ X.env sc.names []) -> s.heap.objs.size + 2 <= c -> h1.IsCell c none) :
 Inv (iN X (own ++ fr.map (·.1)) sc (s.heap.objs.size + 1) fp s H) [] (zi n fr σ) (cZ H s.heap.objs.size (.lst [])) { s with heap := h1, toks := t' } := by
 have hcl : ∀ y ∈ sc.names, y.2 = .free -> ∃ c, X.env.cells.lookup y.1 = some c := λ y hy e => I.ok.has _ (hfree y hy e)
 have look : ∀ x c, (fJ X.env sc.names []).lookup x = some c -> X.env.cells.lookup x = some c := λ x c e => by
  rcases jY hcl (PySem.mem_of_lookup e) with q | q
  · simp at q
  · exact q
 have cellK : ∀ {c v}, s.heap.IsCell c v -> h1.IsCell c v := λ {c v} q => by
  obtain ⟨o, ho, r⟩ := q
  exact ⟨o, old _ _ ho, r⟩
 have cc : ∀ x c, (cellsFrom (s.heap.objs.size + 2) sc.names (fJ X.env sc.names [])).lookup x = some c -> (X.env.cells.lookup x = some c /\ c < s.heap.objs.size) \/ s.heap.objs.size + 2 <= c := λ x c e => t7 I hfree (PySem.mem_of_lookup e)
 have hnD : H s.heap.objs.size = none := I.hok.fresh (Q2 _)
 have hnC : H (s.heap.objs.size + 1) = none := I.hok.fresh (Nat.le_succ _)
 refine ⟨FT I hk hfree hf hb, rfl, I.bare, Un.laid old (Q2 _) hnD, ⟨m, ns, λ i x v h1' h2 h3 => ?_⟩, λ x c e => ?_, ?_, λ x c e => ?_, λ p hp => ?_, I.hok.laid old (Q2 _) ?_, ?_⟩
 · obtain ⟨p, hp, e, q⟩ := Bz hn h1' h2
   subst e
   obtain ⟨hN, hl, hno⟩ := hfr p hp
   obtain ⟨m0, _, q0⟩ := I.loc
   have kk := hfree (p.1, .free) (PySem.mem_of_lookup hl) rfl
   obtain ⟨u, ru, lk⟩ := q0 p.2 p.1 v hN q (.inr kk)
   refine ⟨u, ru, .inr ⟨oq hl, ?_⟩⟩
   rcases lk with ⟨k1, _⟩ | ⟨_, c, e1, e2⟩
   · rcases kk with kk | kk
     · have kk' : X.env.kindOf p.1 = some .cell := kk
       rw [k1] at kk'; cases kk'
     · have kk' : X.env.kindOf p.1 = some .free := kk
       rw [k1] at kk'; cases kk'
   · obtain ⟨d, hd⟩ := lO (env := X.env) (acc := []) (.inl (PySem.mem_of_lookup hl))
     obtain ⟨d', hd'⟩ := iD hd
     have e3 := look _ _ hd'
     rw [e1] at e3
     cases e3
     refine ⟨c, ?_, cellK e2⟩
     show (cellsFrom (s.heap.objs.size + 2) sc.names (fJ X.env sc.names [])).lookup p.1 = some c
     rw [mv hno]
     exact hd'
 · rcases cc x c e with ⟨q, _⟩ | q
   · obtain ⟨v, hv⟩ := I.cell x c q
     exact ⟨v, cellK hv⟩
   · exact ⟨none, hnc x c (PySem.mem_of_lookup e) q⟩
 · show cZ H s.heap.objs.size _ (s.heap.objs.size + 1) = none
   rw [aZ (Nat.succ_ne_self _)]; exact hnC
 · show cZ H s.heap.objs.size _ c = none
   rcases cc x c e with ⟨q, l⟩ | q
   · rw [aZ (oX l)]; exact I.freeC x c q
   · rw [aZ (xX (jn (Nat.lt_succ_of_lt (DC _)) q))]
     exact I.hok.fresh (Qf (Bi _ 2) q)
 · exact absurd (show p ∈ ([] : List (Addr × Obj)) from hp) (by simp)
 · exact ⟨by show 0 <= sizeLine; decide, [], _, .nil, hD⟩
 · show (zi n fr σ).length = (own ++ fr.map (·.1)).length
   unfold zi
   simp [hn]
theorem t9 {elt target iter : Expr} {ifs : List Expr} {sc : Scope} {pos : Pos} (own : List Str) (fr : List (Str × Nat)) {g : TG} {tc : TT} {te : TE} (hc : X.calm = true)
 (hk : sc.kind = .function) (hfree : ∀ y ∈ sc.names, y.2 = .free -> X.env.kindOf y.1 = some .cell \/ X.env.kindOf y.1 = some .free)
 (hfr : ∀ p ∈ fr, X.N[p.2]? = some p.1 /\ sc.names.lookup p.1 = some .free /\ ∀ y ∈ sc.names, y.1 = p.1 -> y.2 ≠ .cell)
 (hg : ∀ C fp s H, PG (iN X (own ++ fr.map (·.1)) sc C fp s H) target g) (ht : ∀ C fp s H, FP (iN X (own ++ fr.map (·.1)) sc C fp s H) ifs tc) (he : ∀ C fp s H, PE (iN X (own ++ fr.map (·.1)) sc C fp s H) elt te)
 {pins : List (Addr × Obj)} {σ : St} {s2 : Shared} {RR : Value -> Addr -> Result -> Shared -> Prop} {Q : V -> Hp -> Prop} {itv : Value}
 (h2 : GB X pins σ target (λ J H1 => ∀ acc, H1 acc = none ->
  ∃ W : Nat -> Nat -> St -> Hp -> Prop, (∃ m, W 0 m (zi own.length fr σ) (cZ H1 acc (.lst []))) /\ ∀ i m σ' H', W i m σ' H' ->
   (J.stop i H' /\ Q (.ref acc) H') \/ (J.go i H' /\ ∃ Nx : St -> Hp -> Prop, (∀ σ2 H2, Nx σ2 H2 -> ∃ m', m' < m /\ W (i + 1) m' σ2 H2) /\
    ∀ x H2, J.yld i H' x H2 -> g x σ' H2 λ σ2 H3 => tc σ2 H3 λ b H4 => if b = true then te σ2 H4 λ y H5 => ∃ ys, H5 acc = some (.lst ys) /\ ys.length < sizeLine /\ Nx σ2 (cZ H5 acc (.lst (ys ++ [y]))) else Nx σ2 H4)) itv s2)
 (hRR : ∀ (D C : Addr) (s4 : Shared) (H3 : Hp) (m4 : Str -> Option Value), s2.heap.objs.size <= C -> s4.heap.Ns C m4 -> H3 C = none -> Q (.ref D) H3 ->
  (∀ h' : Heap, (∀ b, b ≠ C -> h'.get? b = s4.heap.get? b) -> Inv X pins σ H3 { s4 with heap := h' }) -> RR (.ref D) C (.ok .next) s4) :
 wpAny (model X.prog X.w) X.A (newList []) (λ acc s₃ => wpAny (model X.prog X.w) X.A (newFunctionEnv sc X.env.globals (fJ X.env sc.names []) [] X.env.qual none .none (some X.env)) (λ cenv s₄ =>
  codeAny (model X.prog X.w) X.A (.compStart (.ListComp elt [⟨target, iter, ifs, 0⟩] sc pos) 0 itv acc { cenv with scope := relabel sc X.env }) (RR acc cenv.locals) s₄) X.xe s₃) X.xe s2 := by
 obtain ⟨it, fp, tn, J, H2, e, I2, T, st2, f2, r⟩ := h2
 subst e
 refine wpAny_newObj_type (xw ?_)
 dsimp only
 generalize hH2 : s2.heap.push { cls := .type "list", dict := none, data := .seq ([] : List Value).toArray } = G2
 have hC : G2.objs.size = s2.heap.objs.size + 1 := by rw [<- hH2, yi]
 have z3 : (G2.push { cls := .type "dict", data := .dict #[] }).objs.size = s2.heap.objs.size + 2 := by rw [yi, hC]
 generalize hh1 : pushCells (G2.push { cls := .type "dict", data := .dict #[] }) sc.names = h₁
 have kp : ∀ b o, (G2.push { cls := .type "dict", data := .dict #[] }).get? b = some o -> h₁.get? b = some o := λ b o e => by rw [<- hh1]; exact pushCells_keeps _ _ b o e
 have old : ∀ b o, s2.heap.get? b = some o -> h₁.get? b = some o := λ b o e => kp b o (gy _ (hH2 ▸ gy _ e))
 have hD : h₁.get? s2.heap.objs.size = some { cls := .type "list", data := .seq ([] : List Value).toArray } := kp _ _ (gy _ (hH2 ▸ jm _ rfl))
 have hns₁ : h₁.Ns (s2.heap.objs.size + 1) (λ _ => none) := by
  rw [<- hC]
  exact (Heap.Ns.new G2 (.type "dict")).keeps kp
 have hnc : ∀ x c, (x, c) ∈ cellsFrom (s2.heap.objs.size + 2) sc.names (fJ X.env sc.names []) -> s2.heap.objs.size + 2 <= c -> h₁.IsCell c none := λ x c hm hc' => by
  rw [<- hh1]
  refine kh (acc := fJ X.env sc.names []) (x := x) (λ z hz => ?_) (by rw [z3]; exact hm) (by rw [z3]; exact hc')
  rw [z3]
  exact jn (zw I2 hfree z hz) (Bi _ _)
 rw [hC]
 have below : ∀ b, b < s2.heap.objs.size -> b ≠ s2.heap.objs.size + 1 := λ b hb => oX (Nat.lt_succ_of_lt hb)
 have hb : ∀ b ∈ fp, b < s2.heap.objs.size := λ b hb => by
  obtain ⟨o, e, _⟩ := T.obj _ _ st2 b hb
  exact fG e
 have st1 : tn 0 h₁ := T.keep _ _ _ st2 λ b _ o e => old b o e
 obtain ⟨W, ⟨m0, w0⟩, turn⟩ := r s2.heap.objs.size (I2.hok.fresh (Q2 _))
 have J0 : ∀ t', Inv (iN X (own ++ fr.map (·.1)) sc (s2.heap.objs.size + 1) fp s2 H2) [] (zi own.length fr σ) (cZ H2 s2.heap.objs.size (.lst [])) { s2 with heap := h₁, toks := t' } := λ t' =>
  zx I2 hk hfree hfr rfl f2 hb hns₁ hD old hnc
 have fpn : ∀ b ∈ fp, cZ H2 s2.heap.objs.size (.lst []) b = none := λ b hb' => by rw [aZ (oX (hb b hb'))]; exact (f2 b hb').1
 have stat : ∀ {H' : Hp}, (∀ b ∈ fp, H' b = none) -> ∀ b ∈ fp, o6 (iN X (own ++ fr.map (·.1)) sc (s2.heap.objs.size + 1) fp s2 H2) [] H' b := λ {H'} hn b hb' =>
  have ok := (J0 0).ok
  ⟨hn b hb', (ok.exf b hb').1, ok.exfs b hb', .inl hb', (ok.exf b hb').2, λ p hp => absurd (show p ∈ ([] : List (Addr × Obj)) from hp) (by simp)⟩
 have loop : ∀ s3 : Shared, s3 = { s2 with heap := h₁ } ->
  codeAny (model X.prog X.w) X.A (.compLoop (.ListComp elt [⟨target, iter, ifs, 0⟩] sc pos) 0 (.ref it) (.ref s2.heap.objs.size) (compEnvC sc (cellsFrom (s2.heap.objs.size + 1 + 1) sc.names (fJ X.env sc.names [])) (s2.heap.objs.size + 1) X.env))
   (RR (.ref s2.heap.objs.size) (s2.heap.objs.size + 1)) s3 := by
  rintro s3 rfl
  refine tY (λ n s' => ∃ i σ' H', Inv (iN X (own ++ fr.map (·.1)) sc (s2.heap.objs.size + 1) fp s2 H2) [] σ' H' s' /\ tn i s'.heap /\ (∀ b ∈ fp, H' b = none) /\ W i n σ' H') ?_ m0 ⟨0, _, _, J0 _, st1, fpn, w0⟩
  rintro n s3 ⟨i, σ3, H3, I3, st3, fr3, w3⟩
  rcases turn i n σ3 H3 w3 with ⟨stop, qn⟩ | ⟨go, N, hN, step⟩
  · refine dm (T.done (iN X (own ++ fr.map (·.1)) sc (s2.heap.objs.size + 1) fp s2 H2) rfl rfl rfl hc i [] s3 σ3 H3 (λ _ _ => False) I3 (stat fr3) st3 stop) λ r s4 q_ => ?_
    obtain ⟨hr, I4⟩ := q_
    subst hr
    obtain ⟨m4, ns4, _⟩ := I4.loc
    have hCn : H3 (s2.heap.objs.size + 1) = none := I4.free
    refine hRR _ _ s4 H3 m4 (Nat.le_succ _) ns4 hCn qn λ h' sb => ?_
    have u : Un (jV X.stack) fp H2 H3 s2.heap s4.heap := I4.base
    have u' : Un (jV X.stack) fp H2 H3 s2.heap h' := {
     keep := λ b o e n1 n2 n3 => (sb b (below b (fG e))).trans (u.keep b o e n1 n2 n3)
     slot := λ b o e n1 n2 n3 => by
      obtain ⟨sl, q⟩ := u.slot b o e n1 n2 n3
      exact ⟨sl, (sb b (below b (fG e))).trans q⟩
     free := u.free
     there := λ b o e n1 => by
      obtain ⟨o', q⟩ := u.there b o e n1
      exact ⟨o', (sb b (below b (fG e))).trans q⟩
     tups := u.tups
     frzs := u.frzs
     tbls := u.tbls }
    have hok' : HOk X.prog X.w H3 h' := λ a o e => (I4.hok a o e).stay (λ b u q z => (sb b (by
     rcases q with q | q
     · subst q; exact aU e hCn
     · exact aU q hCn)).trans z) (λ _ q => q) (λ _ _ q => q) λ _ _ _ q => q
    exact I2.call' (s' := { s4 with heap := h' }) (ch := fp) I4.os u' hok' I4.bare λ b hb' => ⟨(f2 b hb').2.2.2.1, (f2 b hb').2.1, (f2 b hb').2.2.2.2.1, (f2 b hb').2.2.2.2.2⟩
  · refine dm (T.item (iN X (own ++ fr.map (·.1)) sc (s2.heap.objs.size + 1) fp s2 H2) rfl rfl rfl hc i [] s3 σ3 H3 (λ _ _ => False) I3 (stat fr3) st3 go) λ r s4 q_ => ?_
    obtain ⟨u, hr, h4⟩ := q_
    subst hr
    refine dm h4 λ _ s5 q_ => ?_
    obtain ⟨x, H5, I5, r5, y5, st5, fr5⟩ := q_
    have I5' := I5.pinned (stat fr5) (T.obj _ _ st5)
    refine dm (hg _ _ _ _ _ s5 σ3 H5 x u _ I5' r5 (step x H5 y5)) λ _ s6 q_ => ?_
    obtain ⟨σ6, H6, I6, q6⟩ := q_
    refine dm (ht _ _ _ _ _ s6 σ6 H6 _ I6 q6) λ b s7 q_ => ?_
    obtain ⟨H7, I7, q7⟩ := q_
    have again : ∀ {σ7 : St} {H7 : Hp} {s7 : Shared}, Inv (iN X (own ++ fr.map (·.1)) sc (s2.heap.objs.size + 1) fp s2 H2) ([] ++ o7 fp s5.heap) σ7 H7 s7 -> N σ7 H7 ->
     ∃ m, m < n /\ ∃ i σ' H', Inv (iN X (own ++ fr.map (·.1)) sc (s2.heap.objs.size + 1) fp s2 H2) [] σ' H' s7 /\ tn i s7.heap /\ (∀ b ∈ fp, H' b = none) /\ W i m σ' H' := λ {σ7 H7 s7} I7 n7 => by
     obtain ⟨m', hm, w7⟩ := hN σ7 H7 n7
     refine ⟨m', hm, i + 1, σ7, H7, I7.unpinned, T.keep _ _ _ st5 λ b hb o e => (I7.pin (b, o) (yl _ (yl _ (ie hb e)))).1, λ b hb => ?_, w7⟩
     obtain ⟨o, e, d⟩ := T.obj _ _ st5 b hb
     exact (I7.pin (b, o) (yl _ (yl _ (ie hb e)))).2.1
    cases b with
    | false =>
     have q7' : N σ6 H7 := q7
     rw [if_neg (by simp)]
     exact again I7 q7'
    | true =>
     rw [if_pos rfl]
     refine dm (he _ _ _ _ _ s7 σ6 H7 _ I7 q7) λ yv s8 q_ => ?_
     obtain ⟨y, H8, I8, r8, ys, e8, z8, n8⟩ := q_
     refine dm (iM (X := iN X (own ++ fr.map (·.1)) sc (s2.heap.objs.size + 1) fp s2 H2) _ s8 σ6 H8 (.ref s2.heap.objs.size) [y] _ [yv] (λ v H' => v = .non /\ H' = cZ H8 s2.heap.objs.size (.lst (ys ++ [y]))) I8 rfl (.cons r8 .nil) ⟨_, ys, y, rfl, rfl, e8, z8, rfl, rfl⟩) λ _ s9 q_ => ?_
     obtain ⟨v, H9, I9, _, e1, e9⟩ := q_
     subst e9
     exact again I9 n8
 exact codeAny_compStart_list (loop _ rfl) (T.self X.A 0 _ _ _ st1 (loop _ rfl))
theorem qy {sc : Scope} {fr : List (Str × Nat)} (hfree : (sc.names.all λ y => y.2 != .free || (X.env.kindOf y.1 == some .cell || X.env.kindOf y.1 == some .free)) = true)
 (hfr : (fr.all λ p => X.N[p.2]? == some p.1 && sc.names.lookup p.1 == some .free && sc.names.all λ y => y.1 != p.1 || y.2 != .cell) = true) (hnm : (sc.names.all λ y => y.2 != .local || sc.names.lookup y.1 == some .local) = true) :
 (∀ y ∈ sc.names, y.2 = .free -> X.env.kindOf y.1 = some .cell \/ X.env.kindOf y.1 = some .free) /\ (∀ p ∈ fr, X.N[p.2]? = some p.1 /\ sc.names.lookup p.1 = some .free /\ ∀ y ∈ sc.names, y.1 = p.1 -> y.2 ≠ .cell) /\ ∀ x ∈ sc.names, x.2 = .local -> sc.names.lookup x.1 = some .local := by
 refine ⟨λ y hy e => ?_, λ p hp => ?_, λ y hy e => ?_⟩
 · have := tN.mp hfree y hy
   rw [e] at this
   simpa using this
 · have := tN.mp hfr p hp
   rw [Qa, Qa, tN] at this
   obtain ⟨⟨h1, h2⟩, h3⟩ := this
   refine ⟨by simpa using h1, by simpa using h2, λ y hy e z => ?_⟩
   have := h3 y hy
   rw [e, z] at this
   simp at this
 · have := tN.mp hnm y hy
   rw [e] at this
   simpa using this
theorem dY {elt target iter : Expr} {ifs : List Expr} {sc : Scope} {pos : Pos} (own : List Str) (fr : List (Str × Nat)) {wi : TI} {g : TG} {tc : TT} {te : TE} (hi : PI X target iter wi)
 (hg : ∀ C fp s H, PG (iN X (own ++ fr.map (·.1)) sc C fp s H) target g) (ht : ∀ C fp s H, FP (iN X (own ++ fr.map (·.1)) sc C fp s H) ifs tc) (he : ∀ C fp s H, PE (iN X (own ++ fr.map (·.1)) sc C fp s H) elt te)
 (hc : X.calm = true := by rfl) (hk : sc.kind = .function := by rfl)
 (hfree : (sc.names.all λ y => y.2 != .free || (X.env.kindOf y.1 == some .cell || X.env.kindOf y.1 == some .free)) = true := by rfl)
 (hfr : (fr.all λ p => X.N[p.2]? == some p.1 && sc.names.lookup p.1 == some .free && sc.names.all λ y => y.1 != p.1 || y.2 != .cell) = true := by rfl) (hnm : (sc.names.all λ y => y.2 != .local || sc.names.lookup y.1 == some .local) = true := by rfl)
 (hs : ∀ x, foldedSetIterable iter X.env x = pure x := by intro _; rfl) :
 PE X (.ListComp elt [⟨target, iter, ifs, 0⟩] sc pos) (zj own.length fr wi g tc te) := by
 obtain ⟨c1, c2, c3⟩ := qy hfree hfr hnm
 intro pins s σ H Q I h
 rw [eval_ListComp]
 have hcl : ∀ y ∈ sc.names, y.2 = .free -> ∃ c, X.env.cells.lookup y.1 = some c := λ y hy e => I.ok.has _ (c1 y hy e)
 refine wpAny_comprehension_free (use := none) rfl hs (kI hcl) hk c3 (dm (hi pins s σ H _ I h) λ xv s₁ h₁ => dm h₁ λ itv s2 h2 => ?_)
 refine t9 (RR := λ acc C => compPost (model X.prog X.w) X.A X.xe none (EP X pins σ Q) acc C) own fr hc hk c1 c2 hg ht he h2 ?_
 intro D C s4 H3 m4 hC ns4 hCn q inv
 exact ⟨m4, ns4, λ h' sb => ⟨.ref D, H3, inv h' λ b hb => sb.2 b hb, rfl, q⟩⟩
theorem wt {i : Nat} {x : Str} {elt target iter : Expr} {ifs : List Expr} {sc : Scope} {pos spos : Pos} {pos' : Pos} (own : List Str) (fr : List (Str × Nat)) {wi : TI} {g : TG} {tc : TT} {te : TE} (hN : X.N.Nodup) (hx1 : X.N[i]? = some x) (hx : DG X.env.scope x) (hi : PI X target iter wi)
 (hg : ∀ C fp s H, PG (iN X (own ++ fr.map (·.1)) sc C fp s H) target g) (ht : ∀ C fp s H, FP (iN X (own ++ fr.map (·.1)) sc C fp s H) ifs tc) (he : ∀ C fp s H, PE (iN X (own ++ fr.map (·.1)) sc C fp s H) elt te)
 (hsw : swapsWith (.ListComp elt [⟨target, iter, ifs, 0⟩] sc pos) (some (.Name x pos')) spos.line X.env = pure true := by rfl)
 (hc : X.calm = true := by rfl) (hk : sc.kind = .function := by rfl)
 (hfree : (sc.names.all λ y => y.2 != .free || (X.env.kindOf y.1 == some .cell || X.env.kindOf y.1 == some .free)) = true := by rfl)
 (hfr : (fr.all λ p => X.N[p.2]? == some p.1 && sc.names.lookup p.1 == some .free && sc.names.all λ y => y.1 != p.1 || y.2 != .cell) = true := by rfl) (hnm : (sc.names.all λ y => y.2 != .local || sc.names.lookup y.1 == some .local) = true := by rfl)
 (hs : ∀ x, foldedSetIterable iter X.env x = pure x := by intro _; rfl) (hl : X.env.scope.names.lookup x = some .local := by rfl) :
 PS X (.Assign [.Name x pos'] (.ListComp elt [⟨target, iter, ifs, 0⟩] sc pos) spos) (tS (zj own.length fr wi g tc te) (lL i)) := by
 obtain ⟨c1, c2, c3⟩ := qy hfree hfr hnm
 intro pins s σ H D I h
 rw [exec_Assign_Name_used _ _ _ _ hsw]
 refine wB (wpAny_standAt (wB ?_))
 show wpAny _ X.A (do let _ <- comprehension (.ListComp elt [⟨target, iter, ifs, 0⟩] sc pos) sc X.env _ (newList []) false (eval iter X.env) (some (assign (.Name x pos') X.env))) _ _ s
 have hcl : ∀ y ∈ sc.names, y.2 = .free -> ∃ c, X.env.cells.lookup y.1 = some c := λ y hy e => I.ok.has _ (c1 y hy e)
 refine wB (wpAny_mono (wpAny_comprehension_free (use := some (assign (.Name x pos') X.env)) (Q := λ _ s' => SP X pins D .next s') rfl hs (kI hcl) hk c3 (dm (hi pins s σ H _ I h) λ xv s₁ h₁ => dm h₁ λ itv s2 h2 => ?_)) (λ _ s' hq => wP (wP hq)) λ _ _ e => e)
 refine t9 (RR := λ acc C => compPost (model X.prog X.w) X.A X.xe (some (assign (.Name x pos') X.env)) (λ _ s' => SP X pins D .next s') acc C) (pins := pins) (σ := σ) (Q := λ x H1 => lL i x σ H1 D.nx) own fr hc hk c1 c2 hg ht he h2 ?_
 intro Da C s4 H3 m4 hC ns4 hCn q inv
 have I4 : Inv X pins σ H3 s4 := inv s4.heap λ b _ => rfl
 have lC : X.env.locals ≠ C := by
  intro z
  obtain ⟨it, fp, tn, J, H2, e, I2, _⟩ := h2
  exact absurd (jn I2.lt (by rw [z]; exact hC)) (zT _)
 have cC : ∀ y c, X.env.cells.lookup y = some c -> c ≠ C := λ y c e z => by
  obtain ⟨it, fp, tn, J, H2, e', I2, _⟩ := h2
  obtain ⟨v, hv⟩ := I2.cell y c e
  exact absurd (jn hv.lt (by rw [z]; exact hC)) (zT _)
 show wpAny _ X.A (assign (.Name x pos') X.env (.ref Da)) _ _ _
 refine wpAny_assign_Name (qo I4 hN hx1 hx (v := .ref Da) rfl (λ s5 I5 q_ => ?_) (.inr hl))
 obtain ⟨a, sb, ha⟩ := q_
 have aC : C ≠ a := λ z => by
  rcases ha with q1 | q1
  · exact lC (q1.symm.trans z.symm)
  · exact cC x a q1 z.symm
 refine ⟨m4, ns4.sameBut sb aC, λ h' sb' => ⟨_, H3, ?_, q⟩⟩
 obtain ⟨m5, n5, l5⟩ := I5.loc
 exact {
  ok := I5.ok
  os := I5.os
  bare := I5.bare
  base := {
   keep := λ b o e n1 n2 n3 => (sb'.2 b λ z => by
    obtain ⟨it, fp, tn, J, H2, e', I2, _⟩ := h2
    exact absurd (jn (fG e) (Qf I2.sz (by rw [z]; exact hC))) (zT _)).trans (I5.base.keep b o e n1 n2 n3)
   slot := λ b o e n1 n2 n3 => by
    obtain ⟨sl, q⟩ := I5.base.slot b o e n1 n2 n3
    refine ⟨sl, (sb'.2 b λ z => ?_).trans q⟩
    obtain ⟨it, fp, tn, J, H2, e', I2, _⟩ := h2
    exact absurd (jn (fG e) (Qf I2.sz (by rw [z]; exact hC))) (zT _)
   free := I5.base.free
   there := λ b o e n1 => by
    obtain ⟨o', q⟩ := I5.base.there b o e n1
    refine ⟨o', (sb'.2 b λ z => ?_).trans q⟩
    obtain ⟨it, fp, tn, J, H2, e', I2, _⟩ := h2
    exact absurd (jn (fG e) (Qf I2.sz (by rw [z]; exact hC))) (zT _)
   tups := I5.base.tups
   frzs := I5.base.frzs
   tbls := I5.base.tbls }
  loc := ⟨m5, n5.sameBut sb' lC, λ j y v h1 h2' h3 => by
   obtain ⟨u, ru, lk⟩ := l5 j y v h1 h2' h3
   refine ⟨u, ru, ?_⟩
   rcases lk with ⟨k1, k2⟩ | ⟨k1, c, k2, k3⟩
   · exact .inl ⟨k1, k2⟩
   · exact .inr ⟨k1, c, k2, k3.sameBut sb' (cC y c k2)⟩⟩
  cell := λ y c e => by
   obtain ⟨v, hv⟩ := I5.cell y c e
   exact ⟨v, hv.sameBut sb' (cC y c e)⟩
  free := I5.free
  freeC := I5.freeC
  pin := λ p hp => by
   obtain ⟨q1, q2⟩ := I5.pin p hp
   refine ⟨(sb'.2 p.1 λ z => ?_).trans q1, q2⟩
   obtain ⟨it, fp, tn, J, H2, e', I2, _⟩ := h2
   exact absurd (jn (fG (I2.pin p hp).1) (by rw [z]; exact hC)) (zT _)
  hok := λ a o e => (I5.hok a o e).stay (λ b u q z => (sb'.2 b (by
   rcases q with q | q
   · subst q; exact aU e hCn
   · exact aU q hCn)).trans z) (λ _ q => q) (λ _ _ q => q) λ _ _ _ q => q
  len := I5.len }
end
end L2
namespace PySem
open Sem (wp)
theorem Obj.dict_mapFields (o : Obj) (f) : (o.mapFields f).dict = o.dict := by
 unfold Obj.mapFields; split <;> rfl
namespace Heap
def TracedD (h base : Heap) (e : Addr) (cls : Value) (a0 : Option Addr) : Prop :=
 ∃ oe vs T oT ts, h.get? e = some oe /\ (oe.cls = cls /\ oe.dict = a0) /\ oe.data = .fields vs /\ vs[1]? = some (.ref T) /\ base.get? T = none /\ T ≠ e /\ h.get? T = some oT /\ oT.data = .fields ts /\ ts[3]? = some .none
def TracedAtD (h base : Heap) (e : Addr) (cls : Value) (a0 : Option Addr) (fl : Value) : Prop :=
 ∃ oe vs T oT ts, h.get? e = some oe /\ (oe.cls = cls /\ oe.dict = a0) /\ oe.data = .fields vs /\ vs[1]? = some (.ref T) /\ base.get? T = none /\ T ≠ e /\ h.get? T = some oT /\ oT.data = .fields ts /\ ts[3]? = some fl
theorem TracedD.at {h base : Heap} {e : Addr} {cls : Value} {a0 : Option Addr} (x : h.TracedD base e cls a0) : h.TracedAtD base e cls a0 .none := x
theorem TracedAtD.there {h base : Heap} {e : Addr} {cls : Value} {a0 : Option Addr} {fl : Value} (x : h.TracedAtD base e cls a0 fl) : ∃ ob, h.get? e = some ob /\ ob.cls = cls := by
 obtain ⟨oe, _, _, _, _, he, hc, _⟩ := x
 exact ⟨oe, he, hc.1⟩
def zy (base : Heap) (l : List Env) (e : Addr) (cls : Value) (a0 : Option Addr) (fl : Value) (h h' : Heap) : Prop :=
 base.StaysIn h' /\ h'.FunFrames base l /\ h'.TracedAtD base e cls a0 fl /\ ∀ b o, h.get? b = some o -> (∀ vs, o.data ≠ .fields vs) -> ∃ sl, h'.get? b = some { o with slots := sl }
end Heap
section
variable {M : Model} {A : Around} {E : Value -> Shared -> Prop} {s : Shared}
def Heap.LeftD (base : Heap) (l : List Env) (e : Addr) (cls : Value) (a0 : Option Addr) (h h' : Heap) : Prop :=
 base.StaysIn h' /\ h'.FunFrames base l /\ h'.TracedD base e cls a0 /\
  ∀ b o, h.get? b = some o -> (∀ vs, o.data ≠ .fields vs) -> ∃ sl, h'.get? b = some { o with slots := sl }
theorem jJ {base : Heap} {env : Env} {outer : List Env} {L e : Addr} {oe : Obj} {vs : Array Value} {head : Value} {a0 : Option Addr} {hadNext : Bool} {Q : Unit -> Shared -> Prop}
 (hfr : A.frames = some (env :: outer)) (hl : s.heap.FunFrames base (env :: outer)) (hf : env.frame = some L)
 (he : s.heap.get? e = some oe) (hkb : base.StaysIn s.heap) (hen : base.get? e = none) (hd : oe.data = .fields vs) (hsz : 1 < vs.size) (h0 : oe.dict = a0)
 (h : ∀ h', Heap.LeftD base (env :: outer) e oe.cls a0 s.heap h' -> Q () { s with heap := h' }) :
 wpAny M A (do let a <- frameOf env; let pl <- entryPlaceOf L hadNext; let b <- EntryCells.newEntry head a .none (rawInt L) .none pl; setField (.ref e) 1 b) (λ _ s' => wpAny M A (setFlight (.ref e) none) Q E s') E s := by
 have hene : e ∉ (env :: outer).filterMap (·.frame) := λ hm => by
  obtain ⟨_, o, ho, hnf⟩ := hl.mem hm
  rw [he] at ho; injection ho with ho; subst ho; exact hnf vs hd
 refine wB (wpAny_frameOf_fun hfr hl hf λ h₁ hs₁ => ?_)
 refine wB (wpAny_entryPlaceOf λ pl hpl => ?_)
 unfold EntryCells.newEntry newFields
 refine wB (wpAny_newObj_type ?_ (hpl.sizeOk5 _ _ _ _ _))
 have he₁ : h₁.get? e = some oe := (hs₁.2.1 e hene).trans he
 have kb₁ : base.StaysIn h₁ := λ b o hbo => (hs₁.2.1 b λ hm => by rw [(hl.mem hm).1] at hbo; cases hbo).trans (hkb b o hbo)
 have he₂ := gy (h := h₁) { cls := .type "traceback", dict := none, data := .fields ([head, .ref L, .none, rawInt L, .none] ++ (if pl.isEmpty then List.replicate 6 Value.none else pl)).toArray } he₁
 refine wpAny_setField he₂ hd hsz ?_
 have hTe : h₁.objs.size ≠ e := xX (fG he₁)
 have hd₃ := Obj.data_mapFields hd (·.setIfInBounds 1 (Value.ref h₁.objs.size))
 have he₃ := Ej (Obj.mapFields (·.setIfInBounds 1 (Value.ref h₁.objs.size))) he₂ (Obj.isFreed_of_fields hd₃)
 have hT₃ := (tR (h₁.push { cls := .type "traceback", dict := none, data := .fields ([head, .ref L, .none, rawInt L, .none] ++ (if pl.isEmpty then List.replicate 6 Value.none else pl)).toArray })
  (Obj.mapFields (·.setIfInBounds 1 (Value.ref h₁.objs.size))) (Ne.symm hTe)).trans (jm h₁ rfl)
 unfold setFlight
 refine wB (wpAny_field he₃ hd₃ (x := .ref h₁.objs.size) (by simp [hsz]) ?_)
 rw [if_pos (show (Value.ref h₁.objs.size != Value.none) = true from by simp)]
 refine wpAny_setField hT₃ rfl (by simp only [zM, zQ, zC, zH] <;> omega) (h _ ?_)
 have keep : ∀ b o, b ≠ e -> h₁.get? b = some o ->
  (((h₁.push { cls := .type "traceback", dict := none, data := .fields ([head, .ref L, .none, rawInt L, .none] ++ (if pl.isEmpty then List.replicate 6 Value.none else pl)).toArray }).update e (Obj.mapFields (·.setIfInBounds 1 (Value.ref h₁.objs.size)))).update h₁.objs.size
   (Obj.mapFields (·.setIfInBounds 3 ((none : Option Addr).elim Value.none λ f => rawInt f)))).get? b = some o := λ b o hbe hb => by
  have hbT : h₁.objs.size ≠ b := xX (fG hb)
  rw [tR _ _ hbT, tR _ _ (Ne.symm hbe)]
  exact gy _ hb
 have noRecord : ∀ b o, s.heap.get? b = some o -> (∀ vs, o.data ≠ .fields vs) -> b ≠ e := λ b o hb hnf q => by
  rw [q, he] at hb; injection hb with hb; subst hb; exact hnf vs hd
 refine ⟨λ b o hbo => keep b o (λ q => by rw [q, hen] at hbo; cases hbo) (kb₁ b o hbo), hl.of_keeps λ b o hb hnf => ?_, ?_, λ b o hb hnf => ?_⟩
 · obtain ⟨sl, hs⟩ := hs₁.2.2 b o hb
   exact ⟨_, keep b _ (noRecord b o hb hnf) hs, rfl⟩
 · refine ⟨_, _, h₁.objs.size, _, _, ?_, ⟨Obj.cls_mapFields _ _, (Obj.dict_mapFields _ _).trans h0⟩, hd₃, by simp [hsz], kb₁.fresh, hTe, Ej _ hT₃ (Obj.isFreed_of_fields (Obj.data_mapFields rfl _)), Obj.data_mapFields rfl _, by first | (simp; done) | (rcases hpl with rfl | ⟨_, _, _, _, _, _, _, rfl⟩ <;> simp)⟩
   rw [tR _ _ hTe]; exact he₃
 · obtain ⟨sl, hs⟩ := hs₁.2.2 b o hb
   exact ⟨sl, keep b _ (noRecord b o hb hnf) hs⟩
theorem j0 {base : Heap} {env : Env} {outer : List Env} {L e : Addr} {oe : Obj} {vs : Array Value} {a0 : Option Addr} {Q : Unit -> Shared -> Prop}
 (hfr : A.frames = some (env :: outer)) (hl : s.heap.FunFrames base (env :: outer)) (hf : env.frame = some L)
 (he : s.heap.get? e = some oe) (hkb : base.StaysIn s.heap) (hen : base.get? e = none) (hd : oe.data = .fields vs) (h1 : vs[1]? = some .none) (h0 : oe.dict = a0)
 (h : ∀ h', Heap.LeftD base (env :: outer) e oe.cls a0 s.heap h' -> Q () { s with heap := h' }) : wpAny M A (leaving env (.ref e)) Q E s := by
 unfold leaving noteFrame
 simp only [hf]
 refine wB (wB (wpAny_field he hd h1 ?_))
 rw [if_neg (by decide)]
 exact jJ hfr hl hf he hkb hen hd (Ek.mp h1).1 h0 h
theorem kC {base : Heap} {env : Env} {outer : List Env} {L e : Addr} {cls : Value} {a0 : Option Addr} {Q : Unit -> Shared -> Prop}
 (hfr : A.frames = some (env :: outer)) (hl : s.heap.FunFrames base (env :: outer)) (hf : env.frame = some L) (ht : s.heap.TracedD base e cls a0) (hkb : base.StaysIn s.heap) (hen : base.get? e = none)
 (h : ∀ h', Heap.LeftD base (env :: outer) e cls a0 s.heap h' -> Q () { s with heap := h' }) : wpAny M A (leaving env (.ref e)) Q E s := by
 obtain ⟨oe, vs, T, oT, ts, he, ⟨hcls, h0⟩, hd, h1, hnT, hTe, hT, hdT, h3⟩ := ht
 subst hcls
 unfold leaving noteFrame
 simp only [hf]
 refine wB (wB (wpAny_field he hd h1 ?_))
 rw [if_pos (show (Value.ref T != Value.none) = true from by simp)]
 refine wB (wpAny_field hT hdT h3 ?_)
 rw [if_neg (show ¬ ((Value.none == rawInt L) = true) from by simp [rawInt])]
 refine wB (wpAny_setField hT hdT (Ek.mp h3).1 ?_)
 have other : ∀ b, b ≠ T -> (s.heap.update T (Obj.mapFields (·.setIfInBounds 3 Value.none))).get? b = s.heap.get? b := λ b hb => tR _ _ (Ne.symm hb)
 have noRecord : ∀ b o, s.heap.get? b = some o -> (∀ vs, o.data ≠ .fields vs) -> b ≠ T := λ b o hb hnf q => by
  rw [q, hT] at hb; injection hb with hb; subst hb; exact hnf ts hdT
 refine jJ hfr (hl.of_keeps λ b o hb hnf => ⟨o, (other b (noRecord b o hb hnf)).trans hb, rfl⟩) hf ((other e (Ne.symm hTe)).trans he)
  (λ b o hbo => (other b λ q => by rw [q, hnT] at hbo; cases hbo).trans (hkb b o hbo)) hen hd (Ek.mp h1).1 h0
  λ h' ⟨x1, x2, x3, x4⟩ => h h' ⟨x1, x2, x3, λ b o hb hnf => x4 b o ((other b (noRecord b o hb hnf)).trans hb) hnf⟩
def Heap.FlyingD (base : Heap) (l : List Env) (e : Addr) (cls : Value) (a0 : Option Addr) (h : Heap) : Prop :=
 base.StaysIn h /\ base.get? e = none /\ h.FunFrames base l /\ h.TracedD base e cls a0
theorem Heap.FlyingD.there {base h : Heap} {l : List Env} {e : Addr} {cls : Value} {a0 : Option Addr} (x : Heap.FlyingD base l e cls a0 h) : ∃ ob, h.get? e = some ob /\ ob.cls = cls := by
 obtain ⟨_, _, _, oe, _, _, _, _, he, hc, _⟩ := x
 exact ⟨oe, he, hc.1⟩
theorem mw {base : Heap} {env : Env} {outer : List Env} {L e : Addr} {cls : Value} {a0 : Option Addr} {Q : Unit -> Shared -> Prop}
 (hfr : A.frames = some (env :: outer)) (hf : env.frame = some L) (hfl : Heap.FlyingD base (env :: outer) e cls a0 s.heap)
 (hQ : ∀ h', Heap.FlyingD base outer e cls a0 h' -> s.heap.UpToSlots h' -> Q () { s with heap := h' }) : wpAny M A (leaving env (.ref e)) Q E s := by
 obtain ⟨f1, f2, f3, f4⟩ := hfl
 refine kC hfr f3 hf f4 f1 f2 λ h' hL => ?_
 obtain ⟨k1, ⟨_, _, k2⟩, k3, k4⟩ := hL
 exact hQ h' ⟨k1, f2, k2, k3⟩ k4
theorem sH {base : Heap} {env : Env} {outer : List Env} {L e : Addr} {oe : Obj} {vs : Array Value} {head : Value} {a0 : Option Addr} {hadNext : Bool} {Q : Unit -> Shared -> Prop}
 (hfr : A.frames = some (env :: outer)) (hl : s.heap.FunFrames base (env :: outer)) (hf : env.frame = some L)
 (he : s.heap.get? e = some oe) (hkb : base.StaysIn s.heap) (hen : base.get? e = none) (hd : oe.data = .fields vs) (hsz : 1 < vs.size) (h0 : oe.dict = a0)
 (h : ∀ h', Heap.zy base (env :: outer) e oe.cls a0 (rawInt L) s.heap h' -> Q () { s with heap := h' }) :
 wpAny M A (do let a <- frameOf env; let pl <- entryPlaceOf L hadNext; let b <- EntryCells.newEntry head a .none (rawInt L) .none pl; setField (.ref e) 1 b) Q E s := by
 have hene : e ∉ (env :: outer).filterMap (·.frame) := λ hm => by
  obtain ⟨_, o, ho, hnf⟩ := hl.mem hm
  rw [he] at ho; injection ho with ho; subst ho; exact hnf vs hd
 refine wB (wpAny_frameOf_fun hfr hl hf λ h₁ hs₁ => ?_)
 refine wB (wpAny_entryPlaceOf λ pl hpl => ?_)
 unfold EntryCells.newEntry newFields
 refine wB (wpAny_newObj_type ?_ (hpl.sizeOk5 _ _ _ _ _))
 have he₁ : h₁.get? e = some oe := (hs₁.2.1 e hene).trans he
 have kb₁ : base.StaysIn h₁ := λ b o hbo => (hs₁.2.1 b λ hm => by rw [(hl.mem hm).1] at hbo; cases hbo).trans (hkb b o hbo)
 have he₂ := gy (h := h₁) { cls := .type "traceback", dict := none, data := .fields ([head, .ref L, .none, rawInt L, .none] ++ (if pl.isEmpty then List.replicate 6 Value.none else pl)).toArray } he₁
 refine wpAny_setField he₂ hd hsz (h _ ?_)
 have hTe : h₁.objs.size ≠ e := xX (fG he₁)
 have hd₃ := Obj.data_mapFields hd (·.setIfInBounds 1 (Value.ref h₁.objs.size))
 have he₃ := Ej (Obj.mapFields (·.setIfInBounds 1 (Value.ref h₁.objs.size))) he₂ (Obj.isFreed_of_fields hd₃)
 have hT₃ := (tR (h₁.push { cls := .type "traceback", dict := none, data := .fields ([head, .ref L, .none, rawInt L, .none] ++ (if pl.isEmpty then List.replicate 6 Value.none else pl)).toArray })
  (Obj.mapFields (·.setIfInBounds 1 (Value.ref h₁.objs.size))) (Ne.symm hTe)).trans (jm h₁ rfl)
 have keep : ∀ b o, b ≠ e -> h₁.get? b = some o ->
  ((h₁.push { cls := .type "traceback", dict := none, data := .fields ([head, .ref L, .none, rawInt L, .none] ++ (if pl.isEmpty then List.replicate 6 Value.none else pl)).toArray }).update e (Obj.mapFields (·.setIfInBounds 1 (Value.ref h₁.objs.size)))).get? b = some o :=
  λ b o hbe hb => by
   rw [tR _ _ (Ne.symm hbe)]
   exact gy _ hb
 have noRecord : ∀ b o, s.heap.get? b = some o -> (∀ vs, o.data ≠ .fields vs) -> b ≠ e := λ b o hb hnf q => by
  rw [q, he] at hb; injection hb with hb; subst hb; exact hnf vs hd
 refine ⟨λ b o hbo => keep b o (λ q => by rw [q, hen] at hbo; cases hbo) (kb₁ b o hbo), hl.of_keeps λ b o hb hnf => ?_, ?_, λ b o hb hnf => ?_⟩
 · obtain ⟨sl, hs⟩ := hs₁.2.2 b o hb
   exact ⟨_, keep b _ (noRecord b o hb hnf) hs, rfl⟩
 · exact ⟨_, _, h₁.objs.size, _, _, he₃, ⟨Obj.cls_mapFields _ _, (Obj.dict_mapFields _ _).trans h0⟩, hd₃, by simp [hsz], kb₁.fresh, hTe, hT₃, rfl, by first | (simp; done) | (rcases hpl with rfl | ⟨_, _, _, _, _, _, _, rfl⟩ <;> simp)⟩
 · obtain ⟨sl, hs⟩ := hs₁.2.2 b o hb
   exact ⟨sl, keep b _ (noRecord b o hb hnf) hs⟩
theorem kE {base : Heap} {env : Env} {outer : List Env} {L e : Addr} {cls : Value} {a0 : Option Addr} {Q : Unit -> Shared -> Prop}
 (hfr : A.frames = some (env :: outer)) (hl : s.heap.FunFrames base (env :: outer)) (hf : env.frame = some L) (ht : s.heap.TracedD base e cls a0) (hkb : base.StaysIn s.heap) (hen : base.get? e = none)
 (h : ∀ h', Heap.zy base (env :: outer) e cls a0 (rawInt L) s.heap h' -> Q () { s with heap := h' }) : wpAny M A (noteFrame (.ref e) env) Q E s := by
 obtain ⟨oe, vs, T, oT, ts, he, ⟨hcls, h0⟩, hd, h1, hnT, hTe, hT, hdT, h3⟩ := ht
 subst hcls
 unfold noteFrame
 simp only [hf]
 refine wB (wpAny_field he hd h1 ?_)
 rw [if_pos (show (Value.ref T != Value.none) = true from by simp)]
 refine wB (wpAny_field hT hdT h3 ?_)
 rw [if_neg (show ¬ ((Value.none == rawInt L) = true) from by simp [rawInt])]
 refine wB (wpAny_setField hT hdT (Ek.mp h3).1 ?_)
 have other : ∀ b, b ≠ T -> (s.heap.update T (Obj.mapFields (·.setIfInBounds 3 Value.none))).get? b = s.heap.get? b := λ b hb => tR _ _ (Ne.symm hb)
 have noRecord : ∀ b o, s.heap.get? b = some o -> (∀ vs, o.data ≠ .fields vs) -> b ≠ T := λ b o hb hnf q => by
  rw [q, hT] at hb; injection hb with hb; subst hb; exact hnf ts hdT
 refine sH hfr (hl.of_keeps λ b o hb hnf => ⟨o, (other b (noRecord b o hb hnf)).trans hb, rfl⟩) hf ((other e (Ne.symm hTe)).trans he)
  (λ b o hbo => (other b λ q => by rw [q, hnT] at hbo; cases hbo).trans (hkb b o hbo)) hen hd (Ek.mp h1).1 h0
  λ h' ⟨x1, x2, x3, x4⟩ => h h' ⟨x1, x2, x3, λ b o hb hnf => x4 b o ((other b (noRecord b o hb hnf)).trans hb) hnf⟩
theorem fN {base : Heap} {l : List Env} {e : Addr} {cls : Value} {a0 : Option Addr} {fl : Value} {Q : Unit -> Shared -> Prop}
 (hkb : base.StaysIn s.heap) (hl : s.heap.FunFrames base l) (ht : s.heap.TracedAtD base e cls a0 fl)
 (h : ∀ h', base.StaysIn h' -> h'.FunFrames base l -> h'.TracedD base e cls a0 -> (∀ b o, s.heap.get? b = some o -> (∀ vs, o.data ≠ .fields vs) -> h'.get? b = some o) -> Q () { s with heap := h' }) :
 wpAny M A (setFlight (.ref e) none) Q E s := by
 obtain ⟨oe, vs, T, oT, ts, he, hcls, hd, h1, hnT, hTe, hT, hdT, h3⟩ := ht
 have hsz3 : 3 < ts.size := (Ek.mp h3).1
 have other : ∀ b, b ≠ T -> (s.heap.update T (Obj.mapFields (·.setIfInBounds 3 ((none : Option Addr).elim Value.none λ f => rawInt f)))).get? b = s.heap.get? b :=
  λ b hb => tR _ _ (Ne.symm hb)
 have noRecord : ∀ b o, s.heap.get? b = some o -> (∀ vs, o.data ≠ .fields vs) -> b ≠ T := λ b o hb hnf q => by
  rw [q, hT] at hb; injection hb with hb; subst hb; exact hnf ts hdT
 unfold setFlight
 refine wB (wpAny_field he hd h1 ?_)
 rw [if_pos (show (Value.ref T != Value.none) = true from by simp)]
 refine wpAny_setField hT hdT hsz3 (h _ (λ b o hbo => (other b λ q => by rw [q, hnT] at hbo; cases hbo).trans (hkb b o hbo))
  (hl.of_keeps λ b o hb hnf => ⟨o, (other b (noRecord b o hb hnf)).trans hb, rfl⟩) ?_ λ b o hb hnf => (other b (noRecord b o hb hnf)).trans hb)
 exact ⟨oe, vs, T, _, _, (other e (Ne.symm hTe)).trans he, hcls, hd, h1, hnT, hTe, Ej _ hT (Obj.isFreed_of_fields (Obj.data_mapFields hdT _)), Obj.data_mapFields hdT _, by simp [hsz3]⟩
def Heap.HeldD (base : Heap) (l : List Env) (e : Addr) (cls : Value) (a0 : Option Addr) (L : Addr) (h : Heap) : Prop :=
 base.StaysIn h /\ base.get? e = none /\ h.FunFrames base l /\ h.TracedAtD base e cls a0 (rawInt L)
theorem Heap.HeldD.there {base h : Heap} {l : List Env} {e L : Addr} {cls : Value} {a0 : Option Addr} (x : Heap.HeldD base l e cls a0 L h) : ∃ ob, h.get? e = some ob /\ ob.cls = cls := x.2.2.2.there
theorem nz {base : Heap} {env : Env} {outer : List Env} {L e : Addr} {cls : Value} {a0 : Option Addr} {Q : Unit -> Shared -> Prop}
 (hfr : A.frames = some (env :: outer)) (hf : env.frame = some L) (hfl : Heap.FlyingD base (env :: outer) e cls a0 s.heap)
 (hQ : ∀ h', Heap.HeldD base (env :: outer) e cls a0 L h' -> s.heap.UpToSlots h' -> Q () { s with heap := h' }) : wpAny M A (noteFrame (.ref e) env) Q E s := by
 obtain ⟨f1, f2, f3, f4⟩ := hfl
 refine kE hfr f3 hf f4 f1 f2 λ h' hN => ?_
 obtain ⟨k1, k2, k3, k4⟩ := hN
 exact hQ h' ⟨k1, f2, k2, k3⟩ k4
theorem sI {base : Heap} {l : List Env} {e L : Addr} {cls : Value} {a0 : Option Addr} {Q : Unit -> Shared -> Prop} (hh : Heap.HeldD base l e cls a0 L s.heap)
 (hQ : ∀ h', Heap.FlyingD base l e cls a0 h' -> s.heap.UpToSlots h' -> Q () { s with heap := h' }) : wpAny M A (setFlight (.ref e) none) Q E s := by
 obtain ⟨f1, f2, f3, f4⟩ := hh
 exact fN f1 f3 f4 λ h' k1 k2 k3 k4 => hQ h' ⟨k1, f2, k2, k3⟩ λ b o hb hn => ⟨o.slots, k4 b o hb hn⟩
theorem kj {base h : Heap} {env : Env} {outer : List Env} {L e : Addr} {cls : Value} {args : List Value} {Q : Unit -> Shared -> Prop}
 (hfr : A.frames = some (env :: outer)) (hf : env.frame = some L) (hkb : base.StaysIn h) (hl : h.FunFrames base (env :: outer)) (hx : Heap.MadeExcOf h s.heap e cls args)
 (hQ : ∀ h' t, Heap.FlyingD base outer e cls none h' -> h'.TupAt t args -> base.get? t = none -> s.heap.UpToSlots h' -> Q () { s with heap := h' }) : wpAny M A (leaving env (.ref e)) Q E s := by
 obtain ⟨t, he, htn, ht⟩ := hx.there
 have fresh : ∀ b, h.get? b = none -> base.get? b = none := λ b hb => by
  cases hq : base.get? b with
  | none => rfl
  | some o' => have := hkb b o' hq; rw [hb] at this; cases this
 refine j0 (a0 := none) hfr (hl.of_keeps λ b o hb _ => ⟨o, hx.keeps b o hb, rfl⟩) hf he (λ b o hb => hx.keeps b o (hkb b o hb)) (fresh e hx.new) rfl rfl rfl λ h' hL => ?_
 obtain ⟨k1, ⟨_, _, k2⟩, k3, k4⟩ := hL
 exact hQ h' t ⟨k1, fresh e hx.new, k2, k3⟩ (Heap.TupAt.of_slots ⟨_, _, ht, rfl, rfl⟩ k4) (fresh t htn) k4
theorem Heap.FlyingD.first {base h : Heap} {l : List Env} {e : Addr} {cls : Value} {a0 : Option Addr} (x : Heap.FlyingD base l e cls a0 h) : ∃ oe vs, h.get? e = some oe /\ oe.cls = cls /\ oe.data = .fields vs /\ oe.dict = a0 :=
 let ⟨_, _, _, oe, vs, _, _, _, he, hc, hd, _⟩ := x; ⟨oe, vs, he, hc.1, hd, hc.2⟩
end
end PySem
namespace L2
open PySem PySem.Spec PyProof.Rows PySem.W
theorem ObjOk.there {P : Program} {w : World} {H : Hp} {h : Heap} {a : Addr} {o : HO} (x : ObjOk P w H h a o) : ∃ ob, h.get? a = some ob := by
 cases o with
 | lst xs => obtain ⟨_, _, _, _, e⟩ := x; exact ⟨_, e⟩
 | tup xs => obtain ⟨_, _, _, ⟨ob, e, _⟩, _⟩ := x; exact ⟨_, e⟩
 | dK kvs => obtain ⟨_, _, _, _, o, _, _, e, _⟩ := x; exact ⟨_, e⟩
 | dT kvs => obtain ⟨_, _, _, _, o, _, _, e, _⟩ := x; exact ⟨_, e⟩
 | set S n => obtain ⟨o, _, _, _, e, _⟩ := x; exact ⟨_, e⟩
 | ins C dx fs => obtain ⟨_, _, _, e, _⟩ := x; exact ⟨_, e⟩
 | own y => obtain ⟨_, e⟩ := x; exact ⟨_, e⟩
 | xd fs => obtain ⟨_, ⟨_, _, _, e, _⟩, _⟩ := x; exact ⟨_, e⟩
 | rng lo hi => obtain ⟨_, _, _, e⟩ := x; exact ⟨_, e⟩
 | frz ob u => obtain ⟨e, _⟩ := x; exact ⟨_, e⟩
 | tbl ps =>
  rcases x with e | ⟨_, _, _, _, _, _, _, _, _, _, e, _⟩
  · exact ⟨_, e⟩
  · exact ⟨_, e⟩
 | met f y => exact ⟨_, (show h.get? a = some _ from x)⟩
 | ext φ => obtain ⟨_, ⟨_, e⟩, _⟩ := x; exact ⟨_, e⟩
structure Flown (P : Program) (w : World) (outer : List Env) (H : Hp) (s : Shared) (ea C : Addr) (a0 : Option Addr) (B : Heap) (H' : Hp) (s' : Shared) : Prop where
 os : s'.os = s.os
 bare : AllBare s'.gens
 hokB : HOk P w H' B
 fly : Heap.FlyingD B outer ea (.ref C) a0 s'.heap
 cov : ∀ b o, s.heap.get? b = some o -> H b = none -> b ∉ jV outer -> B.get? b = some o
 thr : ∀ b o, s.heap.get? b = some o -> b ∈ jV outer \/ ∃ o', B.get? b = some o'
 un : Un (jV outer) [] H H' s.heap s'.heap
def XV (ea : Addr) (v : Value) (dx : Option Addr) (H : Hp) : Prop := v = .ref ea \/ ∃ n t d, v = .int n t /\ dx = some d /\ H d = some (.xd [("at", .int n)])
def tf (P : Program) (w : World) : xa := λ outer H s E e s' => ∃ (ea C : Addr) (a0 : Option Addr) (B : Heap) (H' : Hp) (v : Value), e = .ref ea /\ Flown P w outer H s ea C a0 B H' s' /\ XV ea v a0 H' /\ E v (some C) H'
section
variable {P : Program} {w : World} {outer : List Env} {H H' : Hp} {s s' : Shared} {ea C : Addr} {a0 : Option Addr} {B : Heap}
theorem Flown.hok (f : Flown P w outer H s ea C a0 B H' s') : HOk P w H' s'.heap := f.hokB.kept f.fly.1
theorem Flown.free (f : Flown P w outer H s ea C a0 B H' s') : H' ea = none := by
 cases q : H' ea with
 | none => rfl
 | some u =>
  obtain ⟨ob, e⟩ := (f.hokB _ _ q).there
  rw [f.fly.2.1] at e
  cases e
end
section
variable {X : Cx} {pins : List (Addr × Obj)} {σ : St} {H : Hp} {s : Shared}
theorem Inv.neL (I : Inv X pins σ H s) {b : Addr} {o : Obj} (e : X.s₀.heap.get? b = some o) : b ≠ X.env.locals := oX (jn (fG e) I.ok.above)
theorem Inv.notStk (I : Inv X pins σ H s) {b : Addr} {o : Obj} (e : X.s₀.heap.get? b = some o) (hb : b ∉ X.fs) : b ∉ jV X.stack := λ z => (qS.mp (I.stkSub b z)).elim (I.neL e) hb
theorem vU {outer : List Env} {base h0 h1 h2 B : Heap} {H0 H1 : Hp} (ff : h0.FunFrames base outer) (frf : ∀ b ∈ jV outer, H0 b = none) (st : B.StaysIn h2) (ff2 : h2.FunFrames B outer)
 (cov : ∀ b o, h0.get? b = some o -> H0 b = none -> b ∉ jV outer -> B.get? b = some o) (thr : ∀ b o, h0.get? b = some o -> b ∈ jV outer \/ ∃ o', B.get? b = some o')
 (u : Un (jV outer) [] H0 H1 h0 h1) (k : h1.UpToSlots h2) : Un (jV outer) [] H0 H1 h0 h2 where
 keep := λ b o e n hb _ => st b o (cov b o e n hb)
 slot := λ b o e n hb hx => by
  obtain ⟨sl, e1⟩ := u.slot b o e n hb hx
  obtain ⟨_, o', ho', hd⟩ := ff.mem hb
  rw [e] at ho'
  cases ho'
  obtain ⟨sl', e2⟩ := k b _ e1 hd
  exact ⟨sl', e2⟩
 free := u.free
 there := λ b o e _ => by
  rcases thr b o e with hb | ⟨o', e'⟩
  · obtain ⟨_, o', ho', _⟩ := ff2.mem hb
    exact ⟨o', ho'⟩
  · exact ⟨o', st _ _ e'⟩
 tups := u.tups
 frzs := u.frzs
 tbls := u.tbls
theorem vV {E : XK} {E' : Value -> Shared -> Prop} {ea C : Addr} {args : List Value} {h' : Heap} (hstk : X.stack = X.env :: X.outer) (hf : X.env.frame = some X.env.locals) (hex : X.ex = [])
 (I : Inv X pins σ H s) (hx : Heap.MadeExcOf s.heap h' ea (.ref C) args) (hE : E (.ref ea) (some C) H) :
 wpAny (model X.prog X.w) X.A (leaving X.env (.ref ea)) (λ _ s'' => tf X.prog X.w X.outer X.H₀ X.s₀ E (.ref ea) s'') E' { s with heap := h' } := by
 have hin : ∀ env ∈ X.stack, ∀ b, env.frame = some b -> b ∈ jV X.stack := λ env he b hb => List.mem_filterMap.mpr ⟨env, he, hb⟩
 have nx : ∀ b, b ∉ X.ex := λ b z => by rw [hex] at z; cases z
 have keepB : ∀ b o, s.heap.get? b = some o -> b ∉ jV X.stack -> (hideAll s.heap (jV X.stack)).get? b = some o := λ b o e hb => hideAll_get _ e hb
 have hokB : HOk X.prog X.w H (hideAll s.heap (jV X.stack)) := λ b u e => (I.hok b u e).stay (λ c v hc q => keepB c v q (λ z => by
  have z := I.stkFree c z
  rcases hc with rfl | hc
  · rw [e] at z; cases z
  · rw [hc] at z; cases z)) (λ _ q => q) (λ _ _ q => q) λ _ _ _ q => q
 have cov : ∀ b o, X.s₀.heap.get? b = some o -> X.H₀ b = none -> b ∉ jV X.outer -> (hideAll s.heap (jV X.stack)).get? b = some o := λ b o e n hb =>
  keepB b o (I.base.keep b o e n hb (nx b)) (I.notStk e hb)
 have thr : ∀ b o, X.s₀.heap.get? b = some o -> b ∈ jV X.outer \/ ∃ o', (hideAll s.heap (jV X.stack)).get? b = some o' := λ b o e => by
  by_cases hb : b ∈ jV X.outer
  · exact .inl hb
  · obtain ⟨o', e'⟩ := I.base.there b o e (nx b)
    exact .inr ⟨o', keepB b o' e' (I.notStk e hb)⟩
 have fr := I.ok.frames
 have stk := I.stack
 have ub : Un (jV X.outer) [] X.H₀ H X.s₀.heap s.heap := by
  have := I.base
  rw [hex] at this
  exact this
 generalize hB : hideAll s.heap (jV X.stack) = B at *
 have ffB : s.heap.FunFrames B (X.env :: X.outer) := by
  rw [<- hB, <- hstk]
  exact funFrames_hide stk hin
 rw [hstk] at fr
 refine kj (base := B) (h := s.heap) fr hf (λ b o q => by rw [<- hB] at q; exact of_hideAll _ q) ffB hx λ h'' t x1 x2 x3 x4 => ?_
 refine ⟨ea, C, none, B, H, .ref ea, rfl, ⟨I.os, I.bare, hokB, x1, cov, thr, vU I.ok.funs I.ok.frf x1.1 x1.2.2.1 cov thr (ub) (((Heap.UpToSlots.of_keeps hx.keeps)).trans x4)⟩, .inl rfl, hE⟩
theorem AA {E : XK} {E' : Value -> Shared -> Prop} {e : Value} {s' : Shared} (hstk : X.stack = X.env :: X.outer) (hf : X.env.frame = some X.env.locals) (hex : X.ex = [])
 (I : Inv X pins σ H s) (hx : tf X.prog X.w X.stack H s E e s') :
 wpAny (model X.prog X.w) X.A (leaving X.env e) (λ _ s'' => tf X.prog X.w X.outer X.H₀ X.s₀ E e s'') E' s' := by
 obtain ⟨ea, C, a0, B, H', v, rfl, f, hv, hE⟩ := hx
 have nx : ∀ b, b ∉ X.ex := λ b z => by rw [hex] at z; cases z
 have I' : Inv X pins σ H' s' := I.call' (ch := []) f.os f.un f.hok f.bare (λ b z => absurd z (by simp))
 have cov : ∀ b o, X.s₀.heap.get? b = some o -> X.H₀ b = none -> b ∉ jV X.outer -> B.get? b = some o := λ b o e n hb =>
  f.cov b o (I.base.keep b o e n hb (nx b)) (I.base.free b o e n (nx b)) (I.notStk e hb)
 have thr : ∀ b o, X.s₀.heap.get? b = some o -> b ∈ jV X.outer \/ ∃ o', B.get? b = some o' := λ b o e => by
  by_cases hb : b ∈ jV X.outer
  · exact .inl hb
  · obtain ⟨o', e'⟩ := I.base.there b o e (nx b)
    exact .inr ((f.thr b o' e').resolve_left (I.notStk e hb))
 have ub : Un (jV X.outer) [] X.H₀ H' X.s₀.heap s'.heap := by
  have := I'.base
  rw [hex] at this
  exact this
 have fr := I.ok.frames
 have fl := f.fly
 rw [hstk] at fr fl
 refine mw fr hf fl λ h'' x1 x2 => ?_
 exact ⟨ea, C, a0, B, H', v, rfl, ⟨I'.os, I'.bare, f.hokB, x1, cov, thr, vU I.ok.funs I.ok.frf x1.1 x1.2.2.1 cov thr ub x2⟩, hv, hE⟩
end
theorem GL {K : Frag} {hp : Heap} {gl : Str -> Option Value} {y : Str} {C : Addr} {bl : List Value} {nid : String} (kin : K.In hp) (hm : gl y = some (.ref C)) (ok : excIn K C bl nid = true) : OwnCls y C bl nid gl hp := by
 refine ⟨hm, ?_⟩
 unfold excIn at ok
 cases hL : K.lookup C with
 | none => rw [hL] at ok; cases ok
 | some ob =>
  rw [hL] at ok
  have at_ := kin _ _ hL
  split at ok
  · rename_i e1
    split at ok
    · rename_i cx ds sls lsx w1 w2 w3 w4 w5 w6 w7 w8 e2 e3
      cases e1
      simp only [Qa, beq_iff_eq, Bool.not_eq_true'] at ok
      obtain ⟨⟨⟨⟨⟨rfl, rfl⟩, z1⟩, z2⟩, z3⟩, z4⟩ := ok
      obtain ⟨c1, c2, c3, c4, c5, c6, c7, c8, c9, c10, c11⟩ := cx
      obtain rfl : c3 = _ := e2
      obtain rfl : c11 = _ := z1
      obtain ⟨sll⟩ := ds
      obtain rfl : sll = _ := e3
      exact ⟨_, _, _, _, _, _, _, _, _, _, _, _, _, _, _, _, _, at_, .of_isNs (isNs_of_in kin z3), nsMap_none_of_in kin z3 z4, tail_of_in kin z2⟩
    · cases ok
  · cases ok
section
variable {P : Program} {w : World} {K : Frag} {mg : Str -> Option Value} {base : Heap} {N : List Str} {qual : Str} {scope : Scope} {f : Addr} {cd : Value} {A : Around} {outer : List Env} {s₀ : Shared} {H₀ : Hp} {E : XK}
theorem ou : mo (tf P w) (ke (tf P w) P w K mg base N qual scope f cd A outer s₀ H₀ E) E := λ pins σ H s e s' I h =>
 AA (X := ke (tf P w) P w K mg base N qual scope f cd A outer s₀ H₀ E) rfl rfl rfl I h
def AB (C : Addr) (E : XK) (ta : TA) : TS := λ _ σ H => ta σ H λ vs H1 => vs.length <= sizeLine /\ ∀ ea, E (.ref ea) (some C) H1
theorem AC {x : Str} {C : Addr} {B newId initId : String} {bm : List Value} {np cpos pos : Pos} {e₀ : Expr} {iB : List Expr} {ta : TA} (hm : mg x = some (.ref C)) (q : excIn K C bm newId = true) (FB : ExcBaseFacts B newId initId bm)
 (ha : PA (ke (tf P w) P w K mg base N qual scope f cd A outer s₀ H₀ E) (e₀ :: iB) ta) (hg : Gl (ke (tf P w) P w K mg base N qual scope f cd A outer s₀ H₀ E) x := by rfl)
 (hd : (x == ("__debug__" : Str)) = false := by decide)
 (he : starEach (e₀ :: iB) (envOfC qual scope s₀.heap.objs.size f cd) = (false, eval e₀ (envOfC qual scope s₀.heap.objs.size f cd)) :: starEach iB (envOfC qual scope s₀.heap.objs.size f cd) := by rfl)
 (hpl : (backTo cpos (starEach iB (envOfC qual scope s₀.heap.objs.size f cd))).any (·.1) = false := by rfl) :
 PS (ke (tf P w) P w K mg base N qual scope f cd A outer s₀ H₀ E) (.Raise (some (.Call (.Name x np) (e₀ :: iB) [] cpos)) none pos) (AB C E ta) := by
 intro pins s σ H D I h
 obtain ⟨tl, NN, nm, qn, bs, hdct, sn, sub, ab, col, dd, k0, k1, k2, k3, k5, mN, hC, hN, hni, T⟩ := (GL I.mod.kin hm q).obj
 refine wpAny_Raise_call_subT (C := C) (nm := nm) (q := qn) (N := NN) (bs := bs) (bm := tl) (hdct := hdct) (sn := sn) (sub := sub) (ab := ab) (col := col) (dd := dd) (k0 := k0) (k1 := k1)
  (k2 := k2) (k3 := k3) (k5 := k5) FB (mN := mN) (T.hasType FB.hasBase) (I.ok.hd rfl) (by show (backTo cpos (starEach (e₀ :: iB) (envOfC qual scope s₀.heap.objs.size f cd))).any (·.1) = false; rw [he]; show (false || (backTo cpos (starEach iB (envOfC qual scope s₀.heap.objs.size f cd))).any (·.1)) = false; rw [hpl]; rfl) hni (oK I hg hm ⟨rfl, ?_⟩ hd)
 have ha := ha cpos pins s σ H _ I h
 change wpAny _ _ (evalArgs (.ref C) true (backTo cpos (starEach (e₀ :: iB) (envOfC qual scope s₀.heap.objs.size f cd))) []) _ _ s
 change wpAny _ _ (spliced (backTo cpos (starEach (e₀ :: iB) (envOfC qual scope s₀.heap.objs.size f cd)))) _ _ s at ha
 rw [he] at ha ⊢
 refine Calls.evalArgs_plain (dm ha λ us s2 ⟨vs, H2, I2, r2, z, hE⟩ => ⟨rfl, by rw [<- r2.length]; exact z, I2.bk _ _ hC, hN.keeps I2.bk, T.keeps I2.bk, λ h' ea hx => ?_⟩)
 exact vV (X := ke (tf P w) P w K mg base N qual scope f cd A outer s₀ H₀ E) rfl rfl rfl I2 hx (hE ea)
end
theorem sJ {M : Model} {A : Around} {E : Value -> Shared -> Prop} {s : Shared} {base : Heap} {l : List Env} {e : Addr} {cls : Value} {a0 : Option Addr} {Q : Unit -> Shared -> Prop} (hh : Heap.FlyingD base l e cls a0 s.heap)
 (hQ : ∀ h', Heap.FlyingD base l e cls a0 h' -> s.heap.UpToSlots h' -> Q () { s with heap := h' }) : wpAny M A (setFlight (.ref e) none) Q E s := by
 obtain ⟨f1, f2, f3, f4⟩ := hh
 exact fN f1 f3 f4.at λ h' k1 k2 k3 k4 => hQ h' ⟨k1, f2, k2, k3⟩ λ b o hb hn => ⟨o.slots, k4 b o hb hn⟩
def XW (e : Value) (ea : Addr) : Prop := e = .ref ea \/ ∃ n t, e = .int n t
theorem XV.w {ea : Addr} {v : Value} {dx : Option Addr} {H : Hp} (h : XV ea v dx H) : XW v ea := by
 rcases h with h | ⟨n, t, _, h, _⟩
 · exact .inl h
 · exact .inr ⟨n, t, h⟩
def XO (ea C : Addr) : HO := .ext λ h => ∃ ob, h.get? ea = some ob /\ ob.cls = .ref C
theorem FU {P : Program} {w : World} {H : Hp} {h : Heap} {ea C : Addr} {ob : Obj} (e : h.get? ea = some ob) (c : ob.cls = .ref C) : ObjOk P w H h ea (XO ea C) :=
 ⟨⟨ob, e, c⟩, ⟨ob, e⟩, λ _ _ ⟨o1, e1, c1⟩ k => ⟨o1, k o1 e1, c1⟩⟩
theorem xx {prog : Program} {w : World} {A : Around} {E : Value -> Shared -> Prop} {s : Shared} {K : Frag} {ea C : Addr} {c : Value} {ob : Obj} {Q : Value -> Shared -> Prop} (kin : K.In s.heap) (at_ : s.heap.get? ea = some ob) (cl : ob.cls = .ref C)
 (yes : kitOne K (.ref C) c = some true) (k : ∀ tk, Q (.bool true) { s with toks := tk }) : wpAny (model prog w) A (call (.builtin "isinstance") [.ref ea, c]) Q E s := by
 refine call_isinstance (S := λ _ R t => (K.In t.heap /\ t.heap.get? ea = some ob) /\ ∀ tk, R (.ok (.ret (.bool true))) { t with toks := tk }) (λ pr w2 A2 R t ht => isinstance_outer ?_ (by intro q; cases q)) ⟨⟨kin, at_⟩, k⟩
 obtain ⟨hh, g, d, tt, os⟩ := t
 obtain ⟨⟨ki, here⟩, fin⟩ := ht
 have ty : Looks (model pr w2) hh (typeOf (.ref ea)) (.ref C) := cl ▸ (Looks.ld here).andThen .now
 unfold Builtin.«isinstance.nested»
 refine wB (ty.at ?_)
 unfold kitOne at yes
 by_cases q : (Value.ref C == c) = true
 · rw [if_pos q]
   first
    | ((repeat lk); exact fin tt)
    | exact wB (wpAny_rule (fin tt))
 · rw [if_neg q] at yes
   rw [if_neg q]
   obtain ⟨a1, a2, a3⟩ := kit_cls (M := model pr w2) ki yes
   have both : Looks (model pr w2) hh (isInstance (.ref ea) c) true := ty.andThen a3
   refine wB (a1.at ?_)
   rw [if_pos (by decide)]
   k_delta "plainIsInstance"
   refine wB (wB (a2.at ?_))
   simp only [wb, zN, if_false]
   refine wB (both.at ?_)
   simp only [if_true]
   first
    | exact wP (wP (fin tt))
    | exact wP (fin tt)
    | exact wB (wP (wP (fin tt)))
def AD (K : Frag) : List V -> Hp -> VK -> Prop := λ xs H Q => ∃ ea C y c, xs = [.ref ea, y] /\ ((∃ D, y = .ref D /\ c = .ref D) \/ ∃ n, y = .ty n /\ c = .type n) /\ H ea = some (XO ea C) /\ kitOne K (.ref C) c = some true /\ Q (.bl true) H
theorem jq {X : Cx} : dq X (.builtin "isinstance") (AD X.K) := by
 intro pins s σ H xs us Q I rv h
 obtain ⟨ea, C, y, c, rfl, hy, tr, yes, q⟩ := h
 obtain ⟨u, w', rfl, r1, r2⟩ := rv.two
 cases (show u = Value.ref ea from r1)
 have ec : w' = c := by
  rcases hy with ⟨D, rfl, rfl⟩ | ⟨n, rfl, rfl⟩
  · exact r2
  · exact r2
 subst ec
 obtain ⟨⟨ob, e, cl⟩, _⟩ := (show ObjOk X.prog X.w H s.heap ea (XO ea C) from I.hok ea _ tr)
 exact xx I.kIn e cl yes λ tk => ⟨.bl true, H, I.tok tk, rfl, q⟩
theorem Un.track {fs : List Addr} {H0 H1 : Hp} {h h2 : Heap} {ea : Addr} {o : HO} (u : Un fs [] H0 H1 h h2) (hn : h.get? ea = none) (hf : H1 ea = none) : Un fs [] H0 (cZ H1 ea o) h h2 where
 keep := u.keep
 slot := u.slot
 free := λ b ob e n hx => by
  rw [aZ (λ z => by rw [z, hn] at e; cases e)]
  exact u.free b ob e n hx
 there := u.there
 tups := λ b xs q => by rw [aZ (aU (u.tups b xs q) hf)]; exact u.tups b xs q
 frzs := λ b ob xs q => by rw [aZ (aU (u.frzs b ob xs q) hf)]; exact u.frzs b ob xs q
 tbls := λ b ps q => by
  obtain ⟨m, e⟩ := u.tbls b ps q
  exact ⟨m, by rw [aZ (aU e hf)]; exact e⟩
theorem HOk.track {P : Program} {w : World} {H : Hp} {h : Heap} {ea : Addr} {o : HO} (x : HOk P w H h) (hf : H ea = none) (new : ObjOk P w (cZ H ea o) h ea o) : HOk P w (cZ H ea o) h := λ b u e => by
 by_cases hb : b = ea
 · subst hb
   rw [ae] at e
   cases e
   exact new
 · rw [aZ hb] at e
   exact (x b u e).stay (λ _ _ _ q => q) (λ c q => by rw [aZ (aU q hf)]; exact q) (λ c xs q => by rw [aZ (aU q hf)]; exact q) λ c ob xs q => by rw [aZ (aU q hf)]; exact q
section
variable {X : Cx} {pins : List (Addr × Obj)} {σ : St} {H : Hp} {s : Shared}
theorem Inv.unbound {i t : Nat} {n : Str} {m : Str -> Option Value} {v : Option Value} {h' : Heap} (I : Inv X pins σ H s) (hN : X.N.Nodup) (hi : X.N[i]? = some n)
 (hl : ∀ (i : Nat) (x : Str) (v : V), X.N[i]? = some x -> σ[i]? = some (some v) -> Ew X.env.scope x -> ∃ u, RelV v u /\ Ey X.env s.heap m x u)
 (hns : h'.Ns X.env.locals λ y => if y = n then v else m y) (hs : Heap.SameBut X.env.locals s.heap h') : Inv X pins (σ.set i none) H { s with heap := h', toks := t } := by
 have ck : ∀ y c, X.env.cells.lookup y = some c -> ∀ z, s.heap.IsCell c z -> h'.IsCell c z := λ y c e z ⟨o, ho, hd⟩ => ⟨o, (hs.2 c (I.cne y c e)).trans ho, hd⟩
 refine ⟨I.ok, I.os, I.bare, ⟨λ b o e n hb hx => ?_, λ b o e n hb hx => ?_, I.base.free, λ b o e hx => ?_, I.base.tups, I.base.frzs, I.base.tbls⟩, ⟨_, hns, λ j y v' e1 e2 e3 => ?_⟩, λ y c e => ?_, I.free, I.freeC, λ p hp => ?_, I.hok.sameBut I.free hs, by simpa using I.len⟩
 · exact (hs.2 b (I.neL e)).trans (I.base.keep b o e n hb hx)
 · obtain ⟨sl, e1⟩ := I.base.slot b o e n hb hx
   exact ⟨sl, (hs.2 b (I.neL e)).trans e1⟩
 · obtain ⟨o', e1⟩ := I.base.there b o e hx
   exact ⟨o', (hs.2 b (I.neL e)).trans e1⟩
 · have ne : i ≠ j := λ z => by
    subst z
    rw [List.getElem?_set] at e2
    simp at e2
   have e2' : σ[j]? = some (some v') := by rw [List.getElem?_set_ne ne] at e2; exact e2
   obtain ⟨u, r, l⟩ := hl j y v' e1 e2' e3
   refine ⟨u, r, ?_⟩
   have yn : y ≠ n := λ z => ne (oZ hN hi (z ▸ e1))
   rcases l with ⟨k, l⟩ | ⟨k, c, e, z⟩
   · exact .inl ⟨k, (if_neg yn).trans l⟩
   · exact .inr ⟨k, c, e, ck y c e _ z⟩
 · obtain ⟨z, hz⟩ := I.cell y c e
   exact ⟨z, ck y c e z hz⟩
 · obtain ⟨e, n, ne, nf, d⟩ := I.pin p hp
   exact ⟨(hs.2 p.1 ne).trans e, n, ne, nf, d⟩
abbrev Cx.alt (X : Cx) (A : Around) (cm : Bool) (pn : List (Addr × Obj)) (E : Value -> Shared -> Prop) : Cx := { X with A := A, calm := cm, pn := pn, xe := E }
theorem Inv.alt (I : Inv X pins σ H s) {A : Around} {cm : Bool} {pn pins' : List (Addr × Obj)} {E : Value -> Shared -> Prop} (ha : A.frames = X.A.frames) (hc : cm = true -> A.handled = none) (hp : ∀ p ∈ pn ++ pins', p ∈ X.pn ++ pins) : Inv (X.alt A cm pn E) pins' σ H s :=
 ⟨⟨I.ok.mod, I.ok.kind, I.ok.glob, I.ok.blt, I.ok.above, I.ok.inj, I.ok.has, I.ok.cab, hc, ha.trans I.ok.frames, I.ok.stk, I.ok.exf, I.ok.bs, I.ok.bsz, I.ok.noex, I.ok.exfs, I.ok.funs, I.ok.frf⟩, I.os, I.bare, I.base, I.loc, I.cell, I.free, I.freeC, λ p q => I.pin p (hp p q), I.hok, I.len⟩
theorem Inv.unalt {A : Around} {cm : Bool} {pn pins' : List (Addr × Obj)} {E : Value -> Shared -> Prop} (I : Inv (X.alt A cm pn E) pins' σ H s) (ok : X.Ok) (hp : ∀ p ∈ X.pn ++ pins, p ∈ pn ++ pins') : Inv X pins σ H s :=
 ⟨ok, I.os, I.bare, I.base, I.loc, I.cell, I.free, I.freeC, λ p q => I.pin p (hp p q), I.hok, I.len⟩
noncomputable def Ends.un (D : Ends) (i : Nat) : Ends := { nx := λ σ H => D.nx (σ.set i none) H, bk := λ σ H => D.bk (σ.set i none) H, ct := λ σ H => D.ct (σ.set i none) H, rt := D.rt }
def EK (K : Frag) (Dc : Addr) (i n : Nat) (tb : XK -> TS) (ts : Addr -> TS) : TS := λ D σ H =>
 tb (λ e oc H' => ∃ C, oc = some C /\ exmOne K (.ref C) (.ref Dc) = some true /\ ∀ ea, XW e ea -> H' ea = none -> ∀ σ' : St, σ'.length = n -> ts ea (D.un i) (σ'.set i (some (.ref ea))) (cZ H' ea (XO ea C))) D σ H
theorem AE {body suite : List Stmt} {b₀ : Stmt} {x n : Str} {i : Nat} {Dc : Addr} {np pos tp : Pos} {tb : XK -> TS} {ts : Addr -> TS} (hstk : X.stack = X.env :: X.outer) (hfr : X.env.frame = some X.env.locals) (hcm : X.calm = true) (hN : X.N.Nodup) (hi : X.N[i]? = some n)
 (hl : X.env.scope.names.lookup n = some .local) (hm : X.mg x = some (.ref Dc)) (hg : Gl X x)
 (hb : ∀ (pn : List (Addr × Obj)) (E' : Value -> Shared -> Prop) (E : XK), mo (tf X.prog X.w) (X.alt X.A true pn E') E -> PSs (X.alt X.A true pn E') body (tb E))
 (hs : ∀ (ea : Addr) (pn : List (Addr × Obj)), PSs (X.alt (X.A.mark (some (.ref ea))) false pn λ _ _ => False) (b₀ :: suite) (ts ea)) (hd : (x == ("__debug__" : Str)) = false := by decide) :
 PS X (.Try body [.ExceptHandler (some (.Name x np)) (some n) (b₀ :: suite) pos] [] [] tp) (EK X.K Dc i X.N.length tb ts) := by
 intro pins s σ H D I h
 refine wpAny_Try_except ?_
 have hh := I.ok.hd hcm
 have sub1 : ∀ p ∈ (X.pn ++ pins) ++ [], p ∈ X.pn ++ pins := λ p q => by rw [Q4] at q; exact q
 have sub2 : ∀ p ∈ X.pn ++ pins, p ∈ (X.pn ++ pins) ++ [] := λ p q => by rw [Q4]; exact q
 have ok := I.ok
 refine wpAny_mono (hb (X.pn ++ pins) _ _ (λ pins' σ' Hc sc e s' Ic hx => ?_) [] s σ H D (I.alt (A := X.A) (cm := true) (E := ?E') rfl (λ _ => hh) sub1) h) (λ f s1 hf => ?_) (λ e s1 he => ?_)
 case E' => exact λ e s₁ => wpAny (model X.prog X.w) X.A (noteFrame e X.env) (λ _ s₂ => wpAny (model X.prog X.w) X.A (setFlight e none) (λ _ s₃ => wpAny (model X.prog X.w) X.A (handleBy e X.env [.ExceptHandler (some (.Name x np)) (some n) (b₀ :: suite) pos]) (SP X pins D) X.xe s₃) X.xe s₂) X.xe s₁
 · obtain ⟨ea, C, a0, B, H', v, rfl, f, hv, C', e2, hex, hk⟩ := hx
   cases e2
   have fr : X.A.frames = some (X.env :: X.outer) := by rw [<- hstk]; exact ok.frames
   have fl : Heap.FlyingD B (X.env :: X.outer) ea (.ref C) a0 s'.heap := by rw [<- hstk]; exact f.fly
   have new : sc.heap.get? ea = none := by
    cases q : sc.heap.get? ea with
    | none => rfl
    | some o =>
     rcases f.thr ea o q with z | ⟨o', z⟩
     · obtain ⟨_, o', e1, e2⟩ := f.fly.2.2.1.mem z
       obtain ⟨oe, vs, e3, _, e4, _⟩ := f.fly.first
       rw [e3] at e1
       cases e1
       exact absurd e4 (e2 vs)
     · rw [f.fly.2.1] at z
       cases z
   have unT : ∀ h₂, s'.heap.UpToSlots h₂ -> Heap.FlyingD B (X.env :: X.outer) ea (.ref C) a0 h₂ -> Inv (X.alt (X.A.mark (some (.ref ea))) false (X.pn ++ pins) λ _ _ => False) [] σ' (cZ H' ea (XO ea C)) { s' with heap := h₂ } := λ h₂ sm fl₂ => by
    have u2 := vU Ic.stack Ic.stkFree fl₂.1 (show h₂.FunFrames B X.stack by rw [hstk]; exact fl₂.2.2.1) f.cov f.thr f.un sm
    obtain ⟨ob, e1, e2⟩ := fl₂.there
    have J : Inv (X.alt X.A true (X.pn ++ pins) _) pins' σ' (cZ H' ea (XO ea C)) { s' with heap := h₂ } := Ic.call' (ch := []) f.os (u2.track new f.free) ((f.hokB.kept fl₂.1).track f.free (FU e1 e2)) f.bare (λ b z => absurd z (by simp))
    exact (J.unalt (X := X) (pins := pins) ok (λ p q => List.mem_append_left _ q)).alt rfl (λ z => nomatch z) sub1
   show wpAny (model X.prog X.w) X.A (noteFrame (.ref ea) X.env) _ _ s'
   refine nz fr hfr fl λ h₄ held₄ sm₄ => ?_
   refine sI held₄ λ h₅ fl₅ sm₅ => ?_
   have I₅ := unT h₅ (sm₄.trans sm₅) fl₅
   obtain ⟨ob, hob, hobc⟩ := fl₅.there
   have LT : Looks (model X.prog X.w) h₅ (typeOf (.ref ea)) (.ref C) := hobc ▸ (Looks.ld hob).andThen .now
   refine wpAny_handleBy_cons (codeAny_handlers_test (oK I₅ hg hm ?_ hd)) (by intro q; cases q)
   refine (exm_one I₅.kIn LT hex).here ?_
   refine codeAny_handlers_suite_as ?_
   refine sJ fl₅ λ h₆ fl₆ sm₆ => ?_
   have I₆ := unT h₆ ((sm₄.trans sm₅).trans sm₆) fl₆
   refine lJ (X := X.alt (X.A.mark (some (.ref ea))) false (X.pn ++ pins) λ _ _ => False) I₆ hN hi (.inl hl) (v := .ref ea) rfl (λ s₇ I₇ => ?_) (.inr hl)
   refine wpAny_mono (hs ea (X.pn ++ pins) [] s₇ _ _ (D.un i) I₇ (hk ea hv.w f.free σ' I₆.len)) (λ fw s₈ hsp => ?_) (λ _ _ z => z.elim)
   have unb : ∀ {σ8 : St} {H8 : Hp} {Q : Shared -> Prop}, Inv (X.alt (X.A.mark (some (.ref ea))) false (X.pn ++ pins) λ _ _ => False) [] σ8 H8 s₈ -> (∀ s9, Inv X pins (σ8.set i none) H8 s9 -> Q s9) ->
    wpAny (model X.prog X.w) X.A (do bindName X.env n .none; unbindBehindTheSuite X.env n pos) (λ _ s9 => Q s9) X.xe s₈ := λ {σ8 H8 Q} I8 k => by
    have I8 : Inv X pins σ8 H8 s₈ := I8.unalt ok sub2
    obtain ⟨m, hn, hlook⟩ := id I8.loc
    exact wpAny_nameGoes_keeps hl hn (by rw [ok.kind]; rfl) λ h' v hns hsm => k _ (I8.unbound hN hi hlook hns hsm)
   cases fw with
   | next => obtain ⟨σ8, H8, I8, q⟩ := hsp; exact unb I8 λ s9 I9 => ⟨_, _, I9, q⟩
   | brk => obtain ⟨σ8, H8, I8, q⟩ := hsp; exact unb I8 λ s9 I9 => ⟨_, _, I9, q⟩
   | cont => obtain ⟨σ8, H8, I8, q⟩ := hsp; exact unb I8 λ s9 I9 => ⟨_, _, I9, q⟩
   | ret u => obtain ⟨v, σ8, H8, I8, r, q⟩ := hsp; exact unb I8 λ s9 I9 => ⟨v, _, _, I9, r, q⟩
 · cases f with
   | next =>
    obtain ⟨σ8, H8, I8, q⟩ := hf
    exact wP ⟨_, _, I8.unalt ok sub2, q⟩
   | brk => obtain ⟨σ8, H8, I8, q⟩ := hf; exact ⟨_, _, I8.unalt ok sub2, q⟩
   | cont => obtain ⟨σ8, H8, I8, q⟩ := hf; exact ⟨_, _, I8.unalt ok sub2, q⟩
   | ret u => obtain ⟨v, σ8, H8, I8, r, q⟩ := hf; exact ⟨v, _, _, I8.unalt ok sub2, r, q⟩
 · exact he
end
end L2
namespace GC
noncomputable def am : List Int -> List Int -> Nat
 | _, [] => 0
 | u, c :: g => if c ∈ u then am (u.erase c) g + 1 else am u g
theorem j2 : ∀ g : List Int, am [] g = 0
 | [] => rfl
 | c :: g => by unfold am; rw [if_neg (by simp), j2 g]
theorem gO {u u' : List Int} (g : List Int) (h : u.Perm u') : am u g = am u' g := by
 induction g generalizing u u' with
 | nil => rfl
 | cons c g ih =>
  unfold am
  by_cases m : c ∈ u
  · rw [if_pos m, if_pos (h.mem_iff.mp m), ih (h.erase c)]
  · rw [if_neg m, if_neg (λ x => m (h.mem_iff.mpr x)), ih h]
theorem vW (u : List Int) (a b : Int) (g : List Int) : am u (a :: b :: g) = am u (b :: a :: g) := by
 by_cases e : a = b
 · subst e; rfl
 · have e' : b ≠ a := λ z => e z.symm
   have m1 : b ∈ u.erase a ↔ b ∈ u := List.mem_erase_of_ne e'
   have m2 : a ∈ u.erase b ↔ a ∈ u := List.mem_erase_of_ne e
   unfold am
   unfold am
   by_cases ha : a ∈ u <;> by_cases hb : b ∈ u
   · simp only [ha, hb, m1, m2, if_true]
     rw [List.erase_comm]
   · simp only [ha, hb, m1, m2, if_true, if_false]
   · simp only [ha, hb, m1, m2, if_true, if_false]
   · simp only [ha, hb, m1, m2, if_false]
theorem mz {u : List Int} {c : Int} {g g' : List Int} (h : ∀ u, am u g = am u g') : am u (c :: g) = am u (c :: g') := by
 unfold am
 rw [h, h]
theorem fO {g g' : List Int} (h : g.Perm g') : ∀ u, am u g = am u g' := by
 induction h with
 | nil => intro u; rfl
 | cons x _ ih => intro u; exact mz ih
 | swap x y l => intro u; exact vW u y x l
 | trans _ _ ih1 ih2 => intro u; rw [ih1, ih2]
theorem km {c : Int} : ∀ (u g : List Int), c ∉ u -> am (c :: g) u = am g u
 | [], g, _ => rfl
 | x :: u, g, h => by
  have hx : x ≠ c := λ e => h (by simp [e])
  have hu : c ∉ u := λ z => h (nv _ z)
  have m : x ∈ c :: g ↔ x ∈ g := by simp [hx]
  unfold am
  by_cases hg : x ∈ g
  · rw [if_pos (m.mpr hg), if_pos hg, List.erase_cons_tail (by simpa using hx.symm), km u _ hu]
  · rw [if_neg (λ z => hg (m.mp z)), if_neg hg, km u _ hu]
theorem ox (c : Int) (u g : List Int) : am (c :: u) (c :: g) = am u g + 1 := by
 show (if c ∈ c :: u then am ((c :: u).erase c) g + 1 else am (c :: u) g) = _
 rw [if_pos (by simp), List.erase_cons_head]
theorem ik : ∀ (g u : List Int), am u g = am g u
 | [], u => by rw [j2]; rfl
 | c :: g, u => by
  by_cases h : c ∈ u
  · show (if c ∈ u then am (u.erase c) g + 1 else am u g) = _
    rw [if_pos h, ik g, fO (List.perm_cons_erase h) (c :: g), ox]
  · show (if c ∈ u then am (u.erase c) g + 1 else am u g) = _
    rw [if_neg h, km u g h, ik g]
theorem qz : ∀ (e u g : List Int), am (e ++ u) (e ++ g) = e.length + am u g
 | [], u, g => by simp
 | c :: e, u, g => by
  rw [Q7, Q7, ox, qz e u g, zC]
  omega
theorem gn : ∀ (u g : List Int), am u g <= g.length
 | _, [] => Q2 _
 | u, c :: g => by
  unfold am
  split
  · have := gn (u.erase c) g; simp; omega
  · have := gn u g; simp; omega
noncomputable def left : List Int -> List Int -> List Int
 | u, [] => u
 | u, c :: g => if c ∈ u then left (u.erase c) g else left u g
theorem jr (c : Int) : ∀ (g u : List Int), left u (g ++ [c]) = if c ∈ left u g then (left u g).erase c else left u g
 | [], u => rfl
 | d :: g, u => by
  show (if d ∈ u then left (u.erase d) (g ++ [c]) else left u (g ++ [c])) = if c ∈ (if d ∈ u then left (u.erase d) g else left u g) then (if d ∈ u then left (u.erase d) g else left u g).erase c else (if d ∈ u then left (u.erase d) g else left u g)
  by_cases m : d ∈ u
  · simp only [if_pos m]; exact jr c g _
  · simp only [if_neg m]; exact jr c g _
theorem il (c : Int) : ∀ (g u : List Int), am u (g ++ [c]) = am u g + if c ∈ left u g then 1 else 0
 | [], u => by
  show (if c ∈ u then 0 + 1 else 0) = 0 + if c ∈ u then 1 else 0
  by_cases m : c ∈ u <;> simp [m]
 | d :: g, u => by
  show (if d ∈ u then am (u.erase d) (g ++ [c]) + 1 else am u (g ++ [c])) = (if d ∈ u then am (u.erase d) g + 1 else am u g) + if c ∈ (if d ∈ u then left (u.erase d) g else left u g) then 1 else 0
  by_cases m : d ∈ u
  · simp only [if_pos m]; rw [il c g]; omega
  · simp only [if_neg m]; exact il c g _
noncomputable def jt : List Int -> List Int -> Nat
 | a :: x, b :: y => (if a = b then 1 else 0) + jt x y
 | _, _ => 0
noncomputable def DU : List Int -> List Int -> List Int
 | a :: x, b :: y => if a = b then a :: DU x y else DU x y
 | _, _ => []
noncomputable def bj : List Int -> List Int -> List Int
 | a :: x, b :: y => if a = b then bj x y else a :: bj x y
 | _, _ => []
noncomputable def cw : List Int -> List Int -> List Int
 | a :: x, b :: y => if a = b then cw x y else b :: cw x y
 | _, _ => []
theorem cM {i : Nat} {b : List Int} (h : i < b.length) : b.take (i + 1) = b.take i ++ [b[i]] := Ev h
theorem oy (c d : Int) : ∀ (x y : List Int), x.length = y.length -> jt (x ++ [c]) (y ++ [d]) = jt x y + if c = d then 1 else 0
 | [], [], _ => by simp [jt]
 | [], _ :: _, h => by simp at h
 | _ :: _, [], h => by simp at h
 | a :: x, b :: y, h => by
  show (if a = b then 1 else 0) + jt (x ++ [c]) (y ++ [d]) = (if a = b then 1 else 0) + jt x y + _
  rw [oy c d x y (by simpa using h)]
  omega
theorem rC (c d : Int) : ∀ (x y : List Int), x.length = y.length -> bj (x ++ [c]) (y ++ [d]) = bj x y ++ if c = d then [] else [c]
 | [], [], _ => by simp [bj]
 | [], _ :: _, h => by simp at h
 | _ :: _, [], h => by simp at h
 | a :: x, b :: y, h => by
  show (if a = b then bj (x ++ [c]) (y ++ [d]) else a :: bj (x ++ [c]) (y ++ [d])) = (if a = b then bj x y else a :: bj x y) ++ _
  rw [rC c d x y (by simpa using h)]
  by_cases e : a = b <;> simp [e]
theorem rE (c d : Int) : ∀ (x y : List Int), x.length = y.length -> cw (x ++ [c]) (y ++ [d]) = cw x y ++ if c = d then [] else [d]
 | [], [], _ => by simp [cw]
 | [], _ :: _, h => by simp at h
 | _ :: _, [], h => by simp at h
 | a :: x, b :: y, h => by
  show (if a = b then cw (x ++ [c]) (y ++ [d]) else b :: cw (x ++ [c]) (y ++ [d])) = (if a = b then cw x y else b :: cw x y) ++ _
  rw [rE c d x y (by simpa using h)]
  by_cases e : a = b <;> simp [e]
theorem sK : ∀ x y : List Int, (DU x y).length = jt x y
 | [], _ => rfl
 | _ :: _, [] => rfl
 | a :: x, b :: y => by
  unfold DU jt
  by_cases h : a = b
  · rw [if_pos h, if_pos h, zC, sK x y]; omega
  · rw [if_neg h, if_neg h, sK x y]; omega
theorem rF : ∀ x y : List Int, x.length = y.length -> x.Perm (DU x y ++ bj x y)
 | [], [], _ => .nil
 | [], _ :: _, h => by simp at h
 | _ :: _, [], h => by simp at h
 | a :: x, b :: y, h => by
  have ih := rF x y (by simpa using h)
  unfold DU bj
  by_cases e : a = b
  · rw [if_pos e, if_pos e, Q7]; exact ih.cons a
  · rw [if_neg e, if_neg e]; exact (ih.cons a).trans List.perm_middle.symm
theorem rG : ∀ x y : List Int, x.length = y.length -> y.Perm (DU x y ++ cw x y)
 | [], [], _ => .nil
 | [], _ :: _, h => by simp at h
 | _ :: _, [], h => by simp at h
 | a :: x, b :: y, h => by
  have ih := rG x y (by simpa using h)
  unfold DU cw
  by_cases e : a = b
  · rw [if_pos e, if_pos e, Q7, <- e]; exact ih.cons a
  · rw [if_neg e, if_neg e]; exact (ih.cons b).trans List.perm_middle.symm
noncomputable def qQ (h g : List Int) : List Int := [(jt h g : Int), (am h g : Int) - (jt h g : Int)]
noncomputable def ee (h g : List Int) : List Int := [(jt h g : Int), (am (cw h g) (bj h g) : Int)]
theorem tj {h g : List Int} (l : h.length = g.length) : am h g = jt h g + am (bj h g) (cw h g) := by
 rw [gO g (rF h g l), fO (rG h g l), qz, sK]
theorem CG {h g : List Int} (l : h.length = g.length) : qQ h g = ee h g := by
 unfold qQ ee
 rw [tj l, ik (bj h g) (cw h g)]
 congr 1
 congr 1
 have := ik (cw h g) (bj h g)
 omega
theorem AF : ∀ x y : List Int, x.length = y.length -> jt x y <= x.length
 | [], [], _ => Q2 _
 | [], _ :: _, h => by simp at h
 | _ :: _, [], h => by simp at h
 | a :: x, b :: y, h => by
  have := AF x y (by simpa using h)
  unfold jt
  split <;> simp <;> omega
theorem sL : ∀ x y : List Int, x.length = y.length -> (jt x y = x.length ↔ x = y)
 | [], [], _ => by simp [jt]
 | [], _ :: _, h => by simp at h
 | _ :: _, [], h => by simp at h
 | a :: x, b :: y, h => by
  have l : x.length = y.length := by simpa using h
  have ih := sL x y l
  have le := AF x y l
  unfold jt
  by_cases e : a = b
  · subst e
    rw [if_pos rfl, zC]
    constructor
    · intro q; rw [ih.mp (by omega)]
    · intro q; have := ih.mpr (List.cons.inj q).2; omega
  · rw [if_neg e, zC]
    constructor
    · intro q; omega
    · intro q; exact absurd (List.cons.inj q).1 e
theorem pA : ∀ x y : List Int, x.length = y.length -> jt x y + (bj x y).length = x.length
 | [], [], _ => rfl
 | [], _ :: _, h => by simp at h
 | _ :: _, [], h => by simp at h
 | a :: x, b :: y, h => by
  have ih := pA x y (by simpa using h)
  unfold jt bj
  split <;> simp <;> omega
theorem pB : ∀ x y : List Int, x.length = y.length -> (cw x y).length = (bj x y).length
 | [], [], _ => rfl
 | [], _ :: _, h => by simp at h
 | _ :: _, [], h => by simp at h
 | a :: x, b :: y, h => by
  have ih := pB x y (by simpa using h)
  unfold cw bj
  by_cases e : a = b
  · rw [if_pos e, if_pos e]; exact ih
  · rw [if_neg e, if_neg e, zC, zC, ih]
theorem rH : ∀ x y : List Int, x.length = y.length -> (bj x y).length = 1 -> am (cw x y) (bj x y) = 0
 | [], [], _, h => by simp [bj] at h
 | [], _ :: _, h, _ => by simp at h
 | _ :: _, [], h, _ => by simp at h
 | a :: x, b :: y, h, h1 => by
  have l : x.length = y.length := by simpa using h
  unfold bj at h1
  unfold cw bj
  by_cases e : a = b
  · rw [if_pos e] at h1
    rw [if_pos e, if_pos e]
    exact rH x y l h1
  · rw [if_neg e] at h1
    rw [if_neg e, if_neg e]
    have m0 : bj x y = [] := by
     cases q : bj x y with
     | nil => rfl
     | cons z r => rw [q] at h1; simp at h1
    have t0 : cw x y = [] := by
     have := pB x y l
     rw [m0] at this
     cases q : cw x y with
     | nil => rfl
     | cons z r => rw [q] at this; simp at this
    rw [m0, t0]
    unfold am
    rw [if_neg (by simpa using e)]
    rfl
theorem tm {h g : List Int} (l : h.length = g.length) : (jt h g : Int) + (am (cw h g) (bj h g) : Int) <= h.length /\ ee h g ≠ [(h.length : Int) - 1, 1] /\ (ee h g = [(h.length : Int), 0] ↔ h = g) := by
 have e1 := pA h g l
 have e2 := gn (cw h g) (bj h g)
 refine ⟨by omega, λ q => ?_, ?_, ?_⟩
 · unfold ee at q
   injection q with q1 q2
   injection q2 with q2 _
   have : (bj h g).length = 1 := by omega
   have := rH h g l this
   omega
 · intro q
   unfold ee at q
   injection q with q1 _
   exact (sL h g l).mp (by omega)
 · intro q
   subst q
   have : jt h h = h.length := (sL h h rfl).mpr rfl
   unfold ee
   have : am (cw h h) (bj h h) = 0 := by omega
   rw [this]
   congr 1
   omega
end GC
namespace DL
open PySem PySem.Spec PyProof.Rows L2
noncomputable abbrev St := L2.St
noncomputable def kD : i9 -> PyData
 | .inl i => .int i
 | .inr x => .str x
noncomputable def iO (ns : List Int) : PyData := .dict [(.none, .list (ns.map .int))]
mutual
noncomputable def Is (K : Fg) (H : Hp) (x : V) : PyData -> Prop
 | .none => x = .non
 | .bool b => x = .bl b
 | .int i => x = .int i
 | .str y => x = .str y
 | .list ds => ∃ a xs, x = .ref a /\ H a = some (.lst xs) /\ Are K H xs ds
 | .tuple ds => ∃ a xs, x = .ref a /\ H a = some (.tup xs) /\ Are K H xs ds
 | .dict kvs => ∃ a, x = .ref a /\ ((∃ ns : List Int, kvs = [(.none, .list (ns.map .int))] /\ SqL K H a (ns.map V.int)) \/ (∃ m, H a = some (.dT m) /\ Kvs K H m kvs) \/ (∃ nm : Str, kvs = [(.bool true, .str nm)] /\ PySem.W.nsIn K mainGlobals nm = some (some (.ref a))) \/ ∃ m, H a = some (.dK m) /\ KvsS K H m kvs)
noncomputable def Are (K : Fg) (H : Hp) (xs : List V) : List PyData -> Prop
 | [] => xs = []
 | d :: ds => ∃ x r, xs = x :: r /\ Is K H x d /\ Are K H r ds
noncomputable def Kvs (K : Fg) (H : Hp) (m : List (List i9 × V)) : List (PyData × PyData) -> Prop
 | [] => m = []
 | p :: r => ∃ q m', m = q :: m' /\ Kv K H q p /\ Kvs K H m' r
noncomputable def Kv (K : Fg) (H : Hp) (q : List i9 × V) : PyData × PyData -> Prop
 | (k, d) => k = .tuple (q.1.map kD) /\ Is K H q.2 d
noncomputable def KvsS (K : Fg) (H : Hp) (m : List (i9 × V)) : List (PyData × PyData) -> Prop
 | [] => False
 | p :: r => p = (.none, .none) /\ KvsI K H m r
noncomputable def KvsI (K : Fg) (H : Hp) (m : List (i9 × V)) : List (PyData × PyData) -> Prop
 | [] => m = []
 | p :: r => ∃ q m', m = q :: m' /\ KvI K H q p /\ KvsI K H m' r
noncomputable def KvI (K : Fg) (H : Hp) (q : i9 × V) : PyData × PyData -> Prop
 | (k, d) => k = kD q.1 /\ Is K H q.2 d
end
mutual
theorem Is.same {K : Fg} {H H' : Hp} (s : Same H H') : ∀ {x : V} (d : PyData), Is K H x d -> Is K H' x d
 | _, .none, h => h
 | _, .bool _, h => h
 | _, .int _, h => h
 | _, .str _, h => h
 | _, .list ds, h => by
  obtain ⟨a, xs, e, q, r⟩ := h
  exact ⟨a, xs, e, s _ _ q, Are.same s ds r⟩
 | _, .tuple ds, h => by
  obtain ⟨a, xs, e, q, r⟩ := h
  exact ⟨a, xs, e, s _ _ q, Are.same s ds r⟩
 | _, .dict kvs, h => by
  obtain ⟨a, e, h⟩ := h
  rcases h with ⟨ns, e1, q⟩ | ⟨m, q, r⟩ | q
  · exact ⟨a, e, .inl ⟨ns, e1, s.seq q⟩⟩
  · exact ⟨a, e, .inr (.inl ⟨m, s _ _ q, Kvs.same s kvs r⟩)⟩
  · rcases q with q | ⟨m, q, r⟩
    · exact ⟨a, e, .inr (.inr (.inl q))⟩
    · exact ⟨a, e, .inr (.inr (.inr ⟨m, s _ _ q, KvsS.same s kvs r⟩))⟩
theorem Are.same {K : Fg} {H H' : Hp} (s : Same H H') : ∀ {xs : List V} (ds : List PyData), Are K H xs ds -> Are K H' xs ds
 | _, [], h => h
 | _, d :: ds, h => by
  obtain ⟨x, r, e, q, t⟩ := h
  exact ⟨x, r, e, Is.same s d q, Are.same s ds t⟩
theorem Kvs.same {K : Fg} {H H' : Hp} (s : Same H H') : ∀ {m : List (List i9 × V)} (kvs : List (PyData × PyData)), Kvs K H m kvs -> Kvs K H' m kvs
 | _, [], h => h
 | _, p :: r, h => by
  obtain ⟨q, m', e, h1, h2⟩ := h
  exact ⟨q, m', e, Kv.same s p h1, Kvs.same s r h2⟩
theorem Kv.same {K : Fg} {H H' : Hp} (s : Same H H') : ∀ {q : List i9 × V} (p : PyData × PyData), Kv K H q p -> Kv K H' q p
 | _, (k, d), h => ⟨h.1, Is.same s d h.2⟩
theorem KvsS.same {K : Fg} {H H' : Hp} (s : Same H H') : ∀ {m : List (i9 × V)} (kvs : List (PyData × PyData)), KvsS K H m kvs -> KvsS K H' m kvs
 | _, [], h => h
 | _, p :: r, h => ⟨h.1, KvsI.same s r h.2⟩
theorem KvsI.same {K : Fg} {H H' : Hp} (s : Same H H') : ∀ {m : List (i9 × V)} (kvs : List (PyData × PyData)), KvsI K H m kvs -> KvsI K H' m kvs
 | _, [], h => h
 | _, p :: r, h => by
  obtain ⟨q, m', e, h1, h2⟩ := h
  exact ⟨q, m', e, KvI.same s p h1, KvsI.same s r h2⟩
theorem KvI.same {K : Fg} {H H' : Hp} (s : Same H H') : ∀ {q : i9 × V} (p : PyData × PyData), KvI K H q p -> KvI K H' q p
 | _, (k, d), h => ⟨h.1, Is.same s d h.2⟩
end
def DcO (K : Fg) (F : Hp) (o : HO) (kvs : List (PyData × PyData)) : Prop := (∃ m, o = .dT m /\ Kvs K F m kvs) \/ ∃ m, o = .dK m /\ KvsS K F m kvs
theorem DcO.same {K : Fg} {F F' : Hp} {o : HO} {kvs : List (PyData × PyData)} (s : Same F F') (h : DcO K F o kvs) : DcO K F' o kvs :=
 h.imp (λ ⟨m, e, q⟩ => ⟨m, e, Kvs.same s _ q⟩) λ ⟨m, e, q⟩ => ⟨m, e, KvsS.same s _ q⟩
theorem DcO.ntup {K : Fg} {F : Hp} {o : HO} {kvs : List (PyData × PyData)} (h : DcO K F o kvs) : ∀ xs, o ≠ .tup xs := λ xs z => by
 subst z
 rcases h with ⟨_, e, _⟩ | ⟨_, e, _⟩ <;> cases e
theorem DcO.nlst {K : Fg} {F : Hp} {o : HO} {kvs : List (PyData × PyData)} (h : DcO K F o kvs) : ∀ xs, o ≠ .lst xs := λ xs z => by
 subst z
 rcases h with ⟨_, e, _⟩ | ⟨_, e, _⟩ <;> cases e
theorem DcO.is {K : Fg} {F : Hp} {o : HO} {kvs : List (PyData × PyData)} {a : Addr} (h : DcO K F o kvs) (e : F a = some o) : Is K F (.ref a) (.dict kvs) := by
 rcases h with ⟨m, rfl, q⟩ | ⟨m, rfl, q⟩
 · exact ⟨a, rfl, .inr (.inl ⟨m, e, q⟩)⟩
 · exact ⟨a, rfl, .inr (.inr (.inr ⟨m, e, q⟩))⟩
theorem Are.length {K : Fg} {H : Hp} : ∀ {xs : List V} {ds : List PyData}, Are K H xs ds -> xs.length = ds.length
 | _, [], h => by rw [show _ = [] from h]; rfl
 | _, d :: ds, h => by
  obtain ⟨x, r, e, q, t⟩ := h
  rw [e, zC, zC, Are.length t]
theorem Are.get {K : Fg} {H : Hp} : ∀ {xs : List V} {ds : List PyData} {i : Nat} {d : PyData}, Are K H xs ds -> ds[i]? = some d -> ∃ x, xs[i]? = some x /\ Is K H x d
 | _, [], _, _, _, e => by simp at e
 | _, d :: ds, 0, _, h, e => by
  obtain ⟨x, r, e', q, t⟩ := h
  simp at e; subst e; rw [e']
  exact ⟨x, rfl, q⟩
 | _, d :: ds, i + 1, d', h, e => by
  obtain ⟨x, r, e', q, t⟩ := h
  obtain ⟨y, h1, h2⟩ := Are.get (i := i) (d := d') t (by simpa using e)
  rw [e']
  exact ⟨y, by simpa using h1, h2⟩
theorem Are.append {K : Fg} {H : Hp} : ∀ {xs ys : List V} {ds es : List PyData}, Are K H xs ds -> Are K H ys es -> Are K H (xs ++ ys) (ds ++ es)
 | _, ys, [], es, h, h' => by rw [show _ = [] from h]; exact h'
 | _, ys, d :: ds, es, h, h' => by
  obtain ⟨x, r, e, q, t⟩ := h
  subst e
  exact ⟨x, r ++ ys, rfl, q, Are.append t h'⟩
theorem Are.one {K : Fg} {H : Hp} {x : V} {d : PyData} (h : Is K H x d) : Are K H [x] [d] := ⟨x, [], rfl, h, rfl⟩
theorem Are.drop {K : Fg} {H : Hp} : ∀ (n : Nat) {xs : List V} {ds : List PyData}, Are K H xs ds -> Are K H (xs.drop n) (ds.drop n)
 | 0, _, _, h => h
 | n + 1, _, [], h => by rw [show _ = [] from h]; exact rfl
 | n + 1, _, d :: ds, h => by
  obtain ⟨x, r, e, q, t⟩ := h
  subst e
  exact Are.drop n t
theorem Are.take {K : Fg} {H : Hp} : ∀ (n : Nat) {xs : List V} {ds : List PyData}, Are K H xs ds -> Are K H (xs.take n) (ds.take n)
 | 0, _, _, h => rfl
 | n + 1, _, [], h => by rw [show _ = [] from h]; exact rfl
 | n + 1, _, d :: ds, h => by
  obtain ⟨x, r, e, q, t⟩ := h
  subst e
  exact ⟨x, r.take n, rfl, q, Are.take n t⟩
theorem Are.ints {K : Fg} {H : Hp} : ∀ {ns : List Int} {xs : List V}, Are K H xs (ns.map PyData.int) ↔ xs = ns.map V.int
 | [], xs => Iff.rfl
 | n :: ns, xs => by
  constructor
  · intro h
    obtain ⟨x, r, e, q, t⟩ := h
    rw [e, show x = V.int n from q, (Are.ints (ns := ns)).mp t]; rfl
  · intro e
    subst e
    exact ⟨_, _, rfl, rfl, (Are.ints (ns := ns)).mpr rfl⟩
theorem Are.bools {K : Fg} {H : Hp} : ∀ {ns : List Bool} {xs : List V}, Are K H xs (ns.map PyData.bool) ↔ xs = ns.map V.bl
 | [], xs => Iff.rfl
 | n :: ns, xs => by
  constructor
  · intro h
    obtain ⟨x, r, e, q, t⟩ := h
    rw [e, show x = V.bl n from q, (Are.bools (ns := ns)).mp t]; rfl
  · intro e
    subst e
    exact ⟨_, _, rfl, rfl, (Are.bools (ns := ns)).mpr rfl⟩
structure Grow (F H F' H' : Hp) : Prop where
 f : Same F F'
 s : Same F' H'
 h : Same H H'
 o : ∀ a o, H a = some o -> (∀ xs, o ≠ .tup xs) -> F a = none -> F' a = none
theorem Grow.refl {F H : Hp} (s : Same F H) : Grow F H F H := ⟨Same.refl _, s, Same.refl _, λ _ _ _ _ h => h⟩
theorem Grow.trans {F H F1 H1 F2 H2 : Hp} (a : Grow F H F1 H1) (b : Grow F1 H1 F2 H2) : Grow F H F2 H2 :=
 ⟨a.f.trans b.f, b.s, a.h.trans b.h, λ c o e t n => b.o c o (a.h c o e) t (a.o c o e t n)⟩
theorem AG {F H : Hp} {p : Addr} {o : HO} (s : Same F H) : Same (cZ F p o) (cZ H p o) := λ b u e => by
 by_cases hb : b = p
 · subst hb; rw [ae] at e ⊢; exact e
 · rw [aZ hb] at e ⊢; exact s b u e
theorem Grow.new {F H : Hp} {p : Addr} {o : HO} (s : Same F H) (hp : H p = none) : Grow F H (cZ F p o) (cZ H p o) :=
 ⟨bU (s.free hp) o, AG s, bU hp o, λ a u e t n => by rw [aZ (aU e hp)]; exact n⟩
theorem Grow.fresh {F H : Hp} {p : Addr} {o : HO} (s : Same F H) (hp : H p = none) : Grow F H F (cZ H p o) :=
 ⟨Same.refl _, s.trans (bU hp o), bU hp o, λ _ _ _ _ n => n⟩
theorem Grow.frz {F H F' H' : Hp} {p : Addr} {o : HO} (g : Grow F H F' H') (hp : H p = none) (hf : F' p = none) (hh : H' p = some o) : Grow F H (cZ F' p o) H' :=
 ⟨g.f.trans (bU hf o), λ b u e => by
  by_cases hb : b = p
  · subst hb; rw [ae] at e; rw [hh]; exact e
  · rw [aZ hb] at e; exact g.s b u e, g.h, λ a u e t n => by rw [aZ (aU e hp)]; exact g.o a u e t n⟩
inductive Sl where
 | fz (d : PyData)
 | ow (ds : List PyData)
 | od (kvs : List (PyData × PyData))
noncomputable abbrev aP := List (Option Sl)
noncomputable def FV : Expr -> Option Pos
 | .Call _ _ [kw] _ => match kw.value with
  | .Lambda _ _ _ pos => some pos
  | _ => none
 | _ => none
noncomputable def GM : Stmt -> Option Pos
 | .Return (some e) _ => FV e
 | .Assign _ e _ => FV e
 | _ => none
noncomputable def DV (fd : FuncData) : Option (Array Value) := match fd.body with
 | .stmts b => (b.findSome? GM).map λ pos => #[rawInt pos.line, rawInt pos.col, .str (fd.qualname ++ ".<locals>." ++ "<lambda>") 0]
 | _ => none
def FW (K : Fg) (a : Addr) (ps : Array Value) : Prop := ∃ (f : Addr) (oc : Value) (od : Option Addr) (fd : FuncData) (sl : Array (Option Value)) (c : Addr), K.lookup f = some ⟨oc, od, .func fd, sl⟩ /\ fd.code = .ref c /\ PySem.W.codeHdIn K c a = true /\ DV fd = some ps
def Tb (K : Fg) (F : Hp) : Prop := ∀ a ps, FW K a ps -> F a = some (.tbl ps)
theorem Tb.same {K : Fg} {F F' : Hp} (t : Tb K F) (s : Same F F') : Tb K F' := λ a ps h => s _ _ (t a ps h)
def tq (K : Fg) (F H : Hp) : Prop := Same F H /\ Tb K F
structure Rep (K : Fg) (H0 F0 F : Hp) (σ : St) (H : Hp) (δ : aP) : Prop where
 g : Grow F0 H0 F H
 len : σ.length = δ.length
 fz : ∀ (i : Nat) (d : PyData), δ[i]? = some (some (.fz d)) -> ∃ v, σ[i]? = some (some v) /\ Is K F v d
 ow : ∀ (i : Nat) (ds : List PyData), δ[i]? = some (some (.ow ds)) -> ∃ a xs, σ[i]? = some (some (.ref a)) /\ H a = some (.lst xs) /\ F a = none /\ H0 a = none /\ Are K F xs ds
 ap : ∀ (i j : Nat) (ds es : List PyData) (a : Addr), δ[i]? = some (some (.ow ds)) -> δ[j]? = some (some (.ow es)) -> σ[i]? = some (some (.ref a)) -> σ[j]? = some (some (.ref a)) -> i = j
 od : ∀ (i : Nat) (kvs : List (PyData × PyData)), δ[i]? = some (some (.od kvs)) -> ∃ a o, σ[i]? = some (some (.ref a)) /\ H a = some o /\ F a = none /\ H0 a = none /\ DcO K F o kvs
 ad : ∀ (i j : Nat) (ds es : List (PyData × PyData)) (a : Addr), δ[i]? = some (some (.od ds)) -> δ[j]? = some (some (.od es)) -> σ[i]? = some (some (.ref a)) -> σ[j]? = some (some (.ref a)) -> i = j
 tb : Tb K F
section
variable {K : Fg} {H0 F0 F F' : Hp} {σ : St} {H H' : Hp} {δ : aP}
theorem Rep.grow (R : Rep K H0 F0 F σ H δ) (g : Grow F H F' H') : Rep K H0 F0 F' σ H' δ where
 g := R.g.trans g
 len := R.len
 fz := λ i d e => let ⟨v, h1, h2⟩ := R.fz i d e; ⟨v, h1, h2.same g.f⟩
 ow := λ i ds e => let ⟨a, xs, h1, h2, h3, h4, h5⟩ := R.ow i ds e; ⟨a, xs, h1, g.h _ _ h2, g.o _ _ h2 (λ _ z => nomatch z) h3, h4, h5.same g.f⟩
 ap := R.ap
 od := λ i ds e => let ⟨a, m, h1, h2, h3, h4, h5⟩ := R.od i ds e; ⟨a, m, h1, g.h _ _ h2, g.o _ _ h2 h5.ntup h3, h4, h5.same g.f⟩
 ad := R.ad
 tb := R.tb.same g.f
theorem ay {α : Type} {l : List α} {i j : Nat} {x y : α} (h : (l.set i x)[j]? = some y) : (j = i /\ y = x) \/ (j ≠ i /\ l[j]? = some y) := by
 rw [List.getElem?_set] at h
 split at h
 · rename_i e
   split at h
   · exact .inl ⟨e.symm, (zV h).symm⟩
   · cases h
 · rename_i e
   exact .inr ⟨λ z => e z.symm, h⟩
theorem oM {α : Type} {l : List α} {i : Nat} {x : α} (h : i < l.length) : (l.set i x)[i]? = some x := by
 rw [List.getElem?_set, if_pos rfl, if_pos h]
theorem bO {α : Type} {l : List α} {i j : Nat} {x : α} (h : j ≠ i) : (l.set i x)[j]? = l[j]? := by
 rw [List.getElem?_set, if_neg (λ z => h z.symm)]
theorem iP {α : Type} {l : List α} {i : Nat} {x : α} (h : l[i]? = some x) : i < l.length := (yf.mp h).1
theorem Rep.set (R : Rep K H0 F0 F σ H δ) {i : Nat} {v : V} {d : PyData} (h : Is K F v d) : Rep K H0 F0 F (σ.set i (some v)) H (δ.set i (some (.fz d))) where
 g := R.g
 len := by rw [wa, wa]; exact R.len
 fz := λ j e q => by
  have hj := iP q
  rw [wa] at hj
  rcases ay q with ⟨rfl, z⟩ | ⟨n, q⟩
  · injection z with z
    injection z with z
    subst z
    exact ⟨v, oM (by rw [R.len]; exact hj), h⟩
  · rw [bO n]; exact R.fz j e q
 ow := λ j ds q => by
  rcases ay q with ⟨rfl, z⟩ | ⟨n, q⟩
  · cases z
  · rw [bO n]; exact R.ow j ds q
 ap := λ j k ds es a q1 q2 q3 q4 => by
  rcases ay q1 with ⟨rfl, z⟩ | ⟨n1, q1⟩
  · cases z
  · rcases ay q2 with ⟨rfl, z⟩ | ⟨n2, q2⟩
    · cases z
    · rw [bO n1] at q3
      rw [bO n2] at q4
      exact R.ap j k ds es a q1 q2 q3 q4
 od := λ j ds q => by
  rcases ay q with ⟨rfl, z⟩ | ⟨n, q⟩
  · cases z
  · rw [bO n]; exact R.od j ds q
 ad := λ j k ds es a q1 q2 q3 q4 => by
  rcases ay q1 with ⟨rfl, z⟩ | ⟨n1, q1⟩
  · cases z
  · rcases ay q2 with ⟨rfl, z⟩ | ⟨n2, q2⟩
    · cases z
    · rw [bO n1] at q3
      rw [bO n2] at q4
      exact R.ad j k ds es a q1 q2 q3 q4
 tb := R.tb
theorem Rep.setO (R : Rep K H0 F0 F σ H δ) {i : Nat} {a : Addr} {xs : List V} {ds : List PyData} (ha : H a = some (.lst xs)) (hf : F a = none) (h0 : H0 a = none) (h : Are K F xs ds)
 (hn : ∀ j es, j ≠ i -> δ[j]? = some (some (.ow es)) -> σ[j]? ≠ some (some (.ref a))) : Rep K H0 F0 F (σ.set i (some (.ref a))) H (δ.set i (some (.ow ds))) where
 g := R.g
 len := by rw [wa, wa]; exact R.len
 fz := λ j e q => by
  rcases ay q with ⟨rfl, z⟩ | ⟨n, q⟩
  · cases z
  · rw [bO n]; exact R.fz j e q
 ow := λ j es q => by
  have hj := iP q
  rw [wa] at hj
  rcases ay q with ⟨rfl, z⟩ | ⟨n, q⟩
  · injection z with z
    injection z with z
    subst z
    exact ⟨a, xs, oM (by rw [R.len]; exact hj), ha, hf, h0, h⟩
  · rw [bO n]; exact R.ow j es q
 ap := λ j k ds' es' b q1 q2 q3 q4 => by
  have hj := iP q1
  have hk := iP q2
  rw [wa] at hj hk
  rcases ay q1 with ⟨ej, z⟩ | ⟨n1, p1⟩
  · rcases ay q2 with ⟨ek, z2⟩ | ⟨n2, p2⟩
    · rw [ej, ek]
    · rw [ej, oM (by rw [R.len, <- ej]; exact hj)] at q3
      rw [bO n2] at q4
      cases q3
      exact absurd q4 (hn k es' n2 p2)
  · rcases ay q2 with ⟨ek, z⟩ | ⟨n2, p2⟩
    · rw [ek, oM (by rw [R.len, <- ek]; exact hk)] at q4
      rw [bO n1] at q3
      cases q4
      exact absurd q3 (hn j ds' n1 p1)
    · rw [bO n1] at q3
      rw [bO n2] at q4
      exact R.ap j k ds' es' b p1 p2 q3 q4
 od := λ j ds q => by
  rcases ay q with ⟨rfl, z⟩ | ⟨n, q⟩
  · cases z
  · rw [bO n]; exact R.od j ds q
 ad := λ j k ds es a q1 q2 q3 q4 => by
  rcases ay q1 with ⟨rfl, z⟩ | ⟨n1, q1⟩
  · cases z
  · rcases ay q2 with ⟨rfl, z⟩ | ⟨n2, q2⟩
    · cases z
    · rw [bO n1] at q3
      rw [bO n2] at q4
      exact R.ad j k ds es a q1 q2 q3 q4
 tb := R.tb
theorem Rep.mut (R : Rep K H0 F0 F σ H δ) {i : Nat} {a : Addr} {xs : List V} {es ds : List PyData} (e : δ[i]? = some (some (.ow es))) (hs : σ[i]? = some (some (.ref a))) (hf : F a = none) (h0 : H0 a = none) (h : Are K F xs ds) :
 Rep K H0 F0 F σ (cZ H a (.lst xs)) (δ.set i (some (.ow ds))) where
 g := ⟨R.g.f, λ b u q => by rw [aZ (aU q hf)]; exact R.g.s b u q, λ b u q => by rw [aZ (aU q h0)]; exact R.g.h b u q, R.g.o⟩
 len := by rw [wa]; exact R.len
 fz := λ j d q => by
  rcases ay q with ⟨rfl, z⟩ | ⟨n, q⟩
  · cases z
  · exact R.fz j d q
 ow := λ j us q => by
  rcases ay q with ⟨rfl, z⟩ | ⟨n, q⟩
  · injection z with z
    injection z with z
    subst z
    exact ⟨a, xs, hs, ae, hf, h0, h⟩
  · obtain ⟨b, ys, q1, q2, q3, q4, q5⟩ := R.ow j us q
    have nb : b ≠ a := λ z => by subst z; exact n (R.ap j i us es b q e q1 hs)
    exact ⟨b, ys, q1, by rw [aZ nb]; exact q2, q3, q4, q5⟩
 ap := λ j k ds' es' b q1 q2 q3 q4 => by
  have f : ∀ {m : Nat} {us : List PyData}, (δ.set i (some (Sl.ow ds)))[m]? = some (some (Sl.ow us)) -> ∃ us' : List PyData, δ[m]? = some (some (Sl.ow us')) := λ {m us} q => by
   rcases ay q with ⟨em, z⟩ | ⟨n, q⟩
   · exact ⟨es, by rw [em]; exact e⟩
   · exact ⟨us, q⟩
  obtain ⟨u1, p1⟩ := f q1
  obtain ⟨u2, p2⟩ := f q2
  exact R.ap j k u1 u2 b p1 p2 q3 q4
 od := λ j us q => by
  rcases ay q with ⟨rfl, z⟩ | ⟨n, q⟩
  · cases z
  · obtain ⟨b, m, q1, q2, q3, q4, q5⟩ := R.od j us q
    have nb : b ≠ a := λ z => by
     subst z
     obtain ⟨b2, ys, w1, w2, _⟩ := R.ow i es e
     rw [hs] at w1
     cases w1
     rw [q2] at w2
     exact q5.nlst _ (zV w2)
    exact ⟨b, m, q1, by rw [aZ nb]; exact q2, q3, q4, q5⟩
 ad := λ j k ds' es' b q1 q2 q3 q4 => by
  rcases ay q1 with ⟨rfl, z⟩ | ⟨n1, q1⟩
  · cases z
  · rcases ay q2 with ⟨rfl, z⟩ | ⟨n2, q2⟩
    · cases z
    · exact R.ad j k ds' es' b q1 q2 q3 q4
 tb := R.tb
noncomputable def frz (i : Nat) (δ : aP) : aP := match δ[i]? with
 | some (some (.ow ds)) => δ.set i (some (.fz (.list ds)))
 | some (some (.od kvs)) => δ.set i (some (.fz (.dict kvs)))
 | _ => δ
theorem Rep.frz (R : Rep K H0 F0 F σ H δ) (i : Nat) : ∃ F', Same F F' /\ Rep K H0 F0 F' σ H (frz i δ) := by
 unfold DL.frz
 split
 · rename_i ds e
   obtain ⟨a, xs, q1, q2, q3, q4, q5⟩ := R.ow i ds e
   have g := R.g.frz (p := a) (o := .lst xs) q4 q3 q2
   have sF : Same F (cZ F a (.lst xs)) := bU q3 _
   refine ⟨cZ F a (.lst xs), sF, g, by rw [wa]; exact R.len, λ j d q => ?_, λ j us q => ?_, λ j k ds' es' b p1 p2 p3 p4 => ?_, λ j us q => ?_, λ j k ds' es' b p1 p2 p3 p4 => ?_, R.tb.same sF⟩
   · rcases ay q with ⟨rfl, z⟩ | ⟨n, q⟩
     · injection z with z
       injection z with z
       subst z
       exact ⟨.ref a, q1, a, xs, rfl, ae, q5.same sF⟩
     · obtain ⟨v, h1, h2⟩ := R.fz j d q
       exact ⟨v, h1, h2.same sF⟩
   · rcases ay q with ⟨rfl, z⟩ | ⟨n, q⟩
     · cases z
     · obtain ⟨b, ys, h1, h2, h3, h4, h5⟩ := R.ow j us q
       have nb : b ≠ a := λ z => by subst z; exact n (R.ap j i us ds b q e h1 q1)
       exact ⟨b, ys, h1, h2, by rw [aZ nb]; exact h3, h4, h5.same sF⟩
   · rcases ay p1 with ⟨rfl, z⟩ | ⟨n1, p1⟩
     · cases z
     · rcases ay p2 with ⟨rfl, z⟩ | ⟨n2, p2⟩
       · cases z
       · exact R.ap j k ds' es' b p1 p2 p3 p4
   · rcases ay q with ⟨rfl, z⟩ | ⟨n, q⟩
     · cases z
     · obtain ⟨b, m, h1, h2, h3, h4, h5⟩ := R.od j us q
       have nb : b ≠ a := λ z => by
        subst z
        rw [q2] at h2
        exact h5.nlst _ (zV h2).symm
       exact ⟨b, m, h1, h2, by rw [aZ nb]; exact h3, h4, h5.same sF⟩
   · rcases ay p1 with ⟨rfl, z⟩ | ⟨n1, p1⟩
     · cases z
     · rcases ay p2 with ⟨rfl, z⟩ | ⟨n2, p2⟩
       · cases z
       · exact R.ad j k ds' es' b p1 p2 p3 p4
 · rename_i kvs e
   obtain ⟨a, m, q1, q2, q3, q4, q5⟩ := R.od i kvs e
   have g := R.g.frz (p := a) (o := m) q4 q3 q2
   have sF : Same F (cZ F a m) := bU q3 _
   refine ⟨cZ F a m, sF, g, by rw [wa]; exact R.len, λ j d q => ?_, λ j us q => ?_, λ j k ds' es' b p1 p2 p3 p4 => ?_, λ j us q => ?_, λ j k ds' es' b p1 p2 p3 p4 => ?_, R.tb.same sF⟩
   · rcases ay q with ⟨rfl, z⟩ | ⟨n, q⟩
     · injection z with z
       injection z with z
       subst z
       exact ⟨.ref a, q1, (q5.same sF).is ae⟩
     · obtain ⟨v, h1, h2⟩ := R.fz j d q
       exact ⟨v, h1, h2.same sF⟩
   · rcases ay q with ⟨rfl, z⟩ | ⟨n, q⟩
     · cases z
     · obtain ⟨b, ys, h1, h2, h3, h4, h5⟩ := R.ow j us q
       have nb : b ≠ a := λ z => by
        subst z
        rw [q2] at h2
        exact q5.nlst _ (zV h2)
       exact ⟨b, ys, h1, h2, by rw [aZ nb]; exact h3, h4, h5.same sF⟩
   · rcases ay p1 with ⟨rfl, z⟩ | ⟨n1, p1⟩
     · cases z
     · rcases ay p2 with ⟨rfl, z⟩ | ⟨n2, p2⟩
       · cases z
       · exact R.ap j k ds' es' b p1 p2 p3 p4
   · rcases ay q with ⟨rfl, z⟩ | ⟨n, q⟩
     · cases z
     · obtain ⟨b, m2, h1, h2, h3, h4, h5⟩ := R.od j us q
       have nb : b ≠ a := λ z => by subst z; exact n (R.ad j i us kvs b q e h1 q1)
       exact ⟨b, m2, h1, h2, by rw [aZ nb]; exact h3, h4, h5.same sF⟩
   · rcases ay p1 with ⟨rfl, z⟩ | ⟨n1, p1⟩
     · cases z
     · rcases ay p2 with ⟨rfl, z⟩ | ⟨n2, p2⟩
       · cases z
       · exact R.ad j k ds' es' b p1 p2 p3 p4
 · exact ⟨F, Same.refl _, R⟩
theorem Rep.weak (R : Rep K H0 F0 F σ H δ) {δ' : aP} (l : δ'.length = δ.length) (w : ∀ (i : Nat) s, δ'[i]? = some (some s) -> δ[i]? = some (some s)) : Rep K H0 F0 F σ H δ' :=
 ⟨R.g, by rw [R.len, l], λ i d e => R.fz i d (w i _ e), λ i ds e => R.ow i ds (w i _ e), λ i j ds es a q1 q2 => R.ap i j ds es a (w i _ q1) (w j _ q2), λ i ds e => R.od i ds (w i _ e), λ i j ds es a q1 q2 => R.ad i j ds es a (w i _ q1) (w j _ q2), R.tb⟩
end
section
variable (K : Fg)
def SE (te : TE) (f : aP -> Option PyData) : Prop := ∀ (H0 F0 F : Hp) (σ : St) (H : Hp) (δ : aP) (d : PyData) (Q : VK), Rep K H0 F0 F σ H δ -> f δ = some d -> (∀ v H' F', Grow F H F' H' -> Is K F' v d -> Q v H') -> te σ H Q
def ST (tt : TT) (f : aP -> Option Bool) : Prop := ∀ (H0 F0 F : Hp) (σ : St) (H : Hp) (δ : aP) (b : Bool) (Q : Bool -> Hp -> Prop), Rep K H0 F0 F σ H δ -> f δ = some b -> (∀ H' F', Grow F H F' H' -> Q b H') -> tt σ H Q
def SA (ta : TA) (f : aP -> Option (List PyData)) : Prop := ∀ (H0 F0 F : Hp) (σ : St) (H : Hp) (δ : aP) (ds : List PyData) (Q : List V -> Hp -> Prop), Rep K H0 F0 F σ H δ -> f δ = some ds -> (∀ vs H' F', Grow F H F' H' -> Are K F' vs ds -> Q vs H') -> ta σ H Q
def SO (te : TE) (f : aP -> Option (List PyData)) : Prop := ∀ (H0 F0 F : Hp) (σ : St) (H : Hp) (δ : aP) (ds : List PyData) (Q : VK), Rep K H0 F0 F σ H δ -> f δ = some ds ->
 (∀ a xs H' F', Grow F H F' H' -> H a = none -> F' a = none -> H' a = some (.lst xs) -> Are K F' xs ds -> Q (.ref a) H') -> te σ H Q
def tO (r : R2) (g : PyData -> PyData -> Option PyData) : Prop := ∀ (F H : Hp) (x y : V) (dx dy d : PyData) (Q : VK), Same F H -> Is K F x dx -> Is K F y dy -> g dx dy = some d -> (∀ v H' F', Grow F H F' H' -> Is K F' v d -> Q v H') -> r x y H Q
def pC (r : List V -> Hp -> VK -> Prop) (g : List PyData -> Option PyData) : Prop := ∀ (F H : Hp) (xs : List V) (ds : List PyData) (d : PyData) (Q : VK), Same F H -> Are K F xs ds -> g ds = some d -> (∀ v H' F', Grow F H F' H' -> Is K F' v d -> Q v H') -> r xs H Q
end
noncomputable def aB (i : Nat) (δ : aP) : Option PyData := match δ[i]? with
 | some (some (.fz d)) => some d
 | _ => none
noncomputable def dC (d : PyData) (_ : aP) : Option PyData := some d
noncomputable def d2 (g : PyData -> PyData -> Option PyData) (fa fb : aP -> Option PyData) (δ : aP) : Option PyData := (fa δ).bind λ a => (fb δ).bind λ b => g a b
noncomputable def ai (g : List PyData -> Option PyData) (fs : aP -> Option (List PyData)) (δ : aP) : Option PyData := (fs δ).bind g
noncomputable def aH (_ : aP) : Option (List PyData) := some []
noncomputable def aA (f : aP -> Option PyData) (fs : aP -> Option (List PyData)) (δ : aP) : Option (List PyData) := (f δ).bind λ d => (fs δ).bind λ ds => some (d :: ds)
theorem bind_some {α β : Type} {x : Option α} {f : α -> Option β} {b : β} (h : x.bind f = some b) : ∃ a, x = some a /\ f a = some b := by
 cases x with
 | none => cases h
 | some a => exact ⟨a, rfl, h⟩
section
variable {K : Fg} {ta tb te : TE} {fa fb f : aP -> Option PyData}
theorem SO.se {fo : aP -> Option (List PyData)} (h : SO K te fo) : SE K te (λ δ => (fo δ).map PyData.list) := by
 intro H0 F0 F σ H δ d Q R e k
 obtain ⟨ds, e1, e2⟩ := Q3.mp e
 subst e2
 refine h H0 F0 F σ H δ ds Q R e1 λ a xs H' F' g h0 hf ha ar => ?_
 exact k (.ref a) H' _ (g.frz h0 hf ha) ⟨a, xs, rfl, ae, ar.same (bU hf _)⟩
theorem aG (i : Nat) : SE K (mj i) (aB i) := by
 intro H0 F0 F σ H δ d Q R e h
 unfold aB at e
 split at e
 · rename_i d' q
   cases e
   obtain ⟨v, hv, is⟩ := R.fz i d q
   exact ⟨v, hv, h v H F (Grow.refl R.g.s) is⟩
 · cases e
theorem CH {v : V} {d : PyData} (h : ∀ H, Is K H v d) : SE K (tC v) (dC d) := λ H0 F0 F σ H δ d' Q R e k => by
 cases e
 exact k v H F (Grow.refl R.g.s) (h F)
theorem aO {n : Int} : SE K (tC (.int n)) (dC (.int n)) := CH λ _ => rfl
theorem nX {b : Bool} : SE K (tC (.bl b)) (dC (.bool b)) := CH λ _ => rfl
theorem vX : SE K (tC .non) (dC .none) := CH λ _ => rfl
theorem sM {x : Str} : SE K (tC (.str x)) (dC (.str x)) := CH λ _ => rfl
theorem aW {r : R2} {g : PyData -> PyData -> Option PyData} (o : tO K r g) (a : SE K ta fa) (b : SE K tb fb) : SE K (Do r ta tb) (d2 g fa fb) := by
 intro H0 F0 F σ H δ d Q R e h
 obtain ⟨dx, ex, e⟩ := bind_some e
 obtain ⟨dy, ey, e⟩ := bind_some e
 refine a H0 F0 F σ H δ dx _ R ex λ v H1 F1 g1 i1 => b H0 F0 F1 σ H1 δ dy _ (R.grow g1) ey λ w H2 F2 g2 i2 => ?_
 exact o F2 H2 v w dx dy d Q g2.s (i1.same g2.f) i2 e λ v' H3 F3 g3 i3 => h v' H3 F3 (g1.trans (g2.trans g3)) i3
theorem aJ : SA K nw aH := λ H0 F0 F σ H δ ds Q R e h => by cases e; exact h [] H F (Grow.refl R.g.s) rfl
theorem aE {t : TA} {fs : aP -> Option (List PyData)} (a : SE K te f) (b : SA K t fs) : SA K (gS te t) (aA f fs) := by
 intro H0 F0 F σ H δ ds Q R e h
 obtain ⟨dx, ex, e⟩ := bind_some e
 obtain ⟨dy, ey, e⟩ := bind_some e
 cases e
 refine a H0 F0 F σ H δ dx _ R ex λ v H1 F1 g1 i1 => b H0 F0 F1 σ H1 δ dy _ (R.grow g1) ey λ vs H2 F2 g2 i2 => ?_
 exact h (v :: vs) H2 F2 (g1.trans g2) ⟨v, vs, rfl, i1.same g2.f, i2⟩
theorem ba {r : List V -> Hp -> VK -> Prop} {g : List PyData -> Option PyData} {t : TA} {fs : aP -> Option (List PyData)} (o : pC K r g) (a : SA K t fs) : SE K (Bq r t) (ai g fs) := by
 intro H0 F0 F σ H δ d Q R e h
 obtain ⟨ds, ex, e⟩ := bind_some e
 refine a H0 F0 F σ H δ ds _ R ex λ vs H1 F1 g1 i1 => ?_
 exact o F1 H1 vs ds d Q g1.s i1 e λ v H2 F2 g2 i2 => h v H2 F2 (g1.trans g2) i2
noncomputable def fH : Nat := 100000
theorem ef {n : Nat} (h : n <= fH) : n <= sizeLine := Qf h (by decide)
theorem AH {n : Nat} (h : n <= fH) : n < sizeLine := Nat.lt_of_le_of_lt h (by decide)
noncomputable def bh (fs : aP -> Option (List PyData)) (δ : aP) : Option PyData := (fs δ).bind λ ds => if ds.length <= fH then some (.tuple ds) else none
noncomputable def bd (fs : aP -> Option (List PyData)) (δ : aP) : Option (List PyData) := (fs δ).bind λ ds => if ds.length <= fH then some ds else none
noncomputable def az (fo : aP -> Option (List PyData)) (δ : aP) : Option PyData := (fo δ).map PyData.list
theorem dZ {t : TA} {fs : aP -> Option (List PyData)} (a : SA K t fs) : SE K (Dv t) (bh fs) := by
 intro H0 F0 F σ H δ d Q R e h
 obtain ⟨ds, ex, e⟩ := bind_some e
 split at e
 · rename_i hl
   cases e
   refine a H0 F0 F σ H δ ds _ R ex λ vs H1 F1 g1 i1 => ⟨by rw [i1.length]; exact ef hl, λ p hp => ?_⟩
   refine h (.ref p) _ _ (g1.trans (Grow.new g1.s hp)) ⟨p, vs, rfl, ae, i1.same (bU (g1.s.free hp) _)⟩
 · cases e
theorem eg {t : TA} {fs : aP -> Option (List PyData)} (a : SA K t fs) : SO K (zb t) (bd fs) := by
 intro H0 F0 F σ H δ d Q R e h
 obtain ⟨ds, ex, e⟩ := bind_some e
 split at e
 · rename_i hl
   cases e
   refine a H0 F0 F σ H δ d _ R ex λ vs H1 F1 g1 i1 => ⟨by rw [i1.length]; exact ef hl, λ p hp => ?_⟩
   have hp0 : H p = none := g1.h.free hp
   exact h p vs _ F1 (g1.trans (Grow.fresh g1.s hp)) hp0 (g1.s.free hp) ae i1
 · cases e
theorem bv {fo : aP -> Option (List PyData)} (h : SO K te fo) : SE K te (az fo) := h.se
noncomputable def dB (f : aP -> Option PyData) (δ : aP) : Option Bool := (f δ).bind λ d => match d with
 | .bool b => some b
 | _ => none
noncomputable def kF : PyData -> Option Bool
 | .none => some false
 | .bool b => some b
 | .int i => some (i != 0)
 | .str y => if y.length <= fH then some ((y.length : Int) != 0) else none
 | .list ds => some (!ds.isEmpty)
 | .tuple ds => some (!ds.isEmpty)
 | .dict _ => none
noncomputable def dJ (f : aP -> Option PyData) (δ : aP) : Option Bool := (f δ).bind kF
noncomputable def bx (f : aP -> Option Bool) (δ : aP) : Option Bool := (f δ).map (!·)
noncomputable def kG (f g : aP -> Option Bool) (δ : aP) : Option Bool := (f δ).bind λ b => if b = true then some true else g δ
noncomputable def cQ (f g : aP -> Option PyData) (δ : aP) : Option PyData := (dB f δ).bind λ b => if b = true then g δ else some (.bool false)
noncomputable def pD (f : aP -> Option PyData) (δ : aP) : Option PyData := (dB f δ).map λ b => .bool (!b)
theorem sN {f : aP -> Option PyData} {δ : aP} {b : Bool} (h : dB f δ = some b) : f δ = some (.bool b) := by
 obtain ⟨d, e, h⟩ := bind_some h
 cases d <;> simp at h
 subst h
 exact e
theorem de (a : SE K ta fa) : ST K (DO ta) (dB fa) := λ H0 F0 F σ H δ b Q R e h =>
 a H0 F0 F σ H δ (.bool b) _ R (sN e) λ v H1 F1 g1 i1 => ⟨b, i1, h H1 F1 g1⟩
theorem nY {α β : Type} {xs : List α} {ys : List β} (h : xs.length = ys.length) : (!xs.isEmpty) = !ys.isEmpty := by
 cases xs <;> cases ys <;> simp at h <;> rfl
theorem CI {F H : Hp} {v : V} {d : PyData} {b : Bool} (s : Same F H) (i : Is K F v d) (e : kF d = some b) : Bn K v H b := by
 cases d with
 | none => rw [show v = .non from i]; cases e; rfl
 | bool c => rw [show v = .bl c from i]; cases e; rfl
 | int c => rw [show v = .int c from i]; cases e; rfl
 | str c =>
  rw [show v = .str c from i]
  have e' : (if c.length <= fH then some ((c.length : Int) != 0) else none) = some b := e
  split at e'
  · rename_i hl
    cases e'
    exact ⟨ef hl, rfl⟩
  · cases e'
 | list ds =>
  obtain ⟨a, xs, rfl, h1, h2⟩ := i
  cases e
  exact .inl ⟨xs, SqL.of (s _ _ h1), (nY h2.length).symm⟩
 | tuple ds =>
  obtain ⟨a, xs, rfl, h1, h2⟩ := i
  cases e
  exact .inr (.inl ⟨xs, SqT.of (s _ _ h1), (nY h2.length).symm⟩)
 | dict _ => cases e
theorem gP (a : SE K ta fa) : ST K (FS K ta) (dJ fa) := λ H0 F0 F σ H δ b Q R e h => by
 obtain ⟨d, e1, e2⟩ := bind_some e
 exact a H0 F0 F σ H δ d _ R e1 λ v H1 F1 g1 i1 => ⟨b, CI g1.s i1 e2, h H1 F1 g1⟩
variable {t u : TT} {c c' : aP -> Option Bool}
theorem gp (a : ST K t c) : ST K (Ez t) (bx c) := λ H0 F0 F σ H δ b Q R e h => by
 obtain ⟨d, e1, e2⟩ := Q3.mp e
 subst e2
 exact a H0 F0 F σ H δ d _ R e1 λ H1 F1 g1 => h H1 F1 g1
theorem wu (a : ST K t c) (b : ST K u c') : ST K (GW t u) (kG c c') := λ H0 F0 F σ H δ b' Q R e h => by
 obtain ⟨d, e1, e2⟩ := bind_some e
 refine a H0 F0 F σ H δ d _ R e1 λ H1 F1 g1 => ?_
 cases d with
 | true => cases e2; exact xm (h H1 F1 g1)
 | false => exact xl (b H0 F0 F1 σ H1 δ b' _ (R.grow g1) e2 λ H2 F2 g2 => h H2 F2 (g1.trans g2))
theorem kn (a : SE K ta fa) (b : SE K tb fb) : SE K (DH ta tb) (cQ fa fb) := λ H0 F0 F σ H δ d Q R e h => by
 obtain ⟨b', e1, e2⟩ := bind_some e
 refine a H0 F0 F σ H δ _ _ R (sN e1) λ v H1 F1 g1 i1 => ⟨b', i1, ?_⟩
 cases b' with
 | true => exact xm (b H0 F0 F1 σ H1 δ d _ (R.grow g1) e2 λ v2 H2 F2 g2 i2 => h v2 H2 F2 (g1.trans g2) i2)
 | false => cases e2; exact xl (h _ H1 F1 g1 rfl)
theorem EL (a : SE K ta fa) : SE K (DI ta) (pD fa) := λ H0 F0 F σ H δ d Q R e h => by
 obtain ⟨b', e1, e2⟩ := Q3.mp e
 subst e2
 exact a H0 F0 F σ H δ _ _ R (sN e1) λ v H1 F1 g1 i1 => ⟨b', i1, h _ H1 F1 g1 rfl⟩
end
inductive DFlow where
 | nx (δ : aP)
 | rt (d : PyData)
 | ro (ds : List PyData)
 | bk (δ : aP)
 | ct (δ : aP)
noncomputable def Lands (K : Fg) (H0 F0 F : Hp) (D : Ends) : DFlow -> Prop
 | .nx δ => ∀ F' σ H, Rep K H0 F0 F' σ H δ -> Same F F' -> D.nx σ H
 | .rt d => ∀ F' v H, Grow F0 H0 F' H -> Is K F' v d -> D.rt v H
 | .ro ds => ∀ F' a xs H, Grow F0 H0 F' H -> H0 a = none -> F' a = none -> H a = some (.lst xs) -> Are K F' xs ds -> D.rt (.ref a) H
 | .bk δ => ∀ F' σ H, Rep K H0 F0 F' σ H δ -> Same F F' -> D.bk σ H
 | .ct δ => ∀ F' σ H, Rep K H0 F0 F' σ H δ -> Same F F' -> D.ct σ H
theorem Lands.up {K : Fg} {H0 F0 F F1 : Hp} {D : Ends} (s : Same F F1) : ∀ {r : DFlow}, Lands K H0 F0 F D r -> Lands K H0 F0 F1 D r
 | .nx δ, h => λ F' σ H R q => h F' σ H R (s.trans q)
 | .rt d, h => h
 | .ro ds, h => h
 | .bk δ, h => λ F' σ H R q => h F' σ H R (s.trans q)
 | .ct δ, h => λ F' σ H R q => h F' σ H R (s.trans q)
def SS (K : Fg) (ts : TS) (f : aP -> Option DFlow) : Prop := ∀ (H0 F0 F : Hp) (σ : St) (H : Hp) (δ : aP) (r : DFlow) (D : Ends), Rep K H0 F0 F σ H δ -> f δ = some r -> Lands K H0 F0 F D r -> ts D σ H
noncomputable def av (δ : aP) : Option DFlow := some (.nx δ)
noncomputable def aN (f g : aP -> Option DFlow) (δ : aP) : Option DFlow := (f δ).bind λ r => match r with
 | .nx δ' => g δ'
 | r => some r
noncomputable def eA (c : aP -> Option Bool) (f g : aP -> Option DFlow) (δ : aP) : Option DFlow := (c δ).bind λ b => if b = true then f δ else g δ
noncomputable def af (i : Nat) (f : aP -> Option PyData) (δ : aP) : Option DFlow := (f δ).map λ d => .nx (δ.set i (some (.fz d)))
noncomputable def cL (i : Nat) (f : aP -> Option (List PyData)) (δ : aP) : Option DFlow := (f δ).map λ ds => .nx (δ.set i (some (.ow ds)))
noncomputable def oA (i : Nat) (g : PyData -> PyData -> Option PyData) (f : aP -> Option PyData) (δ : aP) : Option DFlow := (aB i δ).bind λ x => (f δ).bind λ y => (g x y).map λ z => .nx (δ.set i (some (.fz z)))
noncomputable def ac (f : aP -> Option PyData) (δ : aP) : Option DFlow := (f δ).map .rt
noncomputable def tu (i : Nat) (δ : aP) : Option DFlow := match δ[i]? with
 | some (some (.ow ds)) => some (.ro ds)
 | _ => none
noncomputable def dL (f : aP -> Option PyData) (δ : aP) : Option DFlow := (f δ).map λ _ => .nx δ
noncomputable def fP (_ : aP) : Option DFlow := none
noncomputable def j3 (i : Nat) (f : aP -> Option DFlow) (δ : aP) : Option DFlow := f (frz i δ)
noncomputable def cE (i : Nat) (f : aP -> Option PyData) (δ : aP) : Option DFlow := match δ[i]? with
 | some (some (.ow ds)) => (f δ).bind λ d => if ds.length < fH then some (.nx (δ.set i (some (.ow (ds ++ [d]))))) else none
 | _ => none
noncomputable def hG (i : Nat) (f : aP -> Option PyData) (δ : aP) : Option DFlow := match δ[i]? with
 | some (some (.ow ds)) => (f δ).bind λ d => match d with
  | .list es => if ds.length + es.length <= fH then some (.nx (δ.set i (some (.ow (ds ++ es))))) else none
  | _ => none
 | _ => none
noncomputable def jK : List PyData -> Option (List Int)
 | [] => some []
 | .int n :: r => (jK r).map (n :: ·)
 | _ :: _ => none
theorem fQ : ∀ {ds : List PyData} {ns : List Int}, jK ds = some ns -> ds = ns.map PyData.int
 | [], ns, h => by cases h; rfl
 | .int n :: r, ns, h => by
  obtain ⟨ms, e1, e2⟩ := Q3.mp h
  subst e2
  rw [fQ e1]; rfl
 | .none :: r, ns, h => by cases h
 | .bool _ :: r, ns, h => by cases h
 | .str _ :: r, ns, h => by cases h
 | .list _ :: r, ns, h => by cases h
 | .tuple _ :: r, ns, h => by cases h
 | .dict _ :: r, ns, h => by cases h
theorem br : ∀ ns : List Int, jK (ns.map PyData.int) = some ns
 | [] => rfl
 | n :: r => by
  show (jK (r.map PyData.int)).map (n :: ·) = _
  rw [br r]; rfl
noncomputable def dS (i : Nat) (f : aP -> Option PyData) (δ : aP) : Option DFlow := match δ[i]? with
 | some (some (.ow ds)) => (f δ).bind λ d => match d with
  | .int n => (jK ds).bind λ ns => if n ∈ ns then some (.nx (δ.set i (some (.ow ((ns.erase n).map PyData.int))))) else none
  | _ => none
 | _ => none
section
variable {K : Fg} {t u : TS} {f g : aP -> Option DFlow} {te ta tb : TE} {fe fa fb : aP -> Option PyData} {c : TT} {fc : aP -> Option Bool}
theorem cn : SS K DJ av := λ H0 F0 F σ H δ r D R e h => by cases e; exact h F σ H R (Same.refl _)
theorem aV (a : SS K t f) (b : SS K u g) : SS K (yt t u) (aN f g) := by
 intro H0 F0 F σ H δ r D R e h
 obtain ⟨r1, e1, e2⟩ := bind_some e
 refine a H0 F0 F σ H δ r1 { D with nx := u D } R e1 ?_
 cases r1 with
 | nx δ1 => exact λ F' σ' H' R' s' => b H0 F0 F' σ' H' δ1 r D R' e2 (h.up s')
 | rt d => cases e2; exact h
 | ro d => cases e2; exact h
 | bk d => cases e2; exact h
 | ct d => cases e2; exact h
theorem gK (cc : ST K c fc) (a : SS K t f) (b : SS K u g) : SS K (Dj c t u) (eA fc f g) := by
 intro H0 F0 F σ H δ r D R e h
 obtain ⟨b', e1, e2⟩ := bind_some e
 refine cc H0 F0 F σ H δ b' _ R e1 λ H1 F1 g1 => ?_
 cases b' with
 | true => exact xm (a H0 F0 F1 σ H1 δ r D (R.grow g1) e2 (h.up g1.f))
 | false => exact xl (b H0 F0 F1 σ H1 δ r D (R.grow g1) e2 (h.up g1.f))
theorem bR (i : Nat) (a : SE K te fe) : SS K (tS te (lL i)) (af i fe) := by
 intro H0 F0 F σ H δ r D R e h
 obtain ⟨d, e1, e2⟩ := Q3.mp e
 subst e2
 exact a H0 F0 F σ H δ d _ R e1 λ v H1 F1 g1 i1 => h F1 _ H1 ((R.grow g1).set i1) g1.f
theorem gW (i : Nat) {fo : aP -> Option (List PyData)} (a : SO K te fo) : SS K (tS te (lL i)) (cL i fo) := by
 intro H0 F0 F σ H δ r D R e h
 obtain ⟨d, e1, e2⟩ := Q3.mp e
 subst e2
 refine a H0 F0 F σ H δ d _ R e1 λ p xs H1 F1 g1 hn hf hp ar => h F1 _ H1 ((R.grow g1).setO hp hf (R.g.h.free hn) ar λ j es nj ej => ?_) g1.f
 obtain ⟨b, ys, q1, q2, _⟩ := R.ow j es ej
 rw [q1]
 intro z
 cases z
 rw [q2] at hn
 cases hn
theorem vY (i : Nat) {r : R2} {gg : PyData -> PyData -> Option PyData} (o : tO K r gg) (a : SE K te fe) : SS K (FF i te r) (oA i gg fe) := by
 intro H0 F0 F σ H δ r' D R e h
 obtain ⟨x, e1, e⟩ := bind_some e
 obtain ⟨y, e2, e⟩ := bind_some e
 obtain ⟨z, e3, e4⟩ := Q3.mp e
 subst e4
 unfold aB at e1
 split at e1
 · rename_i d' q
   cases e1
   obtain ⟨v, hv, is⟩ := R.fz i x q
   refine ⟨v, hv, a H0 F0 F σ H δ y _ R e2 λ w H1 F1 g1 i1 => o F1 H1 v w x y z _ g1.s (is.same g1.f) i1 e3 λ v2 H2 F2 g2 i2 => ?_⟩
   exact h F2 _ H2 ((R.grow (g1.trans g2)).set i2) (g1.trans g2).f
 · cases e1
theorem bJ (a : SE K te fe) : SS K (vE te) (ac fe) := by
 intro H0 F0 F σ H δ r D R e h
 obtain ⟨d, e1, e2⟩ := Q3.mp e
 subst e2
 exact a H0 F0 F σ H δ d _ R e1 λ v H1 F1 g1 i1 => h F1 v H1 (R.g.trans g1) i1
theorem CJ (i : Nat) : SS K (vE (mj i)) (tu i) := by
 intro H0 F0 F σ H δ r D R e h
 unfold tu at e
 split at e
 · rename_i ds q
   cases e
   obtain ⟨a, xs, q1, q2, q3, q4, q5⟩ := R.ow i ds q
   exact ⟨.ref a, q1, h F a xs H R.g q4 q3 q2 q5⟩
 · cases e
theorem gH (a : SE K te fe) : SS K (qp te) (dL fe) := by
 intro H0 F0 F σ H δ r D R e h
 obtain ⟨d, e1, e2⟩ := Q3.mp e
 subst e2
 exact a H0 F0 F σ H δ d _ R e1 λ v H1 F1 g1 i1 => h F1 σ H1 (R.grow g1) g1.f
theorem lT : SS K yu fP := λ H0 F0 F σ H δ r D R e h => by cases e
theorem pE (i : Nat) (a : SS K t f) : SS K t (j3 i f) := by
 intro H0 F0 F σ H δ r D R e h
 obtain ⟨F', s, R'⟩ := R.frz i
 exact a H0 F0 F' σ H _ r D R' e (h.up s)
theorem ju (i : Nat) (a : SE K te fe) : SS K (qp (Fn K "list" wm (mj i) (gS te nw))) (cE i fe) := by
 intro H0 F0 F σ H δ r D R e h
 unfold cE at e
 split at e
 · rename_i ds q
   obtain ⟨d, e1, e2⟩ := bind_some e
   split at e2
   · rename_i hl
     cases e2
     obtain ⟨p, xs, q1, q2, q3, q4, q5⟩ := R.ow i ds q
     refine ⟨.ref p, q1, .inl ⟨rfl, xs, SqL.of q2⟩, a H0 F0 F σ H δ d _ R e1 λ v H1 F1 g1 i1 => ⟨p, xs, v, rfl, rfl, g1.h _ _ q2, ?_, ?_⟩⟩
     · rw [q5.length]; exact AH (xW hl)
     · exact h F1 σ _ ((R.grow g1).mut q q1 (g1.o _ _ q2 (λ _ z => nomatch z) q3) q4 ((q5.same g1.f).append (Are.one i1))) g1.f
   · cases e2
 · cases e
theorem xy (i : Nat) (a : SE K te fe) : SS K (qp (Fn K "list" wn (mj i) (gS te nw))) (hG i fe) := by
 intro H0 F0 F σ H δ r D R e h
 unfold hG at e
 split at e
 · rename_i ds q
   obtain ⟨d, e1, e2⟩ := bind_some e
   split at e2
   · rename_i es
     split at e2
     · rename_i hl
       cases e2
       obtain ⟨p, xs, q1, q2, q3, q4, q5⟩ := R.ow i ds q
       refine ⟨.ref p, q1, .inl ⟨rfl, xs, SqL.of q2⟩, a H0 F0 F σ H δ _ _ R e1 λ v H1 F1 g1 i1 => ?_⟩
       obtain ⟨b, zs, rfl, hb, ab⟩ := i1
       refine ⟨p, b, xs, zs, rfl, rfl, g1.h _ _ q2, g1.s _ _ hb, ?_, ?_⟩
       · rw [q5.length, ab.length]; exact ef hl
       · exact h F1 σ _ ((R.grow g1).mut q q1 (g1.o _ _ q2 (λ _ z => nomatch z) q3) q4 ((q5.same g1.f).append ab)) g1.f
     · cases e2
   · cases e2
 · cases e
theorem rJ (i : Nat) (a : SE K te fe) : SS K (qp (Fn K "list" wo (mj i) (gS te nw))) (dS i fe) := by
 intro H0 F0 F σ H δ r D R e h
 unfold dS at e
 split at e
 · rename_i ds q
   obtain ⟨d, e1, e2⟩ := bind_some e
   split at e2
   · rename_i n
     obtain ⟨ns, e3, e4⟩ := bind_some e2
     split at e4
     · rename_i hm
       cases e4
       obtain ⟨p, xs, q1, q2, q3, q4, q5⟩ := R.ow i ds q
       have ed := fQ e3
       subst ed
       have ex := Are.ints.mp q5
       subst ex
       refine ⟨.ref p, q1, .inl ⟨rfl, _, SqL.of q2⟩, a H0 F0 F σ H δ _ _ R e1 λ v H1 F1 g1 i1 => ?_⟩
       refine ⟨p, ns, n, rfl, by rw [show v = .int n from i1], g1.h _ _ q2, hm, ?_⟩
       exact h F1 σ _ ((R.grow g1).mut q q1 (g1.o _ _ q2 (λ _ z => nomatch z) q3) q4 (Are.ints.mpr rfl)) g1.f
     · cases e4
   · cases e2
 · cases e
end
structure IterD (K : Fg) (F : Hp) (J : It) (ds : List PyData) : Prop where
 go : ∀ (i : Nat) (F2 H2 : Hp), i < ds.length -> Same F F2 -> Same F2 H2 -> J.go i H2
 stop : ∀ F2 H2 : Hp, Same F F2 -> Same F2 H2 -> J.stop ds.length H2
 yld : ∀ (i : Nat) (d : PyData) (F2 H2 : Hp) (x : V) (H3 : Hp), ds[i]? = some d -> Same F F2 -> Same F2 H2 -> J.yld i H2 x H3 -> ∃ F3, Grow F2 H2 F3 H3 /\ Is K F3 x d
def SI (K : Fg) (wi : TI) (fi : aP -> Option (List PyData)) : Prop := ∀ (H0 F0 F : Hp) (σ : St) (H : Hp) (δ : aP) (ds : List PyData) (R : It -> Hp -> Prop), Rep K H0 F0 F σ H δ -> fi δ = some ds ->
 (∀ J H' F', Grow F H F' H' -> IterD K F' J ds -> R J H') -> wi σ H R
def SG (K : Fg) (g : TG) (fg : PyData -> aP -> Option aP) : Prop := ∀ (H0 F0 F : Hp) (σ : St) (H : Hp) (δ δ' : aP) (v : V) (d : PyData) (Q : St -> Hp -> Prop), Rep K H0 F0 F σ H δ -> Is K F v d -> fg d δ = some δ' ->
 (∀ σ', Rep K H0 F0 F σ' H δ' -> Q σ' H) -> g v σ H Q
def Fp (K : Fg) (g : yw) (fg : List PyData -> aP -> Option aP) : Prop := ∀ (H0 F0 F : Hp) (σ : St) (H : Hp) (δ δ' : aP) (vs : List V) (ds : List PyData) (Q : St -> Hp -> Prop), Rep K H0 F0 F σ H δ -> Are K F vs ds -> fg ds δ = some δ' ->
 (∀ σ', Rep K H0 F0 F σ' H δ' -> Q σ' H) -> g vs σ H Q
noncomputable def gN (i : Nat) (d : PyData) (δ : aP) : Option aP := some (δ.set i (some (.fz d)))
noncomputable def gT (n : Nat) (fg : List PyData -> aP -> Option aP) (d : PyData) (δ : aP) : Option aP := match d with
 | .tuple ds => if ds.length = n then fg ds δ else none
 | _ => none
noncomputable def gZ (ds : List PyData) (δ : aP) : Option aP := match ds with
 | [] => some δ
 | _ :: _ => none
noncomputable def gC (f : PyData -> aP -> Option aP) (g : List PyData -> aP -> Option aP) (ds : List PyData) (δ : aP) : Option aP := match ds with
 | [] => none
 | d :: r => (f d δ).bind (g r)
section
variable {K : Fg}
theorem bE (i : Nat) : SG K (lL i) (gN i) := λ H0 F0 F σ H δ δ' v d Q R h e k => by cases e; exact k _ (R.set h)
theorem lU : Fp K FD gZ := λ H0 F0 F σ H δ δ' vs ds Q R h e k => by
 cases ds with
 | nil => cases e; exact ⟨h, k σ R⟩
 | cons _ _ => cases e
theorem eE {t : TG} {u : yw} {f : PyData -> aP -> Option aP} {g : List PyData -> aP -> Option aP} (a : SG K t f) (b : Fp K u g) : Fp K (DK t u) (gC f g) := λ H0 F0 F σ H δ δ' vs ds Q R h e k => by
 cases ds with
 | nil => cases e
 | cons d r =>
  obtain ⟨v, vr, rfl, i1, i2⟩ := h
  obtain ⟨δ1, e1, e2⟩ := bind_some e
  exact ⟨v, vr, rfl, a H0 F0 F σ H δ δ1 v d _ R i1 e1 λ σ1 R1 => b H0 F0 F σ1 H δ1 δ' vr r Q R1 i2 e2 k⟩
theorem pF {n : Nat} {t : yw} {g : List PyData -> aP -> Option aP} (b : Fp K t g) : SG K (Dl K n t) (gT n g) := λ H0 F0 F σ H δ δ' v d Q R h e k => by
 unfold gT at e
 split at e
 · rename_i ds
   split at e
   · rename_i hl
     obtain ⟨a, xs, rfl, q, ar⟩ := h
     exact ⟨a, xs, rfl, SqT.of (R.g.s _ _ q), by rw [ar.length, hl], b H0 F0 F σ H δ δ' xs ds Q R ar e k⟩
   · cases e
 · cases e
noncomputable def G1 : PyData -> Option (List PyData)
 | .list ds => some ds
 | .tuple ds => some ds
 | .dict [(.none, .list ds)] => some ds
 | _ => none
noncomputable def nA (i : Int) : Bool := decide (-1000000000 <= i) && decide (i <= 1000000000)
noncomputable def au (lo : Int) (n : Nat) : List PyData := (List.range n).map λ k : Nat => PyData.int (lo + (k : Int))
noncomputable def bp (fs : aP -> Option (List PyData)) (δ : aP) : Option (List PyData) := (fs δ).bind λ ds => match ds with
 | [.int j] => if nA j = true then some (au 0 j.toNat) else none
 | _ => none
theorem AI (F : Hp) (lo : Int) (n : Nat) : IterD K F (Fk lo n) (au lo n) where
 go := λ i F2 H2 h _ _ => by
  have : i < n := by simpa [au] using h
  exact this
 stop := λ F2 H2 _ _ => by show n <= (au lo n).length; simp [au]
 yld := λ i d F2 H2 x H3 e _ s2 y => by
  obtain ⟨y1, y2⟩ := y
  subst y1 y2
  refine ⟨F2, Grow.refl s2, ?_⟩
  unfold au at e
  rw [zK] at e
  obtain ⟨k, e1, e2⟩ := Q3.mp e
  have hi := iP e1
  rw [fI hi] at e1
  have : k = i := by simpa using e1.symm
  subst this
  subst e2
  rfl
theorem gX {ta : TA} {fs : aP -> Option (List PyData)} (a : SA K ta fs) : SI K (DM ta) (bp fs) := λ H0 F0 F σ H δ ds R RR e k => by
 obtain ⟨es, e1, e2⟩ := bind_some e
 split at e2
 · rename_i j
   split at e2
   · rename_i hs
     cases e2
     unfold nA at hs
     rw [Qa, decide_eq_true_eq, decide_eq_true_eq] at hs
     refine a H0 F0 F σ H δ _ _ RR e1 λ vs H1 F1 g1 ar => ?_
     obtain ⟨x, r, rfl, hx, hr⟩ := ar
     rw [show r = [] from hr, show x = .int j from hx]
     exact ⟨j, rfl, by omega, by omega, k _ H1 F1 g1 (AI F1 0 j.toNat)⟩
   · cases e2
 · cases e2
end
def EM (K : Fg) (tl : TE) : TI := λ σ H R => tl σ H λ x H1 => ∃ a, x = .ref a /\ (((∃ xs, SqL K H1 a xs) /\ R (GD K a) H1) \/ ((∃ xs, SqT K H1 a xs) /\ R (GE K a) H1))
section
variable {X : Cx} {tg : Expr}
theorem EN {l : Expr} {tl : TE} (hl : PE X l tl) : PI X tg l (EM X.K tl) := by
 intro pins s σ H R I h
 refine dm (hl pins s σ H _ I h) λ v s1 ⟨x, H1, I1, r1, q1⟩ => ?_
 obtain ⟨a, e, q⟩ := q1
 subst e
 cases r1
 rcases q with ⟨⟨xs, hq⟩, q⟩ | ⟨⟨xs, hq⟩, q⟩
 · obtain ⟨its, rv, p, hz⟩ := I1.list hq
   refine wpAny_pyIter_list p.isList ?_
   refine ⟨s1.heap.objs.size, [s1.heap.objs.size], _, _, H1, rfl, I1.kept (t' := s1.toks) λ b o e => gy _ e, x6 a _, ⟨_, jm _ rfl, rfl, rfl⟩, λ b hb => ?_, q⟩
   have e : b = s1.heap.objs.size := by simpa using hb
   subst e
   exact I1.fpOk (Q2 _) (I1.hok.fresh (Q2 _))
 · obtain ⟨its, rv, p, hz⟩ := I1.tuple hq
   refine wpAny_pyIter_tuple (show s1.heap.IsTuple a its.toArray from p) ?_
   refine ⟨s1.heap.objs.size, [s1.heap.objs.size], _, _, H1, rfl, I1.kept (t' := s1.toks) λ b o e => gy _ e, vI a _, ⟨_, jm _ rfl, rfl, rfl⟩, λ b hb => ?_, q⟩
   have e : b = s1.heap.objs.size := by simpa using hb
   subst e
   exact I1.fpOk (Q2 _) (I1.hok.fresh (Q2 _))
theorem eh {l : Expr} {tl : TE} (K : Fg) (hl : PE X l tl) (h : X.K = K := by rfl) : PI X tg l (EM K tl) := h ▸ EN hl
def GN (K : Fg) (ta : TA) : TI := λ σ H R => ta σ H λ vs H1 => ∃ a, vs = [.ref a] /\ (((∃ xs, SqT K H1 a xs) /\ R (Fo λ H xs => SqT K H a xs) H1) \/ ((∃ xs, SqL K H1 a xs) /\ R (Fo λ H xs => SqL K H a xs) H1))
theorem FX {es : List Expr} {k1 : Nat} {tp : Pos} {a : Expr} {ta : TA} {p pos : Pos} (hg : Gl X "enumerate") (hm : X.mg "enumerate" = none) (ha : PA X [a] ta) (hs : starEach [a] X.env = [(false, eval a X.env)] := by rfl) : PI X (.Tuple es k1 tp) (.Call (.Name "enumerate" p) [a] [] pos) (GN X.K ta) := by
 intro pins s σ H R I h
 refine Call_ (mk I hg hm boot_enumerate (PyProof.Rows.callWith_type1 (dm (ha pos pins s σ H _ I h) λ us s1 ⟨vs, H1, I1, r1, q1⟩ => ?_) hs rfl))
 obtain ⟨b, e, q1⟩ := q1
 subst e
 cases r1 with
 | cons r rr =>
  cases rr
  cases r
  rcases q1 with ⟨⟨xs, hq⟩, q⟩ | ⟨⟨xs, hq⟩, q⟩
  · obtain ⟨its, rv, pt, hz⟩ := I1.tuple hq
    refine zm (show s1.heap.IsTuple b its.toArray from pt) λ h' he hi hz' hk => ?_
    refine wpAny_pyIter_enum he ⟨_, [_, _], _, _, H1, rfl, I1.kept (t' := s1.toks) hk, qv (EF b s1.heap.objs.size), ⟨⟨_, he⟩, hi⟩, λ c hc => ?_, q⟩
    have hc' : c = s1.heap.objs.size + 1 \/ c = s1.heap.objs.size := by simpa using hc
    have hle : s1.heap.objs.size <= c := by rcases hc' with z | z <;> rw [z]; exact Nat.le_succ _; exact Q2 _
    exact I1.fpOk hle (I1.hok.fresh hle)
  · obtain ⟨its, rv, pt, hz⟩ := I1.list hq
    refine call_enumerate_list pt.isList λ h' he hi hz' hk => ?_
    refine wpAny_pyIter_enum he ⟨_, [_, _], _, _, H1, rfl, I1.kept (t' := s1.toks) hk, qv (GJ b s1.heap.objs.size), ⟨⟨_, he⟩, hi⟩, λ c hc => ?_, q⟩
    have hc' : c = s1.heap.objs.size + 1 \/ c = s1.heap.objs.size := by simpa using hc
    have hle : s1.heap.objs.size <= c := by rcases hc' with z | z <;> rw [z]; exact Nat.le_succ _; exact Q2 _
    exact I1.fpOk hle (I1.hok.fresh hle)
theorem AJ {es : List Expr} {k1 : Nat} {tp : Pos} {a : Expr} {ta : TA} {p pos : Pos} (K : Fg) (hm : X.mg "enumerate" = none) (ha : PA X [a] ta) (h : X.K = K := by rfl) (hg : Gl X "enumerate" := by rfl) (hs : starEach [a] X.env = [(false, eval a X.env)] := by rfl) :
 PI X (.Tuple es k1 tp) (.Call (.Name "enumerate" p) [a] [] pos) (GN K ta) := h ▸ FX hg hm ha hs
end
section
variable {K : Fg}
theorem AK {F : Hp} {a : Addr} {xs : List V} {ds : List PyData} (h : F a = some (.lst xs)) (ar : Are K F xs ds) : IterD K F (GD K a) ds where
 go := λ i F2 H2 hi s1 s2 => by
  obtain ⟨x, e, _⟩ := ar.get (fI hi)
  exact ⟨xs, x, SqL.of (s2 _ _ (s1 _ _ h)), e⟩
 stop := λ F2 H2 s1 s2 => ⟨xs, SqL.of (s2 _ _ (s1 _ _ h)), Nat.le_of_eq ar.length⟩
 yld := λ i d F2 H2 x H3 e s1 s2 y => by
  obtain ⟨rfl, y⟩ := y
  have q := y xs (SqL.of (s2 _ _ (s1 _ _ h)))
  obtain ⟨x', e', i'⟩ := ar.get e
  rw [q] at e'
  cases e'
  exact ⟨F2, Grow.refl s2, i'.same s1⟩
theorem AL {F : Hp} {a : Addr} {xs : List V} {ds : List PyData} (h : F a = some (.tup xs)) (ar : Are K F xs ds) : IterD K F (GE K a) ds where
 go := λ i F2 H2 hi s1 s2 => by
  obtain ⟨x, e, _⟩ := ar.get (fI hi)
  exact ⟨xs, x, SqT.of (s2 _ _ (s1 _ _ h)), e⟩
 stop := λ F2 H2 s1 s2 => ⟨xs, SqT.of (s2 _ _ (s1 _ _ h)), Nat.le_of_eq ar.length⟩
 yld := λ i d F2 H2 x H3 e s1 s2 y => by
  obtain ⟨rfl, y⟩ := y
  have q := y xs (SqT.of (s2 _ _ (s1 _ _ h)))
  obtain ⟨x', e', i'⟩ := ar.get e
  rw [q] at e'
  cases e'
  exact ⟨F2, Grow.refl s2, i'.same s1⟩
noncomputable def iQ : PyData -> Option (List PyData)
 | .list ds => some ds
 | .tuple ds => some ds
 | _ => none
noncomputable def bB (f : aP -> Option PyData) (δ : aP) : Option (List PyData) := (f δ).bind iQ
theorem ev {tl : TE} {f : aP -> Option PyData} (a : SE K tl f) : SI K (EM K tl) (bB f) := λ H0 F0 F σ H δ ds R RR e k => by
 obtain ⟨d, e1, e2⟩ := bind_some e
 refine a H0 F0 F σ H δ d _ RR e1 λ v H1 F1 g1 is => ?_
 cases d with
 | list es =>
  cases e2
  obtain ⟨p, xs, rfl, q, ar⟩ := is
  exact ⟨p, rfl, .inl ⟨⟨xs, SqL.of (g1.s _ _ q)⟩, k _ H1 F1 g1 (AK q ar)⟩⟩
 | tuple es =>
  cases e2
  obtain ⟨p, xs, rfl, q, ar⟩ := is
  exact ⟨p, rfl, .inr ⟨⟨xs, SqT.of (g1.s _ _ q)⟩, k _ H1 F1 g1 (AL q ar)⟩⟩
 | _ => cases e2
noncomputable def fA (ds : List PyData) : List PyData := ds.zipIdx.map λ p => PyData.tuple [.int (p.2 : Nat), p.1]
theorem jv {ds : List PyData} {i : Nat} {d : PyData} (h : (fA ds)[i]? = some d) : ∃ e, ds[i]? = some e /\ d = .tuple [.int (i : Nat), e] := by
 unfold fA at h
 rw [zK, List.getElem?_zipIdx] at h
 obtain ⟨p, h1, h2⟩ := Q3.mp h
 obtain ⟨e, h3, h4⟩ := Q3.mp h1
 subst h4
 subst h2
 exact ⟨e, h3, by simp⟩
theorem rK (ds : List PyData) : (fA ds).length = ds.length := by simp [fA]
theorem wv {F : Hp} {S : Hp -> List V -> Prop} {xs : List V} {ds : List PyData} (h : ∀ F2 H2, Same F F2 -> Same F2 H2 -> S H2 xs) (ar : Are K F xs ds) : IterD K F (Fo S) (fA ds) where
 go := λ i F2 H2 hi s1 s2 => by
  rw [rK] at hi
  obtain ⟨x, e, _⟩ := ar.get (fI hi)
  exact ⟨xs, x, h F2 H2 s1 s2, e⟩
 stop := λ F2 H2 s1 s2 => ⟨xs, h F2 H2 s1 s2, by rw [rK]; exact ar.length⟩
 yld := λ i d F2 H2 x H3 e s1 s2 y => by
  obtain ⟨p, v, hp, rfl, rfl, y⟩ := y
  have q := y xs (h F2 H2 s1 s2)
  obtain ⟨d', h1, rfl⟩ := jv e
  obtain ⟨x', e', i'⟩ := ar.get h1
  rw [q] at e'
  cases e'
  exact ⟨_, Grow.new s2 hp, p, _, rfl, ae, .int (i : Nat), [v], rfl, rfl, v, [], rfl, (i'.same s1).same (bU (s2.free hp) _), rfl⟩
noncomputable def Bd (fs : aP -> Option (List PyData)) (δ : aP) : Option (List PyData) := (fs δ).bind λ ds => match ds with
 | [d] => (iQ d).map fA
 | _ => none
theorem AM {ta : TA} {fs : aP -> Option (List PyData)} (a : SA K ta fs) : SI K (GN K ta) (Bd fs) := λ H0 F0 F σ H δ ds R RR e k => by
 obtain ⟨es, e1, e2⟩ := bind_some e
 split at e2
 · rename_i d
   obtain ⟨us, e3, e4⟩ := Q3.mp e2
   subst e4
   refine a H0 F0 F σ H δ _ _ RR e1 λ vs H1 F1 g1 ar => ?_
   obtain ⟨x, r, rfl, hx, hr⟩ := ar
   rw [show r = [] from hr]
   cases d with
   | list es =>
    cases e3
    obtain ⟨p, xs, rfl, q, ar⟩ := hx
    exact ⟨p, rfl, .inr ⟨⟨xs, SqL.of (g1.s _ _ q)⟩, k _ H1 F1 g1 (wv (λ F2 H2 s1 s2 => SqL.of (s2 _ _ (s1 _ _ q))) ar)⟩⟩
   | tuple es =>
    cases e3
    obtain ⟨p, xs, rfl, q, ar⟩ := hx
    exact ⟨p, rfl, .inl ⟨⟨xs, SqT.of (g1.s _ _ q)⟩, k _ H1 F1 g1 (wv (λ F2 H2 s1 s2 => SqT.of (s2 _ _ (s1 _ _ q))) ar)⟩⟩
   | _ => cases e3
 · cases e2
noncomputable def pG (ds es : List PyData) : List PyData := (ds.zip es).map λ p => PyData.tuple [p.1, p.2]
theorem tw {ds es : List PyData} {i : Nat} {d : PyData} (h : (pG ds es)[i]? = some d) : ∃ x y, ds[i]? = some x /\ es[i]? = some y /\ d = .tuple [x, y] := by
 unfold pG at h
 rw [zK] at h
 obtain ⟨p, h1, h2⟩ := Q3.mp h
 obtain ⟨h3, h4⟩ := List.getElem?_zip_eq_some.mp h1
 exact ⟨p.1, p.2, h3, h4, h2.symm⟩
theorem uC {ds es : List PyData} (h : ds.length = es.length) : (pG ds es).length = ds.length := by simp [pG, h]
theorem AN {F : Hp} {S1 S2 : Hp -> List V -> Prop} {xs ys : List V} {ds es : List PyData} (h1 : ∀ F2 H2, Same F F2 -> Same F2 H2 -> S1 H2 xs) (h2 : ∀ F2 H2, Same F F2 -> Same F2 H2 -> S2 H2 ys) (a1 : Are K F xs ds) (a2 : Are K F ys es) (hl : ds.length = es.length) : IterD K F (GK S1 S2) (pG ds es) where
 go := λ i F2 H2 hi s1 s2 => by
  rw [uC hl] at hi
  obtain ⟨x, e, _⟩ := a1.get (fI hi)
  obtain ⟨y, e', _⟩ := a2.get (fI (by omega : i < es.length))
  exact ⟨xs, ys, x, y, h1 F2 H2 s1 s2, h2 F2 H2 s1 s2, e, e'⟩
 stop := λ F2 H2 s1 s2 => ⟨xs, h1 F2 H2 s1 s2, by rw [uC hl]; exact a1.length⟩
 yld := λ i d F2 H2 x H3 e s1 s2 y => by
  obtain ⟨p, v, u, hp, rfl, rfl, y1, y2⟩ := y
  have q1 := y1 xs (h1 F2 H2 s1 s2)
  have q2 := y2 ys (h2 F2 H2 s1 s2)
  obtain ⟨d1, d2, e1, e2, rfl⟩ := tw e
  obtain ⟨x1, f1, i1⟩ := a1.get e1
  obtain ⟨x2, f2, i2⟩ := a2.get e2
  rw [q1] at f1
  rw [q2] at f2
  cases f1
  cases f2
  have sn : Same F2 (cZ F2 p (.tup [v, u])) := bU (s2.free hp) _
  exact ⟨_, Grow.new s2 hp, p, _, rfl, ae, v, [u], rfl, (i1.same s1).same sn, u, [], rfl, (i2.same s1).same sn, rfl⟩
noncomputable def CK (fs : aP -> Option (List PyData)) (δ : aP) : Option (List PyData) := (fs δ).bind λ ds => match ds with
 | [.tuple xs, .tuple ys] => if xs.length = ys.length then some (pG xs ys) else none
 | _ => none
theorem EO {ta : TA} {fs : aP -> Option (List PyData)} (a : SA K ta fs) : SI K (zr K ta) (CK fs) := λ H0 F0 F σ H δ ds R RR e k => by
 obtain ⟨es, e1, e2⟩ := bind_some e
 split at e2
 · rename_i d1 d2
   split at e2
   · rename_i hl
     cases e2
     refine a H0 F0 F σ H δ _ _ RR e1 λ vs H1 F1 g1 ar => ?_
     obtain ⟨x, r, rfl, hx, y, r', rfl, hy, hr⟩ := ar
     rw [show r' = [] from hr]
     obtain ⟨p, xs, rfl, q, ar⟩ := hx
     obtain ⟨p', ys, rfl, q', ar'⟩ := hy
     exact ⟨p, p', rfl, ⟨xs, SqT.of (g1.s _ _ q)⟩, ⟨ys, SqT.of (g1.s _ _ q')⟩, k _ H1 F1 g1 (AN (λ F2 H2 s1 s2 => SqT.of (s2 _ _ (s1 _ _ q))) (λ F2 H2 s1 s2 => SqT.of (s2 _ _ (s1 _ _ q'))) ar ar' hl)⟩
   · cases e2
 · cases e2
end
noncomputable def jL (fg : PyData -> aP -> Option aP) (fb : aP -> Option DFlow) : List PyData -> aP -> Option DFlow
 | [], δ => some (.nx δ)
 | d :: r, δ => (fg d δ).bind λ δ1 => (fb δ1).bind λ fl => match fl with
  | .nx δ2 => jL fg fb r δ2
  | .ct δ2 => jL fg fb r δ2
  | .bk δ2 => some (.nx δ2)
  | .rt v => some (.rt v)
  | .ro v => some (.ro v)
noncomputable def cf (fi : aP -> Option (List PyData)) (fg : PyData -> aP -> Option aP) (fb : aP -> Option DFlow) (δ : aP) : Option DFlow := (fi δ).bind λ ds => jL fg fb ds δ
section
variable {K : Fg}
theorem fB {wi : TI} {g : TG} {tb : TS} {fi : aP -> Option (List PyData)} {fg : PyData -> aP -> Option aP} {fb : aP -> Option DFlow} (hi : SI K wi fi) (hg : SG K g fg) (hb : SS K tb fb) : SS K (FG wi g tb) (cf fi fg fb) := by
 intro H0 F0 F σ H δ r D R e h
 obtain ⟨ds, e1, e2⟩ := bind_some e
 refine hi H0 F0 F σ H δ ds _ R e1 λ J H1 F1 g1 it => ?_
 refine ⟨λ i m σ H => m = ds.length - i /\ i <= ds.length /\ ∃ F' δ', Rep K H0 F0 F' σ H δ' /\ Same F1 F' /\ jL fg fb (ds.drop i) δ' = some r, ⟨ds.length, by simp, zU _, F1, δ, R.grow g1, Same.refl _, e2⟩, ?_⟩
 rintro i m σ' H' ⟨rfl, hle, F', δ', R', s', e'⟩
 by_cases hlt : i < ds.length
 · refine .inr ⟨it.go i F' H' hlt s' R'.g.s, λ σ H => i + 1 <= ds.length /\ ∃ F' δ', Rep K H0 F0 F' σ H δ' /\ Same F1 F' /\ jL fg fb (ds.drop (i + 1)) δ' = some r, λ σ2 H2 q => ⟨ds.length - (i + 1), by omega, rfl, q⟩, λ x H2 y => ?_⟩
   have hd : ds[i]? = some ds[i] := fI hlt
   obtain ⟨F2, g2, is⟩ := it.yld i _ F' H' x H2 hd s' R'.g.s y
   rw [Em hlt] at e'
   obtain ⟨δ1, q1, q2⟩ := bind_some e'
   obtain ⟨fl, q3, q4⟩ := bind_some q2
   refine hg H0 F0 F2 σ' H2 δ' δ1 x ds[i] _ (R'.grow g2) is q1 λ σ3 R3 => ?_
   refine hb H0 F0 F2 σ3 H2 δ1 fl _ R3 q3 ?_
   have up : Same F1 F2 := s'.trans g2.f
   cases fl with
   | nx δ2 => exact λ F3 σ4 H4 R4 s4 => ⟨hlt, F3, δ2, R4, up.trans s4, q4⟩
   | ct δ2 => exact λ F3 σ4 H4 R4 s4 => ⟨hlt, F3, δ2, R4, up.trans s4, q4⟩
   | bk δ2 =>
    cases q4
    exact λ F3 σ4 H4 R4 s4 => h F3 σ4 H4 R4 (g1.f.trans (up.trans s4))
   | rt d => cases q4; exact h
   | ro d => cases q4; exact h
 · have e3 : i = ds.length := by omega
   subst e3
   rw [List.drop_length] at e'
   cases e'
   exact .inl ⟨it.stop F' H' s' R'.g.s, h F' σ' H' R' (g1.f.trans s')⟩
end
noncomputable def fK (n : Nat) (fr : List (Str × Nat)) (δ : aP) : aP := List.replicate n none ++ fr.map λ p => match δ[p.2]? with
 | some (some (.fz d)) => some (.fz d)
 | _ => none
noncomputable def gq (f : PyData -> Option (Option PyData)) : List PyData -> Option (List PyData)
 | [] => some []
 | d :: r => (f d).bind λ o => match o with
  | some y => (gq f r).map (y :: ·)
  | none => gq f r
noncomputable def cR (_ : aP) : Option Bool := some true
noncomputable def ag (n : Nat) (fr : List (Str × Nat)) (fi : aP -> Option (List PyData)) (fg : PyData -> aP -> Option aP) (fc : aP -> Option Bool) (fe : aP -> Option PyData) (δ : aP) : Option (List PyData) :=
 (fi δ).bind λ ds => if ds.length <= fH then gq (λ d => (fg d (fK n fr δ)).bind λ δ1 => (fc δ1).bind λ b => if b = true then (fe δ1).map some else some none) ds else none
def Fq (n : Nat) (fg : PyData -> aP -> Option aP) : Prop := ∀ d δ δ1, fg d δ = some δ1 -> δ1.length = δ.length /\ ∀ i, n <= i -> δ1[i]? = δ[i]?
def CL (n : Nat) (fg : List PyData -> aP -> Option aP) : Prop := ∀ d δ δ1, fg d δ = some δ1 -> δ1.length = δ.length /\ ∀ i, n <= i -> δ1[i]? = δ[i]?
theorem cS {n i : Nat} (h : i < n := by decide) : Fq n (gN i) := λ d δ δ1 e => by
 cases e
 exact ⟨wa .., λ j hj => bO (by omega)⟩
theorem AO {n : Nat} : CL n gZ := λ d δ δ1 e => by
 cases d with
 | nil => cases e; exact ⟨rfl, λ _ _ => rfl⟩
 | cons _ _ => cases e
theorem rL {n : Nat} {f : PyData -> aP -> Option aP} {g : List PyData -> aP -> Option aP} (a : Fq n f) (b : CL n g) : CL n (gC f g) := λ d δ δ1 e => by
 cases d with
 | nil => cases e
 | cons x r =>
  obtain ⟨δ2, e1, e2⟩ := bind_some e
  obtain ⟨l1, h1⟩ := a x δ δ2 e1
  obtain ⟨l2, h2⟩ := b r δ2 δ1 e2
  exact ⟨l2.trans l1, λ i hi => (h2 i hi).trans (h1 i hi)⟩
theorem CM {n m : Nat} {g : List PyData -> aP -> Option aP} (b : CL n g) : Fq n (gT m g) := λ d δ δ1 e => by
 unfold gT at e
 split at e
 · split at e
   · exact b _ δ δ1 e
   · cases e
 · cases e
section
variable {K : Fg}
theorem GO {H0 F0 F : Hp} {σ : St} {H : Hp} {δ : aP} (R : Rep K H0 F0 F σ H δ) (n : Nat) (fr : List (Str × Nat)) (H' : Hp) (F1 : Hp) (g : Grow F1 H' F H) : Rep K H' F1 F (zi n fr σ) H (fK n fr δ) where
 g := g
 tb := R.tb
 len := by simp [zi, fK]
 fz := λ i d e => by
  unfold fK at e
  unfold zi
  by_cases hi : i < n
  · rw [Q8 (by simpa using hi), Qd, if_pos hi] at e
    cases e
  · rw [Q9 (by simpa using hi), ym, zK] at e ⊢
    cases q : fr[i - n]? with
    | none => rw [q] at e; cases e
    | some p =>
     rw [q] at e
     have e' : (match δ[p.2]? with | some (some (.fz d)) => some (Sl.fz d) | _ => none) = some (.fz d) := zV e
     split at e'
     · rename_i d' q'
       cases e'
       obtain ⟨v, h1, h2⟩ := R.fz p.2 d q'
       refine ⟨v, ?_, h2⟩
       show some ((σ[p.2]?).join) = some (some v)
       rw [h1]
       rfl
     · cases e'
 ow := λ i ds e => by
  exfalso
  unfold fK at e
  by_cases hi : i < n
  · rw [Q8 (by simpa using hi), Qd, if_pos hi] at e
    cases e
  · rw [Q9 (by simpa using hi), ym, zK] at e
    cases q : fr[i - n]? with
    | none => rw [q] at e; cases e
    | some p =>
     rw [q] at e
     have e' : (match δ[p.2]? with | some (some (.fz d)) => some (Sl.fz d) | _ => none) = some (.ow ds) := zV e
     split at e' <;> cases e'
 ap := λ i j ds es a e1 e2 e3 e4 => by
  exfalso
  unfold fK at e1
  by_cases hi : i < n
  · rw [Q8 (by simpa using hi), Qd, if_pos hi] at e1
    cases e1
  · rw [Q9 (by simpa using hi), ym, zK] at e1
    cases q : fr[i - n]? with
    | none => rw [q] at e1; cases e1
    | some p =>
     rw [q] at e1
     have e' : (match δ[p.2]? with | some (some (.fz d)) => some (Sl.fz d) | _ => none) = some (.ow ds) := zV e1
     split at e' <;> cases e'
 od := λ i ds e => by
  exfalso
  unfold fK at e
  by_cases hi : i < n
  · rw [Q8 (by simpa using hi), Qd, if_pos hi] at e
    cases e
  · rw [Q9 (by simpa using hi), ym, zK] at e
    cases q : fr[i - n]? with
    | none => rw [q] at e; cases e
    | some p =>
     rw [q] at e
     have e' : (match δ[p.2]? with | some (some (.fz d)) => some (Sl.fz d) | _ => none) = some (.od ds) := zV e
     split at e' <;> cases e'
 ad := λ i j ds es a e1 e2 e3 e4 => by
  exfalso
  unfold fK at e1
  by_cases hi : i < n
  · rw [Q8 (by simpa using hi), Qd, if_pos hi] at e1
    cases e1
  · rw [Q9 (by simpa using hi), ym, zK] at e1
    cases q : fr[i - n]? with
    | none => rw [q] at e1; cases e1
    | some p =>
     rw [q] at e1
     have e' : (match δ[p.2]? with | some (some (.fz d)) => some (Sl.fz d) | _ => none) = some (.od ds) := zV e1
     split at e' <;> cases e'
theorem iE : ST K FQ cR := λ H0 F0 F σ H δ b Q R e h => by cases e; exact h H F (Grow.refl R.g.s)
theorem df {n : Nat} {fr : List (Str × Nat)} {wi : TI} {g : TG} {tc : TT} {te : TE} {fi : aP -> Option (List PyData)} {fg : PyData -> aP -> Option aP} {fc : aP -> Option Bool} {fe : aP -> Option PyData}
 (hi : SI K wi fi) (hg : SG K g fg) (hl : Fq n fg) (hc : ST K tc fc) (he : SE K te fe) : SO K (zj n fr wi g tc te) (ag n fr fi fg fc fe) := by
 intro H0 F0 F σ H δ rs Q R e h
 obtain ⟨ds, e1, e2⟩ := bind_some e
 split at e2
 · rename_i lim
   refine hi H0 F0 F σ H δ ds _ R e1 λ J H1 F1 g1 it acc hacc => ?_
   have hF1 : F1 acc = none := g1.s.free hacc
   have h0 : H acc = none := g1.h.free hacc
   have R1 := R.grow g1
   let f : PyData -> Option (Option PyData) := λ d => (fg d (fK n fr δ)).bind λ δ1 => (fc δ1).bind λ b => if b = true then (fe δ1).map some else some none
   have e2' : gq f ds = some rs := e2
   refine ⟨λ i m σ' H' => m = ds.length - i /\ i <= ds.length /\ ∃ F' xs us vs, Rep K H1 F1 F' σ' H' (fK n fr δ) /\ F' acc = none /\ H' acc = some (.lst xs) /\ Are K F' xs us /\ us.length <= i /\ gq f (ds.drop i) = some vs /\ rs = us ++ vs, ⟨ds.length, by simp, zU _, F1, [], [], rs, ?_, hF1, ae, rfl, Q2 _, e2', rfl⟩, ?_⟩
   · exact (GO R1 n fr H1 F1 (Grow.refl g1.s)).grow (Grow.fresh g1.s hacc)
   rintro i m σ' H' ⟨rfl, hle, F', xs, us, vs, R', hF', ha, ar, hu, em, er⟩
   have s' : Same F1 F' := R'.g.f
   by_cases hlt : i < ds.length
   · refine .inr ⟨it.go i F' H' hlt s' R'.g.s, λ σ' H' => i + 1 <= ds.length /\ ∃ F' xs us vs, Rep K H1 F1 F' σ' H' (fK n fr δ) /\ F' acc = none /\ H' acc = some (.lst xs) /\ Are K F' xs us /\ us.length <= i + 1 /\ gq f (ds.drop (i + 1)) = some vs /\ rs = us ++ vs, λ σ2 H2 q => ⟨ds.length - (i + 1), by omega, rfl, q⟩, λ x H2 y => ?_⟩
     have hd : ds[i]? = some ds[i] := fI hlt
     obtain ⟨F2, g2, is⟩ := it.yld i _ F' H' x H2 hd s' R'.g.s y
     rw [Em hlt] at em
     obtain ⟨o, q1, q2⟩ := bind_some em
     obtain ⟨δ1, q3, q4⟩ := bind_some q1
     obtain ⟨b, q5, q6⟩ := bind_some q4
     obtain ⟨ll, lh⟩ := hl _ _ _ q3
     have weak : ∀ {Fx : Hp} {σx : St} {Hx : Hp}, Rep K H1 F1 Fx σx Hx δ1 -> Rep K H1 F1 Fx σx Hx (fK n fr δ) := λ {Fx σx Hx} RR => RR.weak ll.symm λ j s es => by
      by_cases hj : j < n
      · unfold fK at es
        rw [Q8 (by simpa using hj), Qd, if_pos hj] at es
        cases es
      · rw [lh j (by omega)]; exact es
     have ha2 : H2 acc = some (.lst xs) := g2.h _ _ ha
     have hF2 : F2 acc = none := g2.o _ _ ha (λ _ z => nomatch z) hF'
     refine hg H1 F1 F2 σ' H2 _ δ1 x ds[i] _ (R'.grow g2) is q3 λ σ3 R3 => ?_
     refine hc H1 F1 F2 σ3 H2 δ1 b _ R3 q5 λ H4 F4 g4 => ?_
     have ha4 : H4 acc = some (.lst xs) := g4.h _ _ ha2
     have hF4 : F4 acc = none := g4.o _ _ ha2 (λ _ z => nomatch z) hF2
     cases b with
     | false =>
      have q6' : (some none : Option (Option PyData)) = some o := q6
      cases q6'
      refine xl ⟨hlt, F4, xs, us, vs, weak (R3.grow g4), hF4, ha4, (ar.same g2.f).same g4.f, by omega, q2, er⟩
     | true =>
      have q6' : (fe δ1).map some = some o := q6
      obtain ⟨yd, q7, q8⟩ := Q3.mp q6'
      subst q8
      obtain ⟨ws, q9, q10⟩ := Q3.mp q2
      subst q10
      refine xm (he H1 F1 F4 σ3 H4 δ1 yd _ (R3.grow g4) q7 λ v H5 F5 g5 i5 => ?_)
      have ha5 : H5 acc = some (.lst xs) := g5.h _ _ ha4
      have hF5 : F5 acc = none := g5.o _ _ ha4 (λ _ z => nomatch z) hF4
      have ar5 : Are K F5 xs us := ((ar.same g2.f).same g4.f).same g5.f
      refine ⟨xs, ha5, ?_, hlt, F5, xs ++ [v], us ++ [yd], ws, ?_, hF5, ae, ar5.append (Are.one i5), ?_, q9, by rw [er]; simp⟩
      · rw [ar5.length]
        exact AH (by omega)
      · have R5 := weak ((R3.grow g4).grow g5)
        exact ⟨⟨R5.g.f, λ b u q => by rw [aZ (aU q hF5)]; exact R5.g.s b u q, λ b u q => by rw [aZ (aU q hacc)]; exact R5.g.h b u q, R5.g.o⟩, R5.len, R5.fz, λ j es q => by
         exfalso
         unfold fK at q
         by_cases hj : j < n
         · rw [Q8 (by simpa using hj), Qd, if_pos hj] at q
           cases q
         · rw [Q9 (by simpa using hj), ym, zK] at q
           cases z : fr[j - n]? with
           | none => rw [z] at q; cases q
           | some p =>
            rw [z] at q
            have e' : (match δ[p.2]? with | some (some (.fz d)) => some (Sl.fz d) | _ => none) = some (.ow es) := zV q
            (split at e' <;> cases e'), R5.ap, λ j es q => by
         exfalso
         unfold fK at q
         by_cases hj : j < n
         · rw [Q8 (by simpa using hj), Qd, if_pos hj] at q
           cases q
         · rw [Q9 (by simpa using hj), ym, zK] at q
           cases z : fr[j - n]? with
           | none => rw [z] at q; cases q
           | some p =>
            rw [z] at q
            have e' : (match δ[p.2]? with | some (some (.fz d)) => some (Sl.fz d) | _ => none) = some (.od es) := zV q
            (split at e' <;> cases e'), R5.ad, R5.tb⟩
      · rw [zQ, List.length_singleton]
        omega
   · have e3 : i = ds.length := by omega
     subst e3
     rw [List.drop_length] at em
     cases em
     rw [Q4] at er
     subst er
     refine .inl ⟨it.stop F' H' s' R'.g.s, ?_⟩
     refine h acc xs H' F' ?_ h0 hF' ha ar
     exact g1.trans R'.g
 · cases e2
end
noncomputable def bn : DFlow -> Option PyData
 | .nx _ => some .none
 | .rt d => some d
 | .ro ds => some (.list ds)
 | _ => none
noncomputable def eY (n : Nat) (ds : List PyData) : aP := ds.map (λ d => some (.fz d)) ++ List.replicate (n - ds.length) none
noncomputable def bQ (n : Nat) (fb : aP -> Option DFlow) (ds : List PyData) : Option PyData := (fb (eY n ds)).bind bn
noncomputable def EQ (n : Nat) (fb : aP -> Option DFlow) (ds : List PyData) : Option (List PyData) := (fb (eY n ds)).bind λ r => match r with
 | .ro ds => some ds
 | _ => none
def bz (K : Fg) (n : Nat) (f : List PyData -> Option PyData) : Sp := λ vs H Q _ => ∃ F ds d, tq K F H /\ vs.length = n /\ Are K F vs ds /\ f ds = some d /\ ∀ v H' F', Grow F H F' H' -> Is K F' v d -> Q v H'
def FY (K : Fg) (n : Nat) (f : List PyData -> Option (List PyData)) : Sp := λ vs H Q _ => ∃ F ds es, tq K F H /\ vs.length = n /\ Are K F vs ds /\ f ds = some es /\ ∀ a xs H' F', Grow F H F' H' -> H a = none -> F' a = none -> H' a = some (.lst xs) -> Are K F' xs es -> Q (.ref a) H'
theorem lV {K : Fg} {F H : Hp} {N : List Str} {vs : List V} {ds : List PyData} (s : tq K F H) (ar : Are K F vs ds) : Rep K H F F (L2.gU N vs) H (eY N.length ds) where
 g := Grow.refl s.1
 tb := s.2
 len := by
  have := ar.length
  simp [L2.gU, eY, this]
 fz := λ i d e => by
  have hl := ar.length
  unfold eY at e
  unfold L2.gU
  by_cases hi : i < ds.length
  · rw [Q8 (by simpa using hi), zK] at e
    obtain ⟨d', e1, e2⟩ := Q3.mp e
    cases e2
    obtain ⟨x, h1, h2⟩ := ar.get e1
    refine ⟨x, ?_, h2⟩
    rw [Q8 (by rw [zJ]; omega), zK, h1]
    rfl
  · rw [Q9 (by simpa using hi), Qd] at e
    split at e <;> cases e
 ow := λ i es e => by
  exfalso
  unfold eY at e
  by_cases hi : i < ds.length
  · rw [Q8 (by simpa using hi), zK] at e
    obtain ⟨d', e1, e2⟩ := Q3.mp e
    cases e2
  · rw [Q9 (by simpa using hi), Qd] at e
    split at e <;> cases e
 ap := λ i j es us a e => by
  exfalso
  unfold eY at e
  by_cases hi : i < ds.length
  · rw [Q8 (by simpa using hi), zK] at e
    obtain ⟨d', e1, e2⟩ := Q3.mp e
    cases e2
  · rw [Q9 (by simpa using hi), Qd] at e
    split at e <;> cases e
 od := λ i es e => by
  exfalso
  unfold eY at e
  by_cases hi : i < ds.length
  · rw [Q8 (by simpa using hi), zK] at e
    obtain ⟨d', e1, e2⟩ := Q3.mp e
    cases e2
  · rw [Q9 (by simpa using hi), Qd] at e
    split at e <;> cases e
 ad := λ i j es us a e => by
  exfalso
  unfold eY at e
  by_cases hi : i < ds.length
  · rw [Q8 (by simpa using hi), zK] at e
    obtain ⟨d', e1, e2⟩ := Q3.mp e
    cases e2
  · rw [Q9 (by simpa using hi), Qd] at e
    split at e <;> cases e
section
variable {P : Program} {w : World} {K : Fg} {mg : Str -> Option Value} {base : Heap}
theorem bK {x qual : Str} {st : Stmt} {f : Addr} {fd : FuncData} {N ps : List Str} {k n m : Nat} {fb : aP -> Option DFlow} (F : Fun K x qual st f fd) (S : FnScope N ps (aK st)) (hN : N.length = n) (hm : ps.length = m)
 (hbody : ∀ (cdv : Value) (A : Around) (outer : List Env) (s : Shared) (H : Hp) (E : XK), Room k (A.deeper (envOfC qual (aK st) s.heap.objs.size f cdv)) ->
  ∃ t, PSs (ke iC P w K mg base N qual (aK st) f cdv A outer s H E).nox (ah st) t /\ SS K t fb) : FnOk P w K mg base iC (k + 1) f fd ps (bz K m (bQ n fb)) := by
 subst hN hm
 refine F.ok S (λ vs H Q E h => ?_) (λ cdv A outer s H vs Q E hr h => ?_)
 · obtain ⟨F', ds, d, _, hl, _⟩ := h
   exact hl
 · obtain ⟨F', ds, d, sF, hl, ar, e, q⟩ := h
   obtain ⟨t, ht, hs⟩ := hbody cdv A outer s H E hr
   obtain ⟨r, e1, e2⟩ := bind_some e
   refine ⟨t, ht, hs H F' F' (L2.gU N vs) H (eY N.length ds) r _ (lV sF ar) e1 ?_⟩
   cases r with
   | nx δ => cases e2; exact λ F2 σ2 H2 R2 _ => q .non H2 F2 R2.g rfl
   | rt d' => cases e2; exact λ F2 v H2 g2 i2 => q v H2 F2 g2 i2
   | ro es =>
    cases e2
    exact λ F2 a xs H2 g2 h0 hf ha ar2 => q (.ref a) H2 _ (g2.frz h0 hf ha) ⟨a, xs, rfl, ae, ar2.same (bU hf _)⟩
   | bk _ => cases e2
   | ct _ => cases e2
theorem CN {x qual : Str} {st : Stmt} {f : Addr} {fd : FuncData} {N ps : List Str} {k n m : Nat} {fb : aP -> Option DFlow} (F : Fun K x qual st f fd) (S : FnScope N ps (aK st)) (hN : N.length = n) (hm : ps.length = m)
 (hbody : ∀ (cdv : Value) (A : Around) (outer : List Env) (s : Shared) (H : Hp) (E : XK), Room k (A.deeper (envOfC qual (aK st) s.heap.objs.size f cdv)) ->
  ∃ t, PSs (ke iC P w K mg base N qual (aK st) f cdv A outer s H E).nox (ah st) t /\ SS K t fb) : FnOk P w K mg base iC (k + 1) f fd ps (FY K m (EQ n fb)) := by
 subst hN hm
 refine F.ok S (λ vs H Q E h => ?_) (λ cdv A outer s H vs Q E hr h => ?_)
 · obtain ⟨F', ds, d, _, hl, _⟩ := h
   exact hl
 · obtain ⟨F', ds, d, sF, hl, ar, e, q⟩ := h
   obtain ⟨t, ht, hs⟩ := hbody cdv A outer s H E hr
   obtain ⟨r, e1, e2⟩ := bind_some e
   refine ⟨t, ht, hs H F' F' (L2.gU N vs) H (eY N.length ds) r _ (lV sF ar) e1 ?_⟩
   cases r with
   | nx δ => cases e2
   | rt d' => cases e2
   | ro es =>
    cases e2
    exact λ F2 a xs H2 g2 h0 hf ha ar2 => q a xs H2 F2 g2 h0 hf ha ar2
   | bk _ => cases e2
   | ct _ => cases e2
end
section
variable {K : Fg}
noncomputable def aF (n : Nat) (g : List PyData -> Option PyData) (fs : aP -> Option (List PyData)) (δ : aP) : Option PyData := (fs δ).bind λ ds => if ds.length = n then g ds else none
noncomputable def jw (n : Nat) (g : List PyData -> Option (List PyData)) (fs : aP -> Option (List PyData)) (δ : aP) : Option (List PyData) := (fs δ).bind λ ds => if ds.length = n then g ds else none
theorem aS {n : Nat} {g : List PyData -> Option PyData} {t : TA} {fs : aP -> Option (List PyData)} (a : SA K t fs) : SE K (nU (bz K n g) [] E0 t) (aF n g fs) := by
 intro H0 F0 F σ H δ d Q R e h
 obtain ⟨ds, e1, e2⟩ := bind_some e
 split at e2
 · rename_i hl
   refine a H0 F0 F σ H δ ds _ R e1 λ vs H1 F1 g1 ar => ⟨F1, ds, d, ⟨g1.s, R.tb.same g1.f⟩, ?_, ?_, e2, λ v H2 F2 g2 i2 => h v H2 F2 (g1.trans g2) i2⟩
   · rw [Q4, ar.length, hl]
   · rw [Q4]; exact ar
 · cases e2
theorem CO {n : Nat} {g : List PyData -> Option (List PyData)} {t : TA} {fs : aP -> Option (List PyData)} (a : SA K t fs) : SO K (nU (FY K n g) [] E0 t) (jw n g fs) := by
 intro H0 F0 F σ H δ d Q R e h
 obtain ⟨ds, e1, e2⟩ := bind_some e
 split at e2
 · rename_i hl
   refine a H0 F0 F σ H δ ds _ R e1 λ vs H1 F1 g1 ar => ⟨F1, ds, d, ⟨g1.s, R.tb.same g1.f⟩, ?_, ?_, e2, λ p xs H2 F2 g2 hn hf hp i2 => h p xs H2 F2 (g1.trans g2) (g1.h.free hn) hf hp i2⟩
   · rw [Q4, ar.length, hl]
   · rw [Q4]; exact ar
 · cases e2
end
section
variable {K : Fg}
noncomputable def AQ (g : Int -> Int -> Option PyData) : PyData -> PyData -> Option PyData
 | .int a, .int b => g a b
 | _, _ => none
theorem uD {g : Int -> Int -> Option PyData} {x y d : PyData} (h : AQ g x y = some d) : ∃ i j, x = .int i /\ y = .int j /\ g i j = some d := by
 unfold AQ at h
 split at h
 · exact ⟨_, _, rfl, rfl, h⟩
 · cases h
theorem uE {g : Int -> Int -> V} {g' : Int -> Int -> PyData} (hg : ∀ i j H, Is K H (g i j) (g' i j)) : tO K (vK g) (AQ λ i j => some (g' i j)) := λ F H x y dx dy d Q s hx hy e k => by
 obtain ⟨i, j, rfl, rfl, e⟩ := uD e
 cases e
 exact ⟨i, j, hx, hy, k _ H F (Grow.refl s) (hg i j F)⟩
theorem FZ {C : Int -> Int -> Prop} {c : Int -> Int -> Bool} {g : Int -> Int -> V} {g' : Int -> Int -> PyData} (hc : ∀ i j, c i j = true -> C i j) (hg : ∀ i j H, Is K H (g i j) (g' i j)) : tO K (rI C g) (AQ λ i j => if c i j = true then some (g' i j) else none) := λ F H x y dx dy d Q s hx hy e k => by
 obtain ⟨i, j, rfl, rfl, e1⟩ := uD e
 split at e1
 · rename_i h
   cases e1
   exact ⟨i, j, hx, hy, hc i j h, k _ H F (Grow.refl s) (hg i j F)⟩
 · cases e1
noncomputable def qV := AQ λ i j => some (.int (i - j))
noncomputable def Eo := AQ λ i j => some (.bool (decide (i < j)))
noncomputable def ER := AQ λ i j => some (.bool (decide (i <= j)))
noncomputable def Ep := AQ λ i j => some (.bool (decide (j < i)))
noncomputable def nZ := AQ λ i j => some (.int (i + j))
noncomputable def j4 (i j : Int) : Bool := (decide (-1000000000000 <= i) && decide (i <= 1000000000000)) || (decide (-1000000000000 <= j) && decide (j <= 1000000000000))
noncomputable def fC := AQ λ i j => if j4 i j = true then some (.int (i * j)) else none
noncomputable def sO (_ j : Int) : Bool := decide (0 < j)
noncomputable def oB := AQ λ i j => if sO i j = true then some (.int (i % j)) else none
theorem vZ : tO K (vK λ i j => .int (i - j)) qV := uE λ _ _ _ => rfl
theorem F6 : tO K (vK λ i j => .bl (decide (i < j))) Eo := uE λ _ _ _ => rfl
theorem AR : tO K (vK λ i j => .bl (decide (i <= j))) ER := uE λ _ _ _ => rfl
theorem DW : tO K (vK λ i j => .bl (decide (j < i))) Ep := uE λ _ _ _ => rfl
theorem ww : tO K (vK λ i j => .int (i + j)) nZ := uE λ _ _ _ => rfl
theorem CP {i j : Int} (h : j4 i j = true) : CMul i j := by
 unfold j4 at h
 simp only [Bool.or_eq_true, Qa, decide_eq_true_eq] at h
 unfold CMul
 omega
theorem iF : tO K (rI CMul λ i j => .int (i * j)) fC := FZ (λ _ _ h => CP h) λ _ _ _ => rfl
theorem pH : tO K (rI (λ _ j => 0 < j) λ i j => .int (i % j)) oB := FZ (λ _ _ h => by simpa [sO] using h) λ _ _ _ => rfl
def DX (K : Fg) : R2 := λ x y H Q => ∃ a b xs ys, x = .ref a /\ y = .ref b /\ H a = some (.tup xs) /\ H b = some (.tup ys) /\ xs.length + ys.length <= sizeLine /\ (ys = [] -> Q (.ref a) H) /\ (xs = [] -> Q (.ref b) H) /\ ∀ p, H p = none -> Q (.ref p) (cZ H p (.tup (xs ++ ys)))
theorem CQ {X : Cx} : OpR X (binaryOp .Add) (DX X.K) := by
 intro pins s σ H x y v u Q I rx ry h
 obtain ⟨a, b, xs, ys, rfl, rfl, ha, hb, hz, q1, q2, q3⟩ := h
 by_cases hx : xs = []
 · cases rx
   cases ry
   obtain ⟨its, r1, p1, _⟩ := I.tuple (SqT.of ha)
   obtain ⟨its2, r2, p2, _⟩ := I.tuple (SqT.of hb)
   exact CF p1 p2 (r1.nil_iff.mpr hx) ⟨.ref b, H, I, rfl, q2 hx⟩
 · exact Bu pins s σ H _ _ v u Q I rx ry ⟨a, b, xs, ys, rfl, rfl, SqT.of ha, SqT.of hb, hx, hz, q1, λ _ p hp => q3 p hp⟩
def F7 : R2 := λ x y H Q => ∃ i j, x = .str i /\ y = .str j /\ i.length + j.length <= sizeLine /\ Q (.str (i ++ j)) H
def DY (K : Fg) : R2 := λ x y H Q => (vK λ i j => .int (i + j)) x y H Q \/ (DX K x y H Q \/ (FO x y H Q \/ F7 x y H Q))
theorem cr {X : Cx} (K : Fg) (h : X.K = K := by rfl) : OpR X (binaryOp .Add) (DY K) := Ds.or ((h ▸ CQ).or (ED.or vN))
noncomputable def bL : PyData -> PyData -> Option PyData
 | .int a, .int b => some (.int (a + b))
 | .tuple a, .tuple b => if a.length + b.length <= fH then some (.tuple (a ++ b)) else none
 | .list a, .list b => if a.length + b.length <= fH then some (.list (a ++ b)) else none
 | .str a, .str b => if a.length + b.length <= fH then some (.str (a ++ b)) else none
 | _, _ => none
theorem cu : tO K (DY K) bL := λ F H x y dx dy d Q s hx hy e k => by
 unfold bL at e
 split at e
 · cases e
   exact .inl ⟨_, _, hx, hy, k _ H F (Grow.refl s) rfl⟩
 · rename_i a b
   split at e
   · rename_i hl
     cases e
     obtain ⟨p, xs, rfl, q, ar⟩ := hx
     obtain ⟨p', ys, rfl, q', ar'⟩ := hy
     refine .inr (.inl ⟨p, p', xs, ys, rfl, rfl, s _ _ q, s _ _ q', by rw [ar.length, ar'.length]; exact ef hl, λ z => ?_, λ z => ?_, λ t ht => ?_⟩)
     · refine k _ H F (Grow.refl s) ⟨p, xs, rfl, q, ?_⟩
       have := ar'.length
       rw [z] at this
       have : b = [] := List.eq_nil_of_length_eq_zero this.symm
       subst this
       rw [Q4]
       exact ar
     · refine k _ H F (Grow.refl s) ⟨p', ys, rfl, q', ?_⟩
       have := ar.length
       rw [z] at this
       have : a = [] := List.eq_nil_of_length_eq_zero this.symm
       subst this
       exact ar'
     · have sn : Same F (cZ F t (.tup (xs ++ ys))) := bU (s.free ht) _
       exact k _ _ _ (Grow.new s ht) ⟨t, _, rfl, ae, (ar.append ar').same sn⟩
   · cases e
 · rename_i a b
   split at e
   · rename_i hl
     cases e
     obtain ⟨p, xs, rfl, q, ar⟩ := hx
     obtain ⟨p', ys, rfl, q', ar'⟩ := hy
     refine .inr (.inr (.inl ⟨p, p', xs, ys, rfl, rfl, s _ _ q, s _ _ q', by rw [ar.length, ar'.length]; exact ef hl, λ t ht => ?_⟩))
     have sn : Same F (cZ F t (.lst (xs ++ ys))) := bU (s.free ht) _
     exact k _ _ _ (Grow.new s ht) ⟨t, _, rfl, ae, (ar.append ar').same sn⟩
   · cases e
 · rename_i a b
   split at e
   · rename_i hl
     cases e
     exact .inr (.inr (.inr ⟨a, b, hx, hy, ef hl, k _ H F (Grow.refl s) rfl⟩))
   · cases e
 · cases e
theorem sP {F : Hp} {xs : List V} {ds : List PyData} {i : Int} {d : PyData} (ar : Are K F xs ds) (e : nW ds i = some d) : ∃ v, nW xs i = some v /\ Is K F v d := by
 unfold nW at e ⊢
 rw [<- ar.length] at e
 obtain ⟨j, e1, e2⟩ := bind_some e
 rw [e1]
 exact ar.get e2
noncomputable def v0 : PyData -> Option (List Int)
 | .dict [(.none, .list ds)] => jK ds
 | _ => none
theorem AS {F : Hp} {x : V} {d : PyData} {ns : List Int} (e : v0 d = some ns) (h : Is K F x d) : ∃ a, x = .ref a /\ SqL K F a (ns.map V.int) := by
 unfold v0 at e
 split at e
 · rename_i ds
   have ed := fQ e
   subst ed
   obtain ⟨a, rfl, h⟩ := h
   rcases h with ⟨ms, e1, q⟩ | ⟨m, _, q⟩ | ⟨nm, z, _⟩ | ⟨m, _, q⟩
   · have : ns = ms := by
      injection e1 with e1 _
      injection e1 with _ e1
      injection e1 with e1
      have := congrArg jK e1
      rw [br, br] at this
      exact zV this
     subst this
     exact ⟨a, rfl, q⟩
   · obtain ⟨z, m', _, q, _⟩ := q
     have := q.1
     cases this
   · cases z
   · cases q.1
 · cases e
noncomputable def bS : PyData -> PyData -> Option PyData
 | .tuple ds, .int i => nW ds i
 | .list ds, .int i => nW ds i
 | .str z, .int i => if z.length <= fH then (nW z.cps.toList i).map λ c => .str ⟨#[c]⟩ else none
 | d, .int i => (v0 d).bind λ ns => (nW ns i).map PyData.int
 | _, _ => none
theorem bV {X : Cx} (K : Fg) (h : X.K = K := by rfl) : IxR X (Fl K) := h ▸ EA
theorem wx {α β : Type} (f : α -> β) (l : List α) (i : Int) : nW (l.map f) i = (nW l i).map f := by
 unfold nW
 rw [zJ]
 cases vQ l.length i with
 | none => rfl
 | some j => simp
theorem bb : tO K (Fl K) bS := λ F H x y dx dy d Q s hx hy e k => by
 unfold bS at e
 split at e
 · obtain ⟨p, xs, rfl, q, ar⟩ := hx
   obtain ⟨v, e1, i1⟩ := sP ar e
   exact .inr (.inl ⟨p, xs, _, v, rfl, hy, SqT.of (s _ _ q), e1, k v H F (Grow.refl s) i1⟩)
 · obtain ⟨p, xs, rfl, q, ar⟩ := hx
   obtain ⟨v, e1, i1⟩ := sP ar e
   exact .inl ⟨p, xs, _, v, rfl, hy, SqL.of (s _ _ q), e1, k v H F (Grow.refl s) i1⟩
 · rename_i z i
   split at e
   · rename_i hl
     obtain ⟨c, e1, e2⟩ := Q3.mp e
     subst e2
     exact .inr (.inr ⟨z, i, c, hx, hy, ef hl, e1, k _ H F (Grow.refl s) rfl⟩)
   · cases e
 · rename_i i _ _ _
   obtain ⟨ns, e1, e2⟩ := bind_some e
   obtain ⟨n, e3, e4⟩ := Q3.mp e2
   subst e4
   obtain ⟨a, rfl, q⟩ := AS e1 hx
   exact .inl ⟨a, _, i, .int n, rfl, hy, s.seq q, by rw [wx, e3]; rfl, k _ H F (Grow.refl s) rfl⟩
 · cases e
noncomputable def v9 : PyData -> Option Nat
 | .tuple ds => some ds.length
 | .list ds => some ds.length
 | .str z => if z.length <= fH then some z.length else none
 | d => (v0 d).map List.length
def DZ (K : Fg) : List V -> Hp -> VK -> Prop := λ xs H Q => ∃ x n, xs = [x] /\ Du K x H n /\ Q (.int (n : Nat)) H
theorem gI {X : Cx} (K : Fg) (h : X.K = K := by rfl) : dq X (.builtin "len") (DZ K) := h ▸ za
noncomputable def cz : List PyData -> Option PyData
 | [d] => (v9 d).map λ n : Nat => .int (n : Nat)
 | _ => none
theorem CS {F H : Hp} {x : V} {d : PyData} {n : Nat} (s : Same F H) (h : Is K F x d) (e : v9 d = some n) : Du K x H n := by
 unfold v9 at e
 split at e
 · cases e
   obtain ⟨p, xs, rfl, q, ar⟩ := h
   exact .inr ⟨xs, SqT.of (s _ _ q), ar.length.symm⟩
 · cases e
   obtain ⟨p, xs, rfl, q, ar⟩ := h
   exact .inl ⟨xs, SqL.of (s _ _ q), ar.length.symm⟩
 · rename_i z
   split at e
   · rename_i hl
     cases e
     rw [show x = .str z from h]
     exact ⟨ef hl, rfl⟩
   · cases e
 · obtain ⟨ns, e1, e2⟩ := Q3.mp e
   subst e2
   obtain ⟨a, rfl, q⟩ := AS e1 h
   exact .inl ⟨_, s.seq q, by rw [zJ]⟩
theorem iG : pC K (DZ K) cz := λ F H xs ds d Q s ar e k => by
 unfold cz at e
 split at e
 · obtain ⟨n, e1, e2⟩ := Q3.mp e
   subst e2
   obtain ⟨x, r, rfl, hx, hr⟩ := ar
   rw [show r = [] from hr]
   exact ⟨x, n, rfl, CS s hx e1, k _ H F (Grow.refl s) rfl⟩
 · cases e
noncomputable def sQ {α : Type} (xs : List α) (lo hi : Option Int) : List α := (xs.drop (HT.eS xs.length 0 lo)).take (HT.eS xs.length xs.length hi - HT.eS xs.length 0 lo)
def ES (K : Fg) : V -> Option Int -> Option Int -> Hp -> VK -> Prop := λ x lo hi H Q => (FR K x lo hi H Q \/ FI K x lo hi H Q) \/ FN K x lo hi H Q
theorem va {X : Cx} (K : Fg) (h : X.K = K := by rfl) : SlR X (ES K) := h ▸ (CD.or Dx).or By
def G9 (K : Fg) (r : V -> Option Int -> Option Int -> Hp -> VK -> Prop) (g : PyData -> Option Int -> Option Int -> Option PyData) : Prop := ∀ (F H : Hp) (x : V) (lo hi : Option Int) (dx d : PyData) (Q : VK), Same F H -> Is K F x dx -> g dx lo hi = some d -> (∀ v H' F', Grow F H F' H' -> Is K F' v d -> Q v H') -> r x lo hi H Q
noncomputable def Er : PyData -> Option Int -> Option Int -> Option PyData
 | .tuple ds, lo, hi => some (.tuple (sQ ds lo hi))
 | .list ds, lo, hi => some (.list (sQ ds lo hi))
 | _, _, _ => none
theorem wy {F : Hp} {xs : List V} {ds : List PyData} (ar : Are K F xs ds) (lo hi : Option Int) : Are K F (tU xs lo hi) (sQ ds lo hi) := by
 unfold tU sQ
 rw [ar.length]
 exact (ar.drop _).take _
theorem F8 : G9 K (ES K) Er := λ F H x lo hi dx d Q s hx e k => by
 unfold Er at e
 split at e
 · cases e
   obtain ⟨p, xs, rfl, q, ar⟩ := hx
   by_cases hw : HT.eS xs.length 0 lo = 0 /\ HT.eS xs.length xs.length hi = xs.length
   · refine .inl (.inl ⟨p, xs, rfl, SqT.of (s _ _ q), hw.1, hw.2, k _ H F (Grow.refl s) ⟨p, xs, rfl, q, ?_⟩⟩)
     unfold sQ
     rw [<- ar.length, hw.1, hw.2, List.drop_zero, Nat.sub_zero, ar.length, Bj]
     exact ar
   · refine .inl (.inr ⟨p, xs, rfl, SqT.of (s _ _ q), hw, λ t ht => ?_⟩)
     exact k _ _ _ (Grow.new s ht) ⟨t, _, rfl, ae, (wy ar lo hi).same (bU (s.free ht) _)⟩
 · cases e
   obtain ⟨p, xs, rfl, q, ar⟩ := hx
   refine .inr ⟨p, xs, rfl, SqL.of (s _ _ q), λ t ht => ?_⟩
   exact k _ _ _ (Grow.new s ht) ⟨t, _, rfl, ae, (wy ar lo hi).same (bU (s.free ht) _)⟩
 · cases e
def Fs (K : Fg) (to : TO) (f : aP -> Option (Option Int)) : Prop := ∀ (H0 F0 F : Hp) (σ : St) (H : Hp) (δ : aP) (o : Option Int) (Q : Option Int -> Hp -> Prop), Rep K H0 F0 F σ H δ -> f δ = some o -> (∀ H' F', Grow F H F' H' -> Q o H') -> to σ H Q
noncomputable def gJ (_ : aP) : Option (Option Int) := some none
noncomputable def kJ (f : aP -> Option PyData) (δ : aP) : Option (Option Int) := (f δ).bind λ d => match d with
 | .int i => some (some i)
 | _ => none
theorem sR : Fs K wj gJ := λ H0 F0 F σ H δ o Q R e h => by cases e; exact h H F (Grow.refl R.g.s)
theorem sS {te : TE} {f : aP -> Option PyData} (a : SE K te f) : Fs K (DQ te) (kJ f) := λ H0 F0 F σ H δ o Q R e h => by
 obtain ⟨d, e1, e2⟩ := bind_some e
 split at e2
 · rename_i i
   cases e2
   exact a H0 F0 F σ H δ _ _ R e1 λ v H1 F1 g1 i1 => ⟨i, i1, h H1 F1 g1⟩
 · cases e2
noncomputable def Be (f : aP -> Option PyData) (l h : aP -> Option (Option Int)) (δ : aP) : Option PyData := (f δ).bind λ d => (l δ).bind λ lo => (h δ).bind λ hi => Er d lo hi
theorem AT {te : TE} {tl th : TO} {f : aP -> Option PyData} {l u : aP -> Option (Option Int)} (a : SE K te f) (b : Fs K tl l) (c : Fs K th u) : SE K (GY (ES K) te tl th) (Be f l u) := λ H0 F0 F σ H δ d Q R e h => by
 obtain ⟨dx, e1, e⟩ := bind_some e
 obtain ⟨lo, e2, e⟩ := bind_some e
 obtain ⟨hi, e3, e⟩ := bind_some e
 refine a H0 F0 F σ H δ dx _ R e1 λ v H1 F1 g1 i1 => b H0 F0 F1 σ H1 δ lo _ (R.grow g1) e2 λ H2 F2 g2 => c H0 F0 F2 σ H2 δ hi _ ((R.grow g1).grow g2) e3 λ H3 F3 g3 => ?_
 exact F8 F3 H3 v lo hi dx d Q g3.s ((i1.same g2.f).same g3.f) e λ v' H4 F4 g4 i4 => h v' H4 F4 (g1.trans (g2.trans (g3.trans g4))) i4
mutual
theorem F9 {H : Hp} : ∀ {x : V} (d : PyData), d.canLay0 = true -> Is K H x d -> L2.IsD K H x d
 | _, .none, _, h => h
 | _, .bool _, _, h => h
 | _, .int _, _, h => h
 | _, .str _, _, h => h
 | _, .list ds, c, h => by
  obtain ⟨a, xs, e, q, r⟩ := h
  exact ⟨a, xs, e, SqL.of q, toDs ds (by simpa [PyData.canLay0] using c) r⟩
 | _, .tuple ds, c, h => by
  obtain ⟨a, xs, e, q, r⟩ := h
  exact ⟨a, xs, e, SqT.of q, toDs ds (by simpa [PyData.canLay0] using c) r⟩
 | _, .dict _, c, h => by simp [PyData.canLay0] at c
theorem toDs {H : Hp} : ∀ {xs : List V} (ds : List PyData), PyData.canLayAll0 ds = true -> Are K H xs ds -> L2.AllD K H xs ds
 | _, [], _, h => h
 | _, d :: ds, c, h => by
  obtain ⟨x, r, e, q, t⟩ := h
  simp only [PyData.canLayAll0, Qa] at c
  exact ⟨x, r, e, F9 d c.1 q, toDs ds c.2 t⟩
end
noncomputable def wz (d : PyData) : Bool := d.canLay0 && decide (d.depth <= 60)
theorem hU {d : PyData} (h : wz d = true) : zt d := by
 unfold wz at h
 rw [Qa, decide_eq_true_eq] at h
 exact h
noncomputable def jW (a b : PyData) : Option PyData := if (wz a && wz b) = true then some (.bool (PyData.eqv a b)) else none
noncomputable def tP (a b : PyData) : Option PyData := if (wz a && wz b) = true then some (.bool (!PyData.eqv a b)) else none
theorem lW : tO K (xq K false) jW := λ F H x y dx dy d Q s hx hy e k => by
 unfold jW at e
 split at e
 · rename_i c
   rw [Qa] at c
   cases e
   exact ⟨dx, dy, F9 dx (hU c.1).1 (hx.same s), F9 dy (hU c.2).1 (hy.same s), hU c.1, hU c.2, k _ H F (Grow.refl s) rfl⟩
 · cases e
theorem xA : tO K (xq K true) tP := λ F H x y dx dy d Q s hx hy e k => by
 unfold tP at e
 split at e
 · rename_i c
   rw [Qa] at c
   cases e
   exact ⟨dx, dy, F9 dx (hU c.1).1 (hx.same s), F9 dy (hU c.2).1 (hy.same s), hU c.1, hU c.2, k _ H F (Grow.refl s) rfl⟩
 · cases e
noncomputable def ko (g g' : PyData -> PyData -> Option PyData) (fa fb fc : aP -> Option PyData) (δ : aP) : Option PyData := (fa δ).bind λ a => (fb δ).bind λ b => (g a b).bind λ r => match r with
 | .bool true => (fc δ).bind λ c => g' b c
 | .bool false => some (.bool false)
 | _ => none
theorem AU {r r' : R2} {g g' : PyData -> PyData -> Option PyData} {ta tb tc : TE} {fa fb fc : aP -> Option PyData} (o : tO K r g) (o' : tO K r' g') (a : SE K ta fa) (b : SE K tb fb) (c : SE K tc fc) : SE K (zX r r' ta tb tc) (ko g g' fa fb fc) := λ H0 F0 F σ H δ d Q R e h => by
 obtain ⟨dx, ex, e⟩ := bind_some e
 obtain ⟨dy, ey, e⟩ := bind_some e
 obtain ⟨dz, ez, e⟩ := bind_some e
 refine a H0 F0 F σ H δ dx _ R ex λ v H1 F1 g1 i1 => b H0 F0 F1 σ H1 δ dy _ (R.grow g1) ey λ w H2 F2 g2 i2 => ?_
 refine o F2 H2 v w dx dy dz _ g2.s (i1.same g2.f) i2 ez λ v' H3 F3 g3 i3 => ?_
 split at e
 · refine ⟨true, i3, xm ?_⟩
   obtain ⟨du, eu, e⟩ := bind_some e
   refine c H0 F0 F3 σ H3 δ du _ ((R.grow (g1.trans g2)).grow g3) eu λ u H4 F4 g4 i4 => ?_
   exact o' F4 H4 w u dy du d Q g4.s ((i2.same g3.f).same g4.f) i4 e λ v5 H5 F5 g5 i5 => h v5 H5 F5 (g1.trans (g2.trans (g3.trans (g4.trans g5)))) i5
 · cases e
   exact ⟨false, i3, xl (h _ H3 F3 (g1.trans (g2.trans g3)) rfl)⟩
 · cases e
noncomputable def yk : PyData -> String
 | .none => "NoneType"
 | .bool _ => "bool"
 | .int _ => "int"
 | .str _ => "str"
 | .list _ => "list"
 | .tuple _ => "tuple"
 | .dict _ => "dict"
noncomputable def iR (d : PyData) (n : String) : Bool := yk d == n || (yk d == "bool" && n == "int")
def AV (K : Fg) : List V -> Hp -> VK -> Prop := λ xs H Q => ∃ x n d, xs = [x, .ty n] /\ Is K H x d /\ (d matches .dict _) = false /\ n ∈ ["int", "bool", "str", "list", "tuple"] /\ Q (.bl (iR d n)) H
end
section
variable {X : Cx}
theorem GP {K : Fg} (d : PyData) (hd : (d matches .dict _) = false) (n : String) (hn : n ∈ ["int", "bool", "str", "list", "tuple"]) : PySem.W.kitOne K (.type (yk d)) (.type n) = some (iR d n) := by
 have go : ∀ t ∈ ["NoneType", "bool", "int", "str", "list", "tuple"], ∀ n ∈ ["int", "bool", "str", "list", "tuple"],
  (if (Value.type t == Value.type n) = true then some true else if PySem.W.kitMeta n = true then (fastBuiltinMro t).map (·.contains (.type n)) else none) = some (t == n || (t == "bool" && n == "int")) := by decide +kernel
 have ht : yk d ∈ ["NoneType", "bool", "int", "str", "list", "tuple"] := by
  cases d <;> simp [yk] at hd ⊢
 exact go _ ht n hn
theorem xz : dq X (.builtin "isinstance") (AV X.K) := by
 intro pins s σ H xs us Q I rv h
 obtain ⟨x, n, d, rfl, hx, hd, hn, q⟩ := h
 obtain ⟨u, w', rfl, r1, r2⟩ := rv.two
 cases r2
 have e := GP (K := X.K) d hd n hn
 have fin : ∀ tk, EP X pins σ Q (.bool (iR d n)) { s with toks := tk } := λ tk => ⟨.bl _, H, I.tok tk, rfl, q⟩
 cases d with
 | none => exact g9 I r1 (by rw [show x = .non from hx]; exact TyOf.non) e fin
 | bool b => exact g9 I r1 (by rw [show x = .bl b from hx]; exact TyOf.bl b) e fin
 | int b => exact g9 I r1 (by rw [show x = .int b from hx]; exact TyOf.int b) e fin
 | str b => exact g9 I r1 (by rw [show x = .str b from hx]; exact TyOf.str b) e fin
 | list ds =>
  obtain ⟨a, ys, rfl, q', _⟩ := hx
  exact g9 I r1 (TyOf.lst q') e fin
 | tuple ds =>
  obtain ⟨a, ys, rfl, q', _⟩ := hx
  exact g9 I r1 (TyOf.tup q') e fin
 | dict _ => cases hd
theorem jx (K : Fg) (h : X.K = K := by rfl) : dq X (.builtin "isinstance") (AV K) := h ▸ xz
end
section
variable {K : Fg}
noncomputable def fR (n : String) (f : aP -> Option PyData) (δ : aP) : Option PyData := (f δ).bind λ d => match d with
 | .dict _ => none
 | d => some (.bool (iR d n))
theorem nB {te : TE} {n : String} {f : aP -> Option PyData} (a : SE K te f) (hn : n ∈ ["int", "bool", "str", "list", "tuple"] := by decide) : SE K (Bq (AV K) (gS te (gS (tC (.ty n)) nw))) (fR n f) := λ H0 F0 F σ H δ d Q R e h => by
 obtain ⟨dx, e1, e2⟩ := bind_some e
 refine a H0 F0 F σ H δ dx _ R e1 λ v H1 F1 g1 i1 => ?_
 cases dx with
 | dict _ => cases e2
 | none => cases e2; exact ⟨v, n, _, rfl, i1.same g1.s, rfl, hn, h _ H1 F1 g1 rfl⟩
 | bool _ => cases e2; exact ⟨v, n, _, rfl, i1.same g1.s, rfl, hn, h _ H1 F1 g1 rfl⟩
 | int _ => cases e2; exact ⟨v, n, _, rfl, i1.same g1.s, rfl, hn, h _ H1 F1 g1 rfl⟩
 | str _ => cases e2; exact ⟨v, n, _, rfl, i1.same g1.s, rfl, hn, h _ H1 F1 g1 rfl⟩
 | list _ => cases e2; exact ⟨v, n, _, rfl, i1.same g1.s, rfl, hn, h _ H1 F1 g1 rfl⟩
 | tuple _ => cases e2; exact ⟨v, n, _, rfl, i1.same g1.s, rfl, hn, h _ H1 F1 g1 rfl⟩
noncomputable def kq : List PyData -> Option (List Bool)
 | [] => some []
 | .bool n :: r => (kq r).map (n :: ·)
 | _ :: _ => none
theorem n6 : ∀ {ds : List PyData} {ns : List Bool}, kq ds = some ns -> ds = ns.map PyData.bool
 | [], ns, h => by cases h; rfl
 | .bool n :: r, ns, h => by
  obtain ⟨ms, e1, e2⟩ := Q3.mp h
  subst e2
  rw [n6 e1]; rfl
 | .none :: r, ns, h => by cases h
 | .int _ :: r, ns, h => by cases h
 | .str _ :: r, ns, h => by cases h
 | .list _ :: r, ns, h => by cases h
 | .tuple _ :: r, ns, h => by cases h
 | .dict _ :: r, ns, h => by cases h
theorem gr : ∀ ns : List Bool, kq (ns.map PyData.bool) = some ns
 | [] => rfl
 | n :: r => by
  show (kq (r.map PyData.bool)).map (n :: ·) = _
  rw [gr r]; rfl
noncomputable def oC : List PyData -> Option PyData
 | [.list ds] => (kq ds).map λ bs => .bool (bs.all id)
 | _ => none
theorem vb : pC K (EI K) oC := λ F H xs ds d Q s ar e k => by
 unfold oC at e
 split at e
 · obtain ⟨bs, e1, e2⟩ := Q3.mp e
   subst e2
   obtain ⟨x, r, rfl, hx, hr⟩ := ar
   rw [show r = [] from hr]
   obtain ⟨p, ys, rfl, q, ar⟩ := hx
   have := n6 e1
   subst this
   have := Are.bools.mp ar
   subst this
   exact ⟨p, bs, rfl, SqL.of (s _ _ q), k _ H F (Grow.refl s) rfl⟩
 · cases e
noncomputable def lX : List PyData -> Option PyData
 | [.list ds] => some (.tuple ds)
 | [.tuple ds] => some (.tuple ds)
 | _ => none
theorem sT : pC K (t5 K) lX := λ F H xs ds d Q s ar e k => by
 unfold lX at e
 split at e
 · cases e
   obtain ⟨x, r, rfl, hx, hr⟩ := ar
   rw [show r = [] from hr]
   obtain ⟨p, ys, rfl, q, ar⟩ := hx
   exact ⟨p, ys, rfl, .inl ⟨SqL.of (s _ _ q), λ t ht => k _ _ _ (Grow.new s ht) ⟨t, _, rfl, ae, ar.same (bU (s.free ht) _)⟩⟩⟩
 · cases e
   obtain ⟨x, r, rfl, hx, hr⟩ := ar
   rw [show r = [] from hr]
   obtain ⟨p, ys, rfl, q, ar⟩ := hx
   exact ⟨p, ys, rfl, .inr ⟨SqT.of (s _ _ q), k _ H F (Grow.refl s) ⟨p, ys, rfl, q, ar⟩⟩⟩
 · cases e
noncomputable def dE (fs : aP -> Option (List PyData)) (δ : aP) : Option (List PyData) := (fs δ).bind λ ds => match ds with
 | [d] => iQ d
 | _ => none
theorem iS {t : TA} {fs : aP -> Option (List PyData)} (a : SA K t fs) : SO K (Bq (wq K) t) (dE fs) := λ H0 F0 F σ H δ es Q R e h => by
 obtain ⟨ds, e1, e2⟩ := bind_some e
 refine a H0 F0 F σ H δ ds _ R e1 λ vs H1 F1 g1 ar => ?_
 split at e2
 · rename_i d
   obtain ⟨x, r, rfl, hx, hr⟩ := ar
   rw [show r = [] from hr]
   cases d with
   | list us =>
    cases e2
    obtain ⟨p, ys, rfl, q, ar⟩ := hx
    exact ⟨p, ys, rfl, .inl (SqL.of (g1.s _ _ q)), λ l hl => h l ys _ F1 (g1.trans (Grow.fresh g1.s hl)) (g1.h.free hl) (g1.s.free hl) ae ar⟩
   | tuple us =>
    cases e2
    obtain ⟨p, ys, rfl, q, ar⟩ := hx
    exact ⟨p, ys, rfl, .inr (SqT.of (g1.s _ _ q)), λ l hl => h l ys _ F1 (g1.trans (Grow.fresh g1.s hl)) (g1.h.free hl) (g1.s.free hl) ae ar⟩
   | _ => cases e2
 · cases e2
noncomputable def lY (neg : Bool) (i : Nat) (f : aP -> Option PyData) (δ : aP) : Option PyData := match δ[i]? with
 | some (some (.ow ds)) => (f δ).bind λ d => match d with
  | .int n => (jK ds).bind λ ns => some (.bool (if neg = true then !decide (n ∈ ns) else decide (n ∈ ns)))
  | _ => none
 | _ => none
theorem AW {te : TE} {f : aP -> Option PyData} (neg : Bool) (i : Nat) (a : SE K te f) : SE K (Do (GH K neg) te (mj i)) (lY neg i f) := λ H0 F0 F σ H δ d Q R e h => by
 unfold lY at e
 split at e
 · rename_i ds q
   obtain ⟨dx, e1, e2⟩ := bind_some e
   split at e2
   · rename_i n
     obtain ⟨ns, e3, e4⟩ := bind_some e2
     cases e4
     obtain ⟨p, xs, q1, q2, q3, q4, q5⟩ := R.ow i ds q
     have ed := fQ e3
     subst ed
     have ex := Are.ints.mp q5
     subst ex
     refine a H0 F0 F σ H δ _ _ R e1 λ v H1 F1 g1 i1 => ⟨.ref p, q1, p, _, rfl, .inl (SqL.of (g1.h _ _ q2)), ?_, qx _, ?_⟩
     · rw [show v = .int n from i1]; rfl
     · rw [show v = .int n from i1, wr]
       exact h _ H1 F1 g1 (by cases neg <;> rfl)
   · cases e2
 · cases e
end
section
variable {X : Cx}
end
section
variable {K : Fg}
noncomputable def G3 (neg : Bool) (a b : PyData) : Option PyData := (iQ b).bind λ ds => if (wz a && ds.all wz) = true then some (.bool (if neg = true then !(ds.any λ e => PyData.eqv e a) else ds.any λ e => PyData.eqv e a)) else none
theorem xB {ds : List PyData} (h : ∀ d ∈ ds, d.canLay0 = true) : PyData.canLayAll0 ds = true := by
 induction ds with
 | nil => simp [PyData.canLayAll0]
 | cons d r ih => simp [PyData.canLayAll0, h d oW, ih λ x hx => h x (nv _ hx)]
end
theorem AX {K : Fg} {f : List PyData -> Option PyData} {H : Hp} {a : Addr} {ns : List Int} (h : f [iO ns] = some (.bool true)) (q : SqL K H a (ns.map V.int)) (tb : Tb K H) : bz K 1 f [.ref a] H (λ v _ => v = .bl true) λ _ _ _ => False :=
 ⟨H, [iO ns], .bool true, ⟨Same.refl _, tb⟩, rfl, ⟨.ref a, [], rfl, ⟨a, rfl, .inl ⟨ns, rfl, q⟩⟩, rfl⟩, h, λ v H' F' _ i => i⟩
end DL
namespace DL
open PySem L2
theorem cT {fg : PyData -> aP -> Option aP} {fb : aP -> Option DFlow} : ∀ {ds : List PyData} (P : Nat -> aP -> Prop) {δ : aP}, P 0 δ ->
 (∀ (i : Nat) (hi : i < ds.length) (δ : aP), P i δ -> ∃ δ1 δ2, fg ds[i] δ = some δ1 /\ fb δ1 = some (.nx δ2) /\ P (i + 1) δ2) -> ∃ δ', jL fg fb ds δ = some (.nx δ') /\ P ds.length δ'
 | [], P, δ, h0, _ => ⟨δ, rfl, h0⟩
 | d :: r, P, δ, h0, h => by
  obtain ⟨δ1, δ2, e1, e2, h1⟩ := h 0 (by simp) δ h0
  obtain ⟨δ', e3, h3⟩ := cT (ds := r) (λ i => P (i + 1)) h1 λ i hi δ hp => by
   have := h (i + 1) (by simpa using hi) δ hp
   simpa using this
  refine ⟨δ', ?_, h3⟩
  have e1' : fg d δ = some δ1 := e1
  show ((fg d δ).bind λ δ1 => (fb δ1).bind λ fl => match fl with
   | .nx δ2 => jL fg fb r δ2
   | .ct δ2 => jL fg fb r δ2
   | .bk δ2 => some (.nx δ2)
   | .rt v => some (.rt v)
   | .ro v => some (.ro v)) = _
  rw [e1']
  show ((fb δ1).bind λ fl => match fl with
   | .nx δ2 => jL fg fb r δ2
   | .ct δ2 => jL fg fb r δ2
   | .bk δ2 => some (.nx δ2)
   | .rt v => some (.rt v)
   | .ro v => some (.ro v)) = _
  rw [e2]
  exact e3
theorem rM {f : PyData -> Option (Option PyData)} {g : PyData -> PyData} : ∀ {ds : List PyData}, (∀ d ∈ ds, f d = some (some (g d))) -> gq f ds = some (ds.map g)
 | [], _ => rfl
 | d :: r, h => by
  show ((f d).bind λ o => match o with
   | some y => (gq f r).map (y :: ·)
   | none => gq f r) = _
  rw [h d oW]
  show (gq f r).map (g d :: ·) = _
  rw [rM λ x hx => h x (nv _ hx)]
  rfl
theorem lZ {f : PyData -> Option (Option PyData)} {p : PyData -> Bool} {g : PyData -> PyData} : ∀ {ds : List PyData}, (∀ d ∈ ds, f d = some (if p d = true then some (g d) else none)) -> gq f ds = some ((ds.filter p).map g)
 | [], _ => rfl
 | d :: r, h => by
  have ih := lZ (ds := r) (f := f) (p := p) (g := g) λ x hx => h x (nv _ hx)
  show ((f d).bind λ o => match o with
   | some y => (gq f r).map (y :: ·)
   | none => gq f r) = _
  rw [h d oW]
  cases e : p d with
  | true =>
   show (gq f r).map (g d :: ·) = _
   rw [ih, List.filter_cons, e]
   rfl
  | false =>
   show gq f r = _
   rw [ih, List.filter_cons, e]
   rfl
theorem dF {n : Nat} {fr : List (Str × Nat)} {fi : aP -> Option (List PyData)} {fg : PyData -> aP -> Option aP} {fc : aP -> Option Bool} {fe : aP -> Option PyData} {δ : aP} {ds : List PyData} (g : PyData -> PyData) (h1 : fi δ = some ds) (hl : ds.length <= fH)
 (h : ∀ d ∈ ds, ((fg d (fK n fr δ)).bind λ δ1 => (fc δ1).bind λ b => if b = true then (fe δ1).map some else some none) = some (some (g d))) : ag n fr fi fg fc fe δ = some (ds.map g) := by
 unfold ag
 rw [h1]
 show (if ds.length <= fH then _ else none) = _
 rw [if_pos hl]
 exact rM h
theorem iH {n : Nat} {fr : List (Str × Nat)} {fi : aP -> Option (List PyData)} {fg : PyData -> aP -> Option aP} {fc : aP -> Option Bool} {fe : aP -> Option PyData} {δ : aP} {ds : List PyData} (p : PyData -> Bool) (g : PyData -> PyData) (h1 : fi δ = some ds) (hl : ds.length <= fH)
 (h : ∀ d ∈ ds, ((fg d (fK n fr δ)).bind λ δ1 => (fc δ1).bind λ b => if b = true then (fe δ1).map some else some none) = some (if p d = true then some (g d) else none)) : ag n fr fi fg fc fe δ = some ((ds.filter p).map g) := by
 unfold ag
 rw [h1]
 show (if ds.length <= fH then _ else none) = _
 rw [if_pos hl]
 exact lZ h
noncomputable def aM (c : List Int) : PyData := .tuple (c.map PyData.int)
mutual
noncomputable def nb : PyData -> Bool
 | .none => true
 | .bool _ => false
 | .int _ => true
 | .str _ => true
 | .list ds => nbs ds
 | .tuple ds => nbs ds
 | .dict _ => false
noncomputable def nbs : List PyData -> Bool
 | [] => true
 | d :: r => nb d && nbs r
end
mutual
theorem lf : ∀ (a b : PyData), nb a = true -> nb b = true -> (PyData.eqv a b = true ↔ a = b)
 | .none, b, _, hb => by cases b <;> simp [PyData.eqv, nb] at hb ⊢
 | .bool _, _, ha, _ => by simp [nb] at ha
 | .int i, b, _, hb => by cases b <;> simp [PyData.eqv, nb] at hb ⊢
 | .str i, b, _, hb => by cases b <;> simp [PyData.eqv, nb] at hb ⊢
 | .list xs, b, ha, hb => by
  cases b with
  | list ys =>
   have := eqvs_iff xs ys (by simpa [nb] using ha) (by simpa [nb] using hb)
   simp [PyData.eqv, this]
  | _ => simp [PyData.eqv, nb] at hb ⊢
 | .tuple xs, b, ha, hb => by
  cases b with
  | tuple ys =>
   have := eqvs_iff xs ys (by simpa [nb] using ha) (by simpa [nb] using hb)
   simp [PyData.eqv, this]
  | _ => simp [PyData.eqv, nb] at hb ⊢
 | .dict _, _, ha, _ => by simp [nb] at ha
theorem eqvs_iff : ∀ (a b : List PyData), nbs a = true -> nbs b = true -> (PyData.eqvAll a b = true ↔ a = b)
 | [], [], _, _ => by simp [PyData.eqvAll]
 | [], _ :: _, _, _ => by simp [PyData.eqvAll]
 | _ :: _, [], _, _ => by simp [PyData.eqvAll]
 | x :: xs, y :: ys, ha, hb => by
  simp only [nbs, Qa] at ha hb
  have h1 := lf x y ha.1 hb.1
  have h2 := eqvs_iff xs ys ha.2 hb.2
  simp [PyData.eqvAll, h1, h2]
end
theorem xC {ds : List PyData} : nbs ds = true ↔ ∀ d ∈ ds, nb d = true := by
 induction ds with
 | nil => simp [nbs]
 | cons d r ih => simp [nbs, ih]
theorem sU {ds : List PyData} (h : ∀ d ∈ ds, nb d = true) : nb (.list ds) = true := by simpa [nb] using xC.mpr h
theorem AY {ds : List PyData} (h : ∀ d ∈ ds, nb d = true) : nb (.tuple ds) = true := by simpa [nb] using xC.mpr h
theorem oN (c : List Int) : nb (aM c) = true := AY λ d hd => by
 obtain ⟨n, _, rfl⟩ := Qc.mp hd
 rfl
def okN (n : Nat) (d : PyData) : Prop := d.canLay0 = true /\ d.depth <= n
theorem okN.ok {n : Nat} {d : PyData} (h : okN n d) (hn : n <= 60 := by decide) : wz d = true := by
 unfold wz
 rw [Qa, decide_eq_true_eq]
 exact ⟨h.1, Qf h.2 hn⟩
theorem jy (i : Int) : okN 0 (.int i) := ⟨by simp [PyData.canLay0], by simp [PyData.depth]⟩
theorem AZ {ds : List PyData} {n : Nat} (h : ∀ d ∈ ds, d.depth <= n) : PyData.depthAll ds <= n := by
 induction ds with
 | nil => simp [PyData.depthAll]
 | cons d r ih =>
  have h1 := h d oW
  have h2 := ih λ x hx => h x (nv _ hx)
  simp only [PyData.depthAll]
  omega
theorem pI {ds : List PyData} {n : Nat} (h : ∀ d ∈ ds, okN n d) : okN (n + 1) (.list ds) := by
 refine ⟨?_, ?_⟩
 · simp only [PyData.canLay0]; exact xB λ d hd => (h d hd).1
 · simp only [PyData.depth]; have := AZ λ d hd => (h d hd).2; omega
theorem xD {ds : List PyData} {n : Nat} (h : ∀ d ∈ ds, okN n d) : okN (n + 1) (.tuple ds) := by
 refine ⟨?_, ?_⟩
 · simp only [PyData.canLay0]; exact xB λ d hd => (h d hd).1
 · simp only [PyData.depth]; have := AZ λ d hd => (h d hd).2; omega
theorem iT (c : List Int) : okN 1 (aM c) := xD λ d hd => by
 obtain ⟨n, _, rfl⟩ := Qc.mp hd
 exact jy n
theorem uF {a b : List Int} (h : aM a = aM b) : a = b := by
 unfold aM at h
 injection h with h
 have := congrArg jK h
 rw [br, br] at this
 exact zV this
theorem lg (a b : List Int) : PyData.eqv (aM a) (aM b) = decide (a = b) := by
 rw [Bool.eq_iff_iff, lf _ _ (oN a) (oN b), decide_eq_true_eq]
 exact ⟨uF, λ h => by rw [h]⟩
theorem xE (i j : Int) : PyData.eqv (.int i) (.int j) = decide (i = j) := by
 rw [PyData.eqv]
 rfl
theorem sV {a b : PyData} (ha : wz a = true) (hb : wz b = true) : jW a b = some (.bool (PyData.eqv a b)) := by
 unfold jW; rw [ha, hb]; rfl
theorem vc {a b : PyData} (ha : wz a = true) (hb : wz b = true) : tP a b = some (.bool (!PyData.eqv a b)) := by
 unfold tP; rw [ha, hb]; rfl
theorem eG (i j : Int) : jW (.int i) (.int j) = some (.bool (decide (i = j))) := by rw [sV (jy i).ok (jy j).ok, xE]
theorem oO (i j : Int) : tP (.int i) (.int j) = some (.bool (!decide (i = j))) := by rw [vc (jy i).ok (jy j).ok, xE]
theorem A0 (a b : List Int) : jW (aM a) (aM b) = some (.bool (decide (a = b))) := by rw [sV (iT a).ok (iT b).ok, lg]
theorem A1 (a b : List Int) : tP (aM a) (aM b) = some (.bool (!decide (a = b))) := by rw [vc (iT a).ok (iT b).ok, lg]
theorem A3 (i : Int) : iR (.int i) "int" = true := by simp [iR, yk]
theorem A4 (i : Int) : iR (.int i) "bool" = false := by simp [iR, yk]
theorem nC (ds : List PyData) : iR (.tuple ds) "tuple" = true := by simp [iR, yk]
theorem ET (ds : List PyData) : iR (.list ds) "list" = true := by simp [iR, yk]
theorem EU (ds : List PyData) : iR (.list ds) "tuple" = false := by simp [iR, yk]
theorem A5 : iR .none "tuple" = false := by decide
theorem iI (i j : Int) : bL (.int i) (.int j) = some (.int (i + j)) := rfl
theorem vd (i j : Int) : qV (.int i) (.int j) = some (.int (i - j)) := rfl
theorem D0 (i j : Int) : Eo (.int i) (.int j) = some (.bool (decide (i < j))) := rfl
theorem D3 (i j : Int) : ER (.int i) (.int j) = some (.bool (decide (i <= j))) := rfl
theorem D4 (i j : Int) : Ep (.int i) (.int j) = some (.bool (decide (j < i))) := rfl
theorem oP (i j : Int) : nZ (.int i) (.int j) = some (.int (i + j)) := rfl
theorem pJ (i j : Int) : fC (.int i) (.int j) = if j4 i j = true then some (.int (i * j)) else none := rfl
theorem sW (i j : Int) : oB (.int i) (.int j) = if sO i j = true then some (.int (i % j)) else none := rfl
theorem n9 (ds : List PyData) : v9 (.tuple ds) = some ds.length := rfl
theorem D5 (ds : List PyData) : v9 (.list ds) = some ds.length := rfl
theorem uG (ns : List Int) : v0 (iO ns) = some ns := br ns
theorem pK (ns : List Int) : v9 (iO ns) = some ns.length := by
 show (v0 (iO ns)).map List.length = _
 rw [uG]; rfl
theorem CT (ns : List Int) (i : Int) : bS (iO ns) (.int i) = (nW ns i).map PyData.int := by
 show ((v0 (iO ns)).bind λ ns => (nW ns i).map PyData.int) = _
 rw [uG]; rfl
theorem pL {α : Type} {xs : List α} {j : Nat} (h : j < xs.length) : nW xs (j : Int) = some xs[j] := Bv (fI h)
end DL
namespace DL
open PySem PySem.Spec PyProof.Rows L2
noncomputable def yA (f : Expr -> Option PyData) : List Expr -> Option (List PyData)
 | [] => some []
 | e :: r => (f e).bind λ d => (yA f r).map (d :: ·)
noncomputable def lit : Nat -> Expr -> Option PyData
 | 0, _ => none
 | n + 1, e => match e with
  | .Constant (.int i) _ _ => some (.int i)
  | .Constant (.bool b) _ _ => some (.bool b)
  | .Constant .none _ _ => some .none
  | .Constant (.str x) _ _ => some (.str x)
  | .Tuple es _ _ => (yA (lit n) es).map .tuple
  | .List es _ => (yA (lit n) es).map .list
  | _ => none
mutual
noncomputable def Ft : PyData -> TE
 | .none => tC .non
 | .bool b => tC (.bl b)
 | .int i => tC (.int i)
 | .str x => tC (.str x)
 | .tuple ds => Dv (tOfs ds)
 | .list ds => zb (tOfs ds)
 | .dict _ => λ _ _ _ => False
noncomputable def tOfs : List PyData -> TA
 | [] => nw
 | d :: r => gS (Ft d) (tOfs r)
end
mutual
noncomputable def uH : PyData -> Bool
 | .none => true
 | .bool _ => true
 | .int _ => true
 | .str _ => true
 | .tuple ds => decide (ds.length <= fH) && litsOk ds
 | .list ds => decide (ds.length <= fH) && litsOk ds
 | .dict _ => false
noncomputable def litsOk : List PyData -> Bool
 | [] => true
 | d :: r => uH d && litsOk r
end
section
variable {X : Cx}
theorem pM {n : Nat} {e : Expr} {d : PyData} {es : List Expr} (h : lit n e = some d) : starEach (e :: es) X.env = (false, eval e X.env) :: starEach es X.env := by
 cases n with
 | zero => cases h
 | succ n => cases e <;> first | rfl | (simp [lit] at h)
theorem li {f : Expr -> Option PyData} (hf : ∀ e d, f e = some d -> PE X e (Ft d) /\ ∀ es, starEach (e :: es) X.env = (false, eval e X.env) :: starEach es X.env) : ∀ {es : List Expr} {ds : List PyData}, yA f es = some ds -> PA X es (tOfs ds)
 | [], ds, h => by cases h; exact aI
 | e :: r, ds, h => by
  obtain ⟨d, e1, e2⟩ := bind_some h
  obtain ⟨us, e3, e4⟩ := Q3.mp e2
  subst e4
  exact aD (hf e d e1).1 (li hf e3) ((hf e d e1).2 r)
theorem ve : ∀ (n : Nat) (e : Expr) (d : PyData), lit n e = some d -> PE X e (Ft d)
 | 0, _, _, h => by cases h
 | n + 1, e, d, h => by
  unfold lit at h
  split at h
  · cases h; exact aQ
  · cases h; exact nR
  · cases h; exact vD
  · cases h; exact rj
  · obtain ⟨us, e3, e4⟩ := Q3.mp h
    subst e4
    exact dX (li (λ e d q => ⟨ve n e d q, λ es => pM q⟩) e3)
  · obtain ⟨us, e3, e4⟩ := Q3.mp h
    subst e4
    exact dv (li (λ e d q => ⟨ve n e d q, λ es => pM q⟩) e3)
  · cases h
@[irreducible] noncomputable def uI (ds : List PyData) : TA := tOfs ds
theorem CU {es : List Expr} (ds : List PyData) (h : yA (lit 4) es = some ds) : PA X es (uI ds) := by
 unfold uI
 exact li (λ e d q => ⟨ve 4 e d q, λ es => pM q⟩) h
theorem CV {i : Nat} {x : Str} {es : List Expr} {p1 p2 pos : Pos} (ds : List PyData) (hN : X.N.Nodup) (hi : X.N[i]? = some x) (hx : DG X.env.scope x) (h : yA (lit 4) es = some ds) (hs : swapsWith (.List es p2) (some (.Name x p1)) pos.line X.env = pure false) (hf : X.fn x = true \/ X.env.scope.names.lookup x = some .local) :
 PS X (.Assign [.Name x p1] (.List es p2) pos) (tS (zb (uI ds)) (lL i)) := yx hN hi hx (dv (CU ds h)) hs hf
theorem A6 {st : Stmt} {iB : List Stmt} {t u : TS} (h1 : PS X st t) (h2 : PSs X iB u) : PSs X (st :: iB) (yt t u) := aL h1 h2
end
section
variable {K : Fg}
noncomputable def uJ (ds : List PyData) (_ : aP) : Option (List PyData) := some ds
mutual
theorem EV : ∀ (d : PyData), uH d = true -> SE K (Ft d) (dC d)
 | .none, _ => vX
 | .bool _, _ => nX
 | .int _, _ => aO
 | .str _, _ => sM
 | .tuple ds, h => by
  simp only [uH, Qa, decide_eq_true_eq] at h
  have q := dZ (sa_litsF ds h.2)
  intro H0 F0 F σ H δ d Q R e k
  refine q H0 F0 F σ H δ d Q R ?_ k
  cases e
  show ((some ds).bind λ ds => if ds.length <= fH then some (PyData.tuple ds) else none) = _
  simp [h.1]
 | .list ds, h => by
  simp only [uH, Qa, decide_eq_true_eq] at h
  have q := bv (eg (sa_litsF ds h.2))
  intro H0 F0 F σ H δ d Q R e k
  refine q H0 F0 F σ H δ d Q R ?_ k
  cases e
  show (((some ds).bind λ ds => if ds.length <= fH then some ds else none).map PyData.list) = _
  simp [h.1]
 | .dict _, h => by simp [uH] at h
theorem sa_litsF : ∀ (ds : List PyData), litsOk ds = true -> SA K (tOfs ds) (uJ ds)
 | [], _ => aJ
 | d :: r, h => by
  simp only [litsOk, Qa] at h
  have q := aE (EV d h.1) (sa_litsF r h.2)
  intro H0 F0 F σ H δ ds Q R e k
  refine q H0 F0 F σ H δ ds Q R ?_ k
  cases e
  rfl
end
theorem CW (ds : List PyData) (h : litsOk ds = true) : SA K (uI ds) (uJ ds) := by
 unfold uI
 exact sa_litsF ds h
end
def A7 : List V -> Hp -> VK -> Prop := λ vs H Q => ∃ j : Int, vs = [.int j] /\ ∀ p, H p = none -> Q (.ref p) (cZ H p (.rng 0 j))
def pN : List V -> Hp -> VK -> Prop := λ vs H Q => ∃ (p : Addr) (j : Int), vs = [.ref p] /\ H p = some (.rng 0 j) /\ 0 <= j /\ j <= 100000 /\ ∀ l, H l = none -> Q (.ref l) (cZ H l (.lst ((List.range j.toNat).map λ k : Nat => V.int (k : Int))))
section
variable {X : Cx}
theorem yB : dq X (.type "range") A7 := by
 intro pins s σ H xs us Q I rv h
 obtain ⟨j, rfl, q⟩ := h
 obtain ⟨u, rfl, t, rfl⟩ := rv.one
 refine call_range_1 ⟨.ref s.heap.objs.size, _, I.laid (a := s.heap.objs.size) (o := .rng 0 j) (λ _ _ e => gy _ e) (Q2 _) ⟨_, _, _, jm _ rfl⟩, rfl, q _ (I.hok.fresh (Q2 _))⟩
theorem vf {acc : Array Value} : ∀ {n : Nat}, ItemsOf (λ i v => ∃ t, v = .int (0 + (i : Int) * 1) t) acc n -> Vals ((List.range n).map λ k : Nat => V.int (k : Int)) acc.toList := by
 intro n h
 obtain ⟨hz, hv⟩ := h
 have go : ∀ (m : Nat), m <= n -> Vals ((List.range m).map λ k : Nat => V.int (k : Int)) (acc.toList.take m) := by
  intro m
  induction m with
  | zero => intro _; exact .nil
  | succ m ih =>
   intro hm
   have hlt : m < acc.toList.length := by rw [Q6, hz]; omega
   rw [List.range_succ, Bc, Ev hlt]
   refine (ih (by omega)).append (.cons ?_ .nil)
   obtain ⟨t, e⟩ := hv m acc.toList[m] (by rw [<- En, fI hlt])
   refine ⟨t, ?_⟩
   rw [e]
   congr 1
   omega
 have := go n (Q2 _)
 rwa [List.take_of_length_le (by rw [Q6, hz]; exact Q2 _)] at this
theorem sX (hc : X.calm = true) : dq X (.type "list") pN := by
 intro pins s σ H xs us Q I rv h
 obtain ⟨p, j, rfl, hp, h0, h1, q⟩ := h
 obtain ⟨u, rfl, r⟩ := rv.one
 cases r
 obtain ⟨t, t', v, e⟩ := I.hok p _ hp
 have hh : X.A.handled = none := I.ok.hd hc
 refine call_list_range (a := 0) (b := j) (c := 1) (n := j.toNat) hh e (small_one (by omega) (by omega) (by omega) (by omega)) ?_ (by omega) λ h' tk acc c hk hS hI => ?_
 · rw [rangeSize_one]; split <;> omega
 have rv' := vf hI
 refine ⟨.ref s.heap.objs.size, _, I.laid (t' := tk) hk (Q2 _) (show ObjOk X.prog X.w _ h' _ (.lst _) from ⟨?_, acc.toList, c, rv', by simpa using hS⟩), rfl, q _ (I.hok.fresh (Q2 _))⟩
 rw [zJ, Db]
 exact Qf (show _ <= fH by unfold fH; omega) (by decide)
theorem CY (K : Fg) : dq X (.type "range") A7 := yB
theorem vg (K : Fg) (hc : X.calm = true := by rfl) : dq X (.type "list") pN := sX hc
end
section
variable {K : Fg}
noncomputable def fD (f : aP -> Option PyData) (δ : aP) : Option (List PyData) := (f δ).bind λ d => match d with
 | .int j => if (decide (0 <= j) && decide (j <= 100000)) = true then some (au 0 j.toNat) else none
 | _ => none
theorem yC {F : Hp} (n : Nat) : Are K F ((List.range n).map λ k : Nat => V.int (k : Int)) (au 0 n) := by
 have e : au 0 n = ((List.range n).map λ k : Nat => (k : Int)).map PyData.int := by
  unfold au
  rw [zO]
  apply yo
  intro k _
  show PyData.int (0 + (k : Int)) = PyData.int (k : Int)
  rw [Int.zero_add]
 rw [e, Are.ints, zO]
 rfl
theorem vh {te : TE} {f : aP -> Option PyData} (a : SE K te f) : SO K (Bq pN (gS (Bq A7 (gS te nw)) nw)) (fD f) := λ H0 F0 F σ H δ es Q R e h => by
 obtain ⟨d, e1, e2⟩ := bind_some e
 split at e2
 · rename_i j
   split at e2
   · rename_i c
     rw [Qa, decide_eq_true_eq, decide_eq_true_eq] at c
     cases e2
     refine a H0 F0 F σ H δ _ _ R e1 λ v H1 F1 g1 i1 => ⟨j, by rw [show v = .int j from i1], λ p hp => ?_⟩
     have g2 : Grow F1 H1 F1 (cZ H1 p (.rng 0 j)) := Grow.fresh g1.s hp
     refine ⟨p, j, rfl, ae, c.1, c.2, λ l hl => ?_⟩
     exact h l _ _ F1 ((g1.trans g2).trans (Grow.fresh g2.s hl)) ((g1.trans g2).h.free hl) (g2.s.free hl) ae (yC _)
   · cases e2
 · cases e2
end
section
variable {X : Cx}
end
section
variable {K : Fg}
noncomputable def yD (i : Nat) (δ : aP) : Option PyData := match δ[i]? with
 | some (some (.fz d)) => some d
 | some (some (.ow ds)) => some (.list ds)
 | _ => none
theorem CZ {H0 F0 F : Hp} {σ : St} {H : Hp} {δ : aP} {i : Nat} {d : PyData} (R : Rep K H0 F0 F σ H δ) (e : yD i δ = some d) : ∃ v, σ[i]? = some (some v) /\ (Is K F v d \/ ∃ a xs ds, d = .list ds /\ v = .ref a /\ H a = some (.lst xs) /\ Are K F xs ds) := by
 unfold yD at e
 split at e
 · rename_i d' q
   cases e
   obtain ⟨v, h1, h2⟩ := R.fz i d q
   exact ⟨v, h1, .inl h2⟩
 · rename_i ds q
   cases e
   obtain ⟨a, xs, q1, q2, q3, q4, q5⟩ := R.ow i ds q
   exact ⟨.ref a, q1, .inr ⟨a, xs, ds, rfl, rfl, q2, q5⟩⟩
 · cases e
noncomputable def qW (i : Nat) (f : aP -> Option PyData) (δ : aP) : Option PyData := (yD i δ).bind λ a => (f δ).bind λ b => bS a b
theorem vi {te : TE} {f : aP -> Option PyData} (i : Nat) (a : SE K te f) : SE K (Do (Fl K) (mj i) te) (qW i f) := λ H0 F0 F σ H δ d Q R e h => by
 obtain ⟨dx, e1, e⟩ := bind_some e
 obtain ⟨dy, e2, e⟩ := bind_some e
 obtain ⟨v, hv, hd⟩ := CZ R e1
 refine ⟨v, hv, a H0 F0 F σ H δ dy _ R e2 λ w H1 F1 g1 i1 => ?_⟩
 rcases hd with hd | ⟨p, xs, ds, rfl, rfl, ha, ar⟩
 · exact bb F1 H1 v w dx dy d Q g1.s (hd.same g1.f) i1 e λ v' H2 F2 g2 i2 => h v' H2 F2 (g1.trans g2) i2
 · cases dy with
   | int j =>
    have e' : nW ds j = some d := e
    obtain ⟨v', f1, f2⟩ := sP (ar.same g1.f) e'
    exact .inl ⟨p, xs, j, v', rfl, i1, SqL.of (g1.h _ _ ha), f1, h v' H1 F1 g1 f2⟩
   | _ => cases e
end
end DL
namespace DL
open PySem L2 PyProof.Rows
section
variable {K : Fg}
structure XI where
 c : Addr
 z : Option Int
instance : Coe Addr XI := ⟨λ c => ⟨c, none⟩⟩
def XI.ok (C : XI) (v : Value) : Prop := match C.z with
 | none => ∃ ea, v = .ref ea
 | some n => ∃ t, v = .int n t
def Bf (K : Fg) (n : Nat) (C : XI) (g : List PyData -> Bool) : Sp := λ vs H _ E => ∃ F ds, tq K F H /\ vs.length = n /\ Are K F vs ds /\ g ds = true /\ ∀ v F' H', Grow F H F' H' -> C.ok v -> E v (some C.c) H'
def SX (K : Fg) (E : XK) (C : XI) (ts : TS) (fx : aP -> Bool) : Prop := ∀ (H0 F0 F : Hp) (σ : St) (H : Hp) (δ : aP) (D : Ends), Rep K H0 F0 F σ H δ -> fx δ = true -> (∀ v F' H', Grow F0 H0 F' H' -> C.ok v -> E v (some C.c) H') -> ts D σ H
def GQ (K : Fg) (E : XK) (C : XI) (te : TE) (fx : aP -> Bool) : Prop := ∀ (H0 F0 F : Hp) (σ : St) (H : Hp) (δ : aP) (Q : VK), Rep K H0 F0 F σ H δ -> fx δ = true -> (∀ v F' H', Grow F H F' H' -> C.ok v -> E v (some C.c) H') -> te σ H Q
variable {E : XK} {C : XI}
noncomputable def sY (fs : aP -> Option (List PyData)) (δ : aP) : Bool := match fs δ with
 | some ds => decide (ds.length <= 1000)
 | none => false
theorem oQ {F : Hp} : ∀ {xs : List V} {ds : List PyData}, Are K F xs ds -> xs.length = ds.length
 | _, [], h => by cases h; rfl
 | _, d :: ds, h => by
  obtain ⟨x, r, rfl, _, h⟩ := h
  rw [zC, zC, oQ h]
theorem A8 {C : Addr} {ta : TA} {fs : aP -> Option (List PyData)} (a : SA K ta fs) : SX K E C (AB C E ta) (sY fs) := λ H0 F0 F σ H δ D R e k => by
 unfold sY at e
 split at e
 · rename_i ds q
   exact a H0 F0 F σ H δ ds _ R q λ vs H' F' g ar => ⟨by rw [oQ ar]; exact jZ (of_decide_eq_true e), λ ea => k (.ref ea) F' H' (R.g.trans g) ⟨ea, rfl⟩⟩
 · cases e
noncomputable def Gc (c : aP -> Option Bool) (fx : aP -> Bool) (δ : aP) : Bool := match c δ with
 | some true => fx δ
 | _ => false
theorem sZ {t u : TS} {fx : aP -> Bool} (b : SX K E C t fx) : SX K E C (yt t u) fx := λ H0 F0 F σ H δ D R e k => b H0 F0 F σ H δ _ R e k
noncomputable def rN (n : Nat) (g : List PyData -> Bool) (fs : aP -> Option (List PyData)) (δ : aP) : Bool := match fs δ with
 | some ds => decide (ds.length = n) && g ds
 | none => false
theorem pO {n : Nat} {g : List PyData -> Bool} {t : TA} {fs : aP -> Option (List PyData)} (a : SA K t fs) : GQ K E C (nU (Bf K n C g) [] E t) (rN n g fs) := λ H0 F0 F σ H δ Q R e k => by
 unfold rN at e
 split at e
 · rename_i ds q
   obtain ⟨e1, e2⟩ := Bool.and_eq_true_iff.mp e
   refine a H0 F0 F σ H δ ds _ R q λ vs H' F' g' ar => ?_
   show Bf K n C g (vs ++ []) H' Q E
   rw [Q4]
   exact ⟨F', ds, ⟨g'.s, R.tb.same g'.f⟩, by rw [oQ ar]; exact of_decide_eq_true e1, ar, e2, λ ea F2 H2 g2 => k ea F2 H2 (g'.trans g2)⟩
 · cases e
theorem EW {te : TE} {fx : aP -> Bool} (a : GQ K E C te fx) : SX K E C (vE te) fx := λ H0 F0 F σ H δ D R e k => a H0 F0 F σ H δ _ R e λ ea F' H' g' => k ea F' H' (R.g.trans g')
end
section
variable {P : Program} {w : World} {K : Fg} {mg : Str -> Option Value} {base : Heap}
noncomputable def yE (n : Nat) (fx : aP -> Bool) (ds : List PyData) : Bool := fx (eY n ds)
theorem xF {x qual : Str} {st : Stmt} {f : Addr} {fd : FuncData} {N ps : List Str} {k n m : Nat} {C : XI} {fx : aP -> Bool} (F : Fun K x qual st f fd) (S : FnScope N ps (aK st)) (hN : N.length = n) (hm : ps.length = m)
 (hbody : ∀ (cdv : Value) (A : Around) (outer : List Env) (s : Shared) (H : Hp) (E : XK), Room k (A.deeper (envOfC qual (aK st) s.heap.objs.size f cdv)) ->
  ∃ t, PSs (ke (tf P w) P w K mg base N qual (aK st) f cdv A outer s H E) (ah st) t /\ SX K E C t fx) : FnOk P w K mg base (tf P w) (k + 1) f fd ps (Bf K m C (yE n fx)) := by
 subst hN hm
 obtain ⟨oc, od, kV, doc, pm, an, cdv, ct, osl, rfl, lk, hcd⟩ := F.ex
 refine DP lk hcd S (λ vs H Q E h => ?_) (λ A outer s H vs Q E hr h => ?_)
 · obtain ⟨F', ds, _, hl, _⟩ := h
   exact hl
 · obtain ⟨F', ds, sF, hl, ar, e, q⟩ := h
   obtain ⟨t, ht, hs⟩ := hbody cdv A outer s H E hr
   exact ⟨t, ht, hs H F' F' (L2.gU N vs) H (eY N.length ds) _ (lV sF ar) e q⟩
end
section
variable {K : Fg}
def A9 (K : Fg) (C : Addr) (i : Nat) : TS := vE (zb (gS (Bq (AD K) (gS (mj i) (gS (tC (.ref C)) nw))) (gS (Bq (AD K) (gS (mj i) (gS (tC (.ty "ValueError")) nw))) nw)))
theorem C2 {C ea : Addr} {i : Nat} {D : Ends} {σ : St} {H : Hp} (hs : σ[i]? = some (some (.ref ea))) (hH : H ea = some (XO ea C)) (k1 : PySem.W.kitOne K (.ref C) (.ref C) = some true) (k2 : PySem.W.kitOne K (.ref C) (.type "ValueError") = some true)
 (h : ∀ p, H p = none -> D.rt (.ref p) (cZ H p (.lst [.bl true, .bl true]))) : A9 K C i D σ H :=
 ⟨.ref ea, hs, ea, C, .ref C, .ref C, rfl, .inl ⟨C, rfl, rfl⟩, hH, k1, .ref ea, hs, ea, C, .ty "ValueError", .type "ValueError", rfl, .inr ⟨_, rfl, rfl⟩, hH, k2, jZ (by decide), h⟩
noncomputable def rO (g : List PyData -> Option PyData) (x : List PyData -> Bool) (ds : List PyData) : Option PyData := match g ds with
 | some d => some d
 | none => if x ds = true then some (.list [.bool true, .bool true]) else none
theorem Aa {Dc C : Addr} {n : Nat} {ta : TA} {fa : aP -> Option (List PyData)} {g : List PyData -> Option PyData} {x : List PyData -> Bool} {vs : List V} {ds : List PyData} {d : PyData} {F H : Hp} {Q : VK} {N : List Str} (a : SA K ta fa) (hfa : ∀ ds : List PyData, ds.length = n -> fa (eY (n + 1) ds) = some ds)
 (hN : N.length = n + 1) (s : tq K F H) (hl : vs.length = n) (ar : Are K F vs ds) (e : rO g x ds = some d)
 (q : ∀ v H' F', Grow F H F' H' -> Is K F' v d -> Q v H') (hex : PySem.W.exmOne K (.ref C) (.ref Dc) = some true) (k1 : PySem.W.kitOne K (.ref C) (.ref C) = some true) (k2 : PySem.W.kitOne K (.ref C) (.type "ValueError") = some true) :
 (g ds ≠ none /\ EK K Dc n N.length (λ _ => vE (nU (bz K n g) [] E0 ta)) (λ _ => A9 K C n) { nx := λ _ H' => Q .non H', rt := Q } (L2.gU N vs) H) \/
 (g ds = none /\ EK K Dc n N.length (λ E => vE (nU (Bf K n C x) [] E ta)) (λ _ => A9 K C n) { nx := λ _ H' => Q .non H', rt := Q } (L2.gU N vs) H) := by
 have R := lV (K := K) (N := N) s ar
 have l2 : ds.length = n := by rw [<- oQ ar]; exact hl
 have ea := hfa ds l2
 rw [hN] at R ⊢
 cases hg : g ds with
 | some d' =>
  unfold rO at e
  rw [hg] at e
  cases e
  refine .inl ⟨by simp, ?_⟩
  refine bJ (aS a) H F F _ H (eY (n + 1) ds) (.rt d) _ R ?_ (λ F2 v H2 g2 i2 => q v H2 F2 g2 i2)
  show (Option.map DFlow.rt ((fa (eY (n + 1) ds)).bind λ ds => if ds.length = n then g ds else none)) = _
  rw [ea]
  show Option.map DFlow.rt (if ds.length = n then g ds else none) = _
  rw [if_pos l2, hg]
  rfl
 | none =>
  unfold rO at e
  rw [hg] at e
  simp only at e
  split at e
  · rename_i hx
    cases e
    refine .inr ⟨rfl, ?_⟩
    refine EW (pO a) H F F _ H (eY (n + 1) ds) _ R ?_ (λ v F' H' g' hv => ⟨C, rfl, hex, λ ea e' hf σ' hσ => ?_⟩)
    · show (match fa (eY (n + 1) ds) with | some ds => decide (ds.length = n) && x ds | none => false) = true
      rw [ea]
      show (decide (ds.length = n) && x ds) = true
      rw [decide_eq_true l2, hx]
      rfl
    · refine C2 (by rw [List.getElem?_set_self (by rw [hσ]; exact DC n)]) ae k1 k2 λ p hp => ?_
      have g1 : Grow F H F' (cZ H' ea (XO ea C)) := g'.trans (Grow.fresh g'.s hf)
      have g2 := g1.trans (Grow.new (p := p) (o := .lst [.bl true, .bl true]) g1.s hp)
      exact q (.ref p) _ _ g2 ⟨p, _, rfl, ae, .bl true, _, rfl, rfl, .bl true, _, rfl, rfl, rfl⟩
  · cases e
noncomputable def vj (f : aP -> Option DFlow) (fx : aP -> Bool) (δ : aP) : Bool := match f δ with
 | some (.nx δ') => fx δ'
 | _ => false
theorem sf {E : XK} {C : XI} {t u : TS} {f : aP -> Option DFlow} {fx : aP -> Bool} (a : SS K t f) (b : SX K E C u fx) : SX K E C (yt t u) (vj f fx) := λ H0 F0 F σ H δ D R e k => by
 unfold vj at e
 split at e
 · rename_i δ' q
   exact a H0 F0 F σ H δ (.nx δ') _ R q λ F' σ' H' R' _ => b H0 F0 F' σ' H' δ' D R' e k
 · cases e
theorem xG {E : XK} {C : XI} {te : TE} {fx : aP -> Bool} (a : GQ K E C te fx) : SX K E C (qp te) fx := λ H0 F0 F σ H δ D R e k => a H0 F0 F σ H δ _ R e λ ea F' H' g' => k ea F' H' (R.g.trans g')
end
structure OwnX (P : Program) (w : World) (K : Fg) (mg : Str -> Option Value) (base : Heap) (k : Nat) (x : Str) (ps : List Str) (sp : Sp) : Prop where
 ex : ∃ (f : Addr) (fd : FuncData), FnOk P w K mg base (tf P w) k f fd ps sp /\ mg x = some (.ref f) /\ PySem.W.keepIn K (.ref f) = true /\ Binds K fd ps []
section
variable {X : Cx}
theorem sh {k n : Nat} {x : Str} {ps : List Str} {sp : Sp} {p pos : Pos} {e : Expr} {es : List Expr} {t : TA} {E : XK} (O : OwnX X.prog X.w X.K X.mg X.base k x ps sp) (hr : Room n X.A) (hx : mo (tf X.prog X.w) X E) (ha : PA X (e :: es) t) (hkn : k <= n := by decide) (hg : Gl X x := by rfl)
 (hdb : (x == ("__debug__" : Str)) = false := by decide) (he : starEach (e :: es) X.env = (false, eval e X.env) :: starEach es X.env := by rfl) (hpl : (backTo pos (starEach es X.env)).any (·.1) = false := by rfl) :
 PE X (.Call (.Name x p) (e :: es) [] pos) (nU sp [] E t) := by
 obtain ⟨f, fd, F, m, kp, b⟩ := O.ex
 exact wf F (hr.mono hkn) hg m kp b .nil hx ha hdb he hpl
end
end DL
namespace DL
open PySem PySem.Spec PyProof.Rows L2
noncomputable def D6 (nm : Str) : PyData := .dict [(.bool true, .str nm)]
structure OwnN (P : Program) (w : World) (K : Fg) (mg : Str -> Option Value) (base : Heap) (k : Nat) (x : Str) (ps : List Str) (sp : Sp) : Prop where
 ex : ∃ (f : Addr) (fd : FuncData), FnOk P w K mg base iC k f fd ps sp /\ PySem.W.nsIn K mainGlobals x = some (some (.ref f)) /\ PySem.W.keepIn K (.ref f) = true /\ Binds K fd ps []
def Ab (K : Fg) (i : Nat) (nm : Str) (sp : Sp) (t : TA) : TE := λ σ H Q => ∃ f, σ[i]? = some (some (.ref f)) /\ PySem.W.nsIn K mainGlobals nm = some (some (.ref f)) /\ t σ H λ vs H1 => sp (vs ++ []) H1 Q E0
theorem C3 {X : Cx} {k n i : Nat} {x nm : Str} {ps : List Str} {sp : Sp} {p pos : Pos} {e : Expr} {es : List Expr} {t : TA} (O : OwnN X.prog X.w X.K X.mg X.base k nm ps sp) (hr : Room n X.A) (hv : PE X (.Name x p) (mj i)) (ha : PA X (e :: es) t) (hkn : k <= n := by decide)
 (he : starEach (e :: es) X.env = (false, eval e X.env) :: starEach es X.env := by rfl) (hpl : (backTo pos (starEach es X.env)).any (·.1) = false := by rfl) :
 PE X (.Call (.Name x p) (e :: es) [] pos) (Ab X.K i nm sp t) := by
 intro pins s σ H Q I h
 obtain ⟨f, hs, hn, h⟩ := h
 obtain ⟨f', fd, F, m, kp, b⟩ := O.ex
 rw [hn] at m
 cases m
 refine wpAny_Call_Name_kw (dm (hv pins s σ H (λ v H1 => v = .ref f /\ H1 = H) I ⟨_, hs, rfl, rfl⟩) λ u s1 ⟨v, H1, I1, r, q⟩ => ?_)
 obtain ⟨rfl, rfl⟩ := q
 obtain rfl : u = .ref f := r
 refine PySem.W.callWith_K (h₀ := X.base) I1.ok.mod.kin kp (dm (ha pos pins s1 σ _ _ I1 h) λ us s2 ⟨vs, H2, I2, r2, q2⟩ => ⟨I2.kIn, ?_⟩) he hpl
 exact zc F (hr.mono hkn) b .nil DS I2 r2 q2
section
variable {K : Fg}
theorem Fb {a : Addr} {nm : Str} (h : PySem.W.nsIn K mainGlobals nm = some (some (.ref a))) : SE K (tC (.ref a)) (dC (D6 nm)) := by
 intro H0 F0 F σ H δ d Q R e k
 cases e
 exact k (.ref a) H F (Grow.refl R.g.s) ⟨a, rfl, .inr (.inr (.inl ⟨nm, rfl, h⟩))⟩
noncomputable def EX (nm : Str) : PyData -> Bool
 | .dict [(.bool true, .str x)] => x == nm
 | _ => false
theorem yF (nm : Str) : EX nm (D6 nm) = true := by
 show (nm == nm) = true
 simp
noncomputable def pP (i : Nat) (nm : Str) (n : Nat) (g : List PyData -> Option PyData) (fs : aP -> Option (List PyData)) (δ : aP) : Option PyData := (aB i δ).bind λ d => if EX nm d = true then aF n g fs δ else none
theorem Ac {i n : Nat} {nm : Str} {g : List PyData -> Option PyData} {t : TA} {fs : aP -> Option (List PyData)} (a : SA K t fs) : SE K (Ab K i nm (bz K n g) t) (pP i nm n g fs) := by
 intro H0 F0 F σ H δ d Q R e h
 obtain ⟨d0, e1, e2⟩ := bind_some e
 split at e2
 · rename_i hd
   have hf : d0 = D6 nm := by
    unfold EX at hd
    split at hd
    · rw [show _ = nm from eq_of_beq hd]; rfl
    · cases hd
   subst hf
   unfold aB at e1
   split at e1
   · rename_i d1 e0
     cases e1
     obtain ⟨v, hv, a0, rfl, hh⟩ := R.fz i _ e0
     rcases hh with ⟨ns, z, _⟩ | ⟨m, z, kv⟩ | ⟨nm', z, hn⟩ | ⟨m, z, kv⟩
     · cases z
     · obtain ⟨q, m', _, q2, _⟩ := kv
       cases q2.1
     · cases z
       exact ⟨a0, hv, hn, aS (K := K) a H0 F0 F σ H δ d Q R e2 h⟩
     · cases kv.1
   · cases e1
 · cases e2
end
end DL
namespace SRT
open PySem PySem.W PyProof.Rows
noncomputable def yG {α : Type} (lt : Nat -> Nat -> Bool) (n : Nat) : KasT α -> (α -> Prop) -> Prop
 | .ret a, Q => Q a
 | .ask i j k, Q => i < n /\ j < n /\ yG lt n (k (lt i j)) Q
theorem gL {α : Type} {lt : Nat -> Nat -> Bool} {n : Nat} {Q Q' : α -> Prop} (h : ∀ a, Q a -> Q' a) : ∀ {t : KasT α}, yG lt n t Q -> yG lt n t Q'
 | .ret a, q => h a q
 | .ask i j k, q => ⟨q.1, q.2.1, gL h q.2.2⟩
theorem iU {α β : Type} {lt : Nat -> Nat -> Bool} {n : Nat} {f : α -> KasT β} {Q : β -> Prop} : ∀ {t : KasT α}, yG lt n t (λ a => yG lt n (f a) Q) -> yG lt n (t.bind f) Q
 | .ret a, q => q
 | .ask i j k, q => ⟨q.1, q.2.1, iU q.2.2⟩
theorem Ad {α : Type} {lt : Nat -> Nat -> Bool} {n : Nat} {cmp : Nat -> Nat -> (Bool -> Shared -> Prop) -> Shared -> Prop} {J : Shared -> Prop} (hc : ∀ i j C s, i < n -> j < n -> J s -> (∀ s', J s' -> C (lt i j) s') -> cmp i j C s) {Q : α -> Prop} {Q' : α -> Shared -> Prop}
 (h : ∀ a s, Q a -> J s -> Q' a s) : ∀ {t : KasT α} {s : Shared}, J s -> yG lt n t Q -> t.kasWp cmp Q' s
 | .ret a, s, js, q => h a s q js
 | .ask i j k, s, js, q => hc i j _ s q.1 q.2.1 js λ s' js' => Ad hc h js' q.2.2
noncomputable def g (p : Array Nat) (i : Nat) : Nat := (p[i]?).getD 0
theorem j5 (p : Array Nat) (i : Nat) : p.getD i 0 = g p i := by unfold g; rw [D8]
structure Ord (lt : Nat -> Nat -> Bool) (n : Nat) : Prop where
 tr : ∀ a b c, lt a b = true -> lt b c = true -> lt a c = true
 to : ∀ a b, a < n -> b < n -> a ≠ b -> lt a b = false -> lt b a = true
structure Pm (n : Nat) (p : Array Nat) : Prop where
 sz : p.size = n
 lt : ∀ i, i < n -> g p i < n
 inj : ∀ i j, i < n -> j < n -> g p i = g p j -> i = j
 pe : p.Perm (List.range n).toArray
def vk (lt : Nat -> Nat -> Bool) (p : Array Nat) (m : Nat) : Prop := ∀ i j, i < j -> j < m -> lt (g p i) (g p j) = true
def Fc (lt : Nat -> Nat -> Bool) (p : Array Nat) (m : Nat) : Prop := ∀ i j, i < j -> j < m -> lt (g p j) (g p i) = true
theorem xH {n : Nat} {p : Array Nat} (h : p.Perm (List.range n).toArray) : Pm n p := by
 have hl : p.toList.Perm (List.range n) := by simpa using DB.mp h
 have hz : p.size = n := by rw [<- Q6, hl.length_eq, Db]
 have hnd : p.toList.Nodup := hl.nodup_iff.mpr List.nodup_range
 have hg : ∀ i (hi : i < p.toList.length), g p i = p.toList[i] := λ i hi => by
  unfold g
  rw [<- En, fI hi]
  rfl
 have hlen : p.toList.length = n := by rw [Q6]; exact hz
 refine ⟨hz, λ i hi => ?_, λ i j hi hj e => ?_, h⟩
 · rw [hg i (by omega)]
   have := hl.mem_iff.mp (tM (l := p.toList) (n := i) (by omega))
   simpa using this
 · rw [hg i (by omega), hg j (by omega)] at e
   exact (DE hnd).mp e
section
variable {lt : Nat -> Nat -> Bool} {n : Nat} (O : Ord lt n)
include O
theorem Ae {p : Array Nat} {m : Nat} (h1 : 1 <= m) (a : vk lt p m) (l : lt (g p (m - 1)) (g p m) = true) : vk lt p (m + 1) := λ i j hij hj => by
 by_cases e : j = m
 · subst e
   by_cases e2 : i = j - 1
   · rw [e2]; exact l
   · exact O.tr _ _ _ (a i (j - 1) (by omega) (by omega)) l
 · exact a i j hij (by omega)
theorem Af {p : Array Nat} {m : Nat} (h1 : 1 <= m) (a : Fc lt p m) (l : lt (g p m) (g p (m - 1)) = true) : Fc lt p (m + 1) := λ i j hij hj => by
 by_cases e : j = m
 · subst e
   by_cases e2 : i = j - 1
   · rw [e2]; exact l
   · exact O.tr _ _ _ l (a i (j - 1) (by omega) (by omega))
 · exact a i j hij (by omega)
theorem vm {p : Array Nat} (P : Pm n p) : ∀ (f m : Nat), 1 <= m -> m + f = n -> vk lt p m -> yG lt n (kas_asc p f m) (λ r => m <= r /\ r <= n /\ vk lt p r /\ (r < n -> lt (g p r) (g p (r - 1)) = true))
 | 0, m, h1, hm, a => ⟨Q2 _, by omega, a, λ z => absurd z (by omega)⟩
 | f + 1, m, h1, hm, a => by
  unfold kas_asc
  rw [j5, j5]
  refine ⟨P.lt _ (by omega), P.lt _ (by omega), ?_⟩
  cases c : lt (g p m) (g p (m - 1)) with
  | true => exact ⟨Q2 _, by omega, a, λ _ => c⟩
  | false =>
   have l := O.to _ _ (P.lt m (by omega)) (P.lt (m - 1) (by omega)) (λ e => by have := P.inj m (m - 1) (by omega) (by omega) e; omega) c
   exact gL (λ r q => ⟨by omega, q.2⟩) (vm P f (m + 1) (by omega) (by omega) (Ae O h1 a l))
theorem xI {p : Array Nat} (P : Pm n p) : ∀ (f m : Nat), 1 <= m -> m + f = n -> Fc lt p m -> yG lt n (kas_desc f p m 0) (λ r => r.1 = p /\ r.2.2 = 0 /\ m <= r.2.1 /\ r.2.1 <= n /\ Fc lt p r.2.1)
 | 0, m, h1, hm, a => ⟨rfl, rfl, Q2 _, by show m <= n; omega, a⟩
 | f + 1, m, h1, hm, a => by
  unfold kas_desc
  rw [j5, j5]
  refine ⟨P.lt _ (by omega), P.lt _ (by omega), ?_⟩
  cases c : lt (g p m) (g p (m - 1)) with
  | true => exact gL (λ r q => ⟨q.1, q.2.1, by omega, q.2.2.2⟩) (xI P f (m + 1) (by omega) (by omega) (Af O h1 a c))
  | false =>
   have l := O.to _ _ (P.lt m (by omega)) (P.lt (m - 1) (by omega)) (λ e => by have := P.inj m (m - 1) (by omega) (by omega) e; omega) c
   refine ⟨P.lt _ (by omega), P.lt _ (by omega), ?_⟩
   rw [l]
   exact ⟨rfl, rfl, Q2 _, by show m <= n; omega, a⟩
omit O in
theorem Ag {p : Array Nat} (P : Pm n p) (i j : Nat) : Pm n (kas_rev p i j) := xH ((mirror_perm _ _ _ _).trans P.pe)
omit O in
theorem C4 {p : Array Nat} (P : Pm n p) {m : Nat} (hm : m <= n) (a : Fc lt p m) : vk lt (kas_rev p 0 m) m := λ i j hij hj => by
 have e : ∀ k, k < m -> g (kas_rev p 0 m) k = g p (m - 1 - k) := λ k hk => by
  unfold g kas_rev
  rw [getElem?_mirror_all (by rw [P.sz]; exact hm), if_pos ⟨zU _, hk⟩, Qb]
 rw [e i (by omega), e j hj]
 exact a _ _ (by omega) (by omega)
theorem Ah {p : Array Nat} (P : Pm n p) (hn : 2 <= n) : yG lt n (kas_count n p) (λ r => 1 <= r.1 /\ r.1 <= n /\ Pm n r.2 /\ vk lt r.2 r.1) := by
 unfold kas_count
 refine iU (gL (λ m q_ => ?_) (vm O P (n - 1) 1 (Q2 _) (by omega) (λ i j hij hj => by omega)))
 obtain ⟨h1, h2, a, h3⟩ := q_
 split
 · exact ⟨h1, h2, P, a⟩
 · rename_i ne
   have hm : m < n := by
    have : m ≠ n := λ z => ne (by rw [z]; exact beq_self_eq_true n)
    omega
   split
   · rename_i g1
     rw [j5, j5]
     refine ⟨P.lt _ (by omega), P.lt _ (by omega), ?_⟩
     rw [a 0 (m - 1) (by omega) (by omega)]
     exact ⟨h1, h2, P, a⟩
   · rename_i g1
     have m1 : m = 1 := by omega
     subst m1
     unfold kas_descPart
     refine iU (gL (λ r ⟨q1, q2, q3, q4, q5⟩ => ?_) (xI O P (n - (1 + 1)) (1 + 1) (by omega) (by omega) (λ i j hij hj => ?_)))
     · have : i = 0 := by omega
       have : j = 1 := by omega
       subst i j
       exact h3 (by omega)
     · rw [q2, if_neg (by omega), q1]
       unfold kas_tail3
       refine iU (gL (λ m q_ => ?_) (vm O (Ag P 0 r.2.1) (n - r.2.1) r.2.1 (by omega) (by omega) (C4 P q4 q5)))
       obtain ⟨h1, h2, a, h3⟩ := q_
       exact ⟨by show 1 <= m; omega, h2, Ag P 0 r.2.1, a⟩
theorem pQ {p : Array Nat} (P : Pm n p) {k : Nat} (hk : k < n) (a : vk lt p k) : ∀ (f l r : Nat), l <= r -> r <= k -> r - l <= f -> (∀ i, i < l -> lt (g p i) (g p k) = true) -> (∀ i, r <= i -> i < k -> lt (g p k) (g p i) = true) ->
 yG lt n (kas_place p k f l r) (λ m => m <= k /\ (∀ i, i < m -> lt (g p i) (g p k) = true) /\ ∀ i, m <= i -> i < k -> lt (g p k) (g p i) = true)
 | 0, l, r, h1, h2, h3, b1, b2 => ⟨by omega, b1, λ i hi hk => b2 i (by omega) hk⟩
 | f + 1, l, r, h1, h2, h3, b1, b2 => by
  unfold kas_place
  split
  · exact ⟨by omega, b1, λ i hi hk => b2 i (by omega) hk⟩
  · rename_i hlr
    rw [j5, j5]
    have hmid : (l + r) / 2 < r := by omega
    refine ⟨P.lt _ hk, P.lt _ (by omega), ?_⟩
    cases c : lt (g p k) (g p ((l + r) / 2)) with
    | true =>
     refine pQ P hk a f l ((l + r) / 2) (by omega) (by omega) (by omega) b1 λ i hi hik => ?_
     by_cases e : i = (l + r) / 2
     · rw [e]; exact c
     · exact O.tr _ _ _ c (a _ i (by omega) hik)
    | false =>
     have q := O.to _ _ (P.lt k hk) (P.lt ((l + r) / 2) (by omega)) (λ e => by have := P.inj _ _ hk (by omega) e; omega) c
     refine pQ P hk a f ((l + r) / 2 + 1) r (by omega) h2 (by omega) (λ i hi => ?_) b2
     by_cases e : i = (l + r) / 2
     · rw [e]; exact q
     · exact O.tr _ _ _ (a i _ (by omega) (by omega)) q
theorem Ai : ∀ (f : Nat) {p : Array Nat} (_ : Pm n p) (k : Nat), k + f = n -> vk lt p k -> yG lt n (kas_bin f p k) (λ q => Pm n q /\ vk lt q n)
 | 0, p, P, k, hk, a => ⟨P, by rw [<- hk]; exact a⟩
 | f + 1, p, P, k, hk, a => by
  unfold kas_bin
  refine iU (gL (λ l q_ => ?_) (pQ O P (by omega) a k 0 k (zU _) (Q2 _) (by omega) (λ i hi => absurd hi (zS _)) (λ i hi hk => by omega)))
  obtain ⟨hl, b1, b2⟩ := q_
  have e : ∀ i, i <= k -> g (bubble p k (k - l)) i = if i = l then g p k else if l < i then g p (i - 1) else g p i := λ i hi => by
   unfold g
   rw [getElem?_bubble (by rw [P.sz]; omega) (k - l) (by omega)]
   by_cases c1 : i = l
   · rw [if_pos (by omega), if_pos c1]
   · rw [if_neg (by omega), if_neg c1]
     by_cases c2 : l < i
     · rw [if_pos (by omega), if_pos c2]
     · rw [if_neg (by omega), if_neg c2]
  refine Ai f (xH ((bubble_perm _ _ _).trans P.pe)) (k + 1) (by omega) λ i j hij hj => ?_
  rw [e i (by omega), e j (by omega)]
  by_cases c1 : i = l
  · rw [if_pos c1, if_neg (by omega), if_pos (by omega)]
    exact b2 _ (by omega) (by omega)
  · rw [if_neg c1]
    by_cases c2 : j = l
    · rw [if_pos c2, if_neg (by omega)]
      exact b1 _ (by omega)
    · rw [if_neg c2]
      by_cases c3 : l < i
      · rw [if_pos c3, if_pos (by omega)]
        exact a _ _ (by omega) (by omega)
      · rw [if_neg c3]
        by_cases c4 : l < j
        · rw [if_pos c4]
          exact a _ _ (by omega) (by omega)
        · rw [if_neg c4]
          exact a _ _ hij (by omega)
theorem C5 (hn : 2 <= n) : yG lt n (kas_sort n) (λ q => Pm n q /\ vk lt q n) := by
 unfold kas_sort
 refine iU (gL (λ r q_ => ?_) (Ah O (xH (Array.Perm.refl _)) hn))
 obtain ⟨h1, h2, P, a⟩ := q_
 split
 · have : max r.1 1 = r.1 := by omega
   rw [this]
   exact Ai O _ P r.1 (by omega) a
 · have : r.1 = n := by omega
   exact ⟨P, by rw [<- this]; exact a⟩
end
end SRT
namespace L2
open PySem PySem.Spec PyProof.Rows PySem.W Att
noncomputable def dR : List Int -> List Int -> Bool
 | [], [] => false
 | [], _ :: _ => true
 | _ :: _, [] => false
 | a :: x, c :: y => if a = c then dR x y else decide (a < c)
noncomputable def vn (fin : Bool) : List Int -> List Int -> Bool
 | a :: x, c :: y => if a = c then vn fin x y else decide (a < c)
 | _, _ => fin
theorem sj : ∀ (x y : List Int), vn (decide (x.length < y.length)) x y = dR x y
 | [], [] => rfl
 | [], _ :: _ => by simp [vn, dR]
 | _ :: _, [] => by simp [vn, dR]
 | a :: x, c :: y => by
  have e : decide ((a :: x).length < (c :: y).length) = decide (x.length < y.length) := by simp
  rw [e]
  unfold vn dR
  rw [sj x y]
theorem lj : ∀ (x y z : List Int), dR x y = true -> dR y z = true -> dR x z = true
 | [], [], _, h, _ => by cases h
 | [], _ :: _, [], _, h => by cases h
 | [], _ :: _, _ :: _, _, _ => rfl
 | _ :: _, [], _, h, _ => by cases h
 | _ :: _, _ :: _, [], _, h => by cases h
 | a :: x, b :: y, c :: z, h1, h2 => by
  unfold dR at h1 h2 ⊢
  by_cases e1 : a = b
  · rw [if_pos e1] at h1
    by_cases e2 : b = c
    · rw [if_pos e2] at h2
      rw [if_pos (e1.trans e2)]
      exact lj x y z h1 h2
    · rw [if_neg e2] at h2
      rw [if_neg (by omega), e1]
      exact h2
  · rw [if_neg e1] at h1
    have l1 := of_decide_eq_true h1
    by_cases e2 : b = c
    · rw [if_neg (by omega), <- e2]
      exact h1
    · rw [if_neg e2] at h2
      have l2 := of_decide_eq_true h2
      rw [if_neg (by omega)]
      exact decide_eq_true (by omega)
theorem lq : ∀ (x y : List Int), x ≠ y -> dR x y = false -> dR y x = true
 | [], [], h, _ => absurd rfl h
 | [], _ :: _, _, h => by cases h
 | _ :: _, [], _, _ => rfl
 | a :: x, c :: y, hn, h => by
  unfold dR at h ⊢
  by_cases e : a = c
  · rw [if_pos e] at h
    rw [if_pos e.symm]
    exact lq x y (λ z => hn (by rw [e, z])) h
  · rw [if_neg e] at h
    rw [if_neg (λ z => e z.symm)]
    have := of_decide_eq_false h
    exact decide_eq_true (by omega)
section
variable {prog : Program} {w : World} {A : Around} {E : Value -> Shared -> Prop} {s : Shared} {b : Bool} {Q : Bool -> Shared -> Prop}
theorem vo {p : Bool} {x y : Int} {t u : Tok} (h : Q (decide (x < y)) s) : wpAny (model prog w) A (oneLt' p (.int x t) (.int y u)) Q E s := by
 cases p with
 | true => exact oneLt_int h
 | false => exact kat_one _ _ (lt_int h)
theorem nc {fin : Bool} {xs ys : List Value} {ns ms : List Int} (hx : IntsAre xs ns) (hy : IntsAre ys ms) : ∀ i, Q (vn fin ns ms) s -> KatLex prog w A b fin Q (xs.zip ys) i s := by
 induction hx generalizing ys ms with
 | nil => exact λ i h => kat_nil h
 | cons a t hx ih =>
  intro i h
  cases hy with
  | nil => exact kat_nil h
  | cons c u hy =>
   refine kat_cons (wpAny_eqBool_int ?_)
   unfold vn at h
   by_cases e : a = c
   · rw [if_pos e] at h
     rw [show (a == c) = true from beq_iff_eq.mpr e]
     exact kat_yes (ih hy (i + 1) h)
   · rw [if_neg e] at h
     rw [show (a == c) = false from beq_eq_false_iff_ne.mpr e]
     exact kat_no (vo h)
end
def TpI (h : Heap) (v : Value) (k : List Int) : Prop := ∃ a o arr n, v = .ref a /\ h.get? a = some o /\ o.cls = .type "tuple" /\ o.data = .seq arr n /\ IntsAre arr.toList k
theorem TpI.firsts {h : Heap} {vs : List Value} {ks : List (List Int)} (p : Paired (TpI h) vs ks) (hp : ∀ k ∈ ks, k ≠ []) : ∃ fs, KatTups h vs fs /\ fs.length = vs.length /\ ∀ f ∈ fs, ∃ n t, f = Value.int n t := by
 induction p with
 | nil => exact ⟨[], KatTups.nil, rfl, λ f hf => nomatch hf⟩
 | cons q r ih =>
  obtain ⟨a, o, arr, n, e1, e2, e3, e4, e5⟩ := q
  obtain ⟨fs, h1, h2, h3⟩ := ih λ k hk => hp k (nv _ hk)
  subst e1
  have ne := hp _ oW
  generalize hl : arr.toList = l at e5
  cases e5 with
  | nil => exact absurd rfl ne
  | cons x t hx =>
   refine ⟨.int x t :: fs, KatTups.cons e2 e3 e4 (by rw [<- En, hl]; rfl) h1, by rw [zC, zC, h2], λ f hf => ?_⟩
   rcases qS.mp hf with rfl | hf
   · exact ⟨x, t, rfl⟩
   · exact h3 f hf
theorem pR {α β : Type} {R : α -> β -> Prop} {x : α} {y : β} : ∀ {l : List α} {m : List β} (i : Nat), Paired R l m -> i < l.length -> R (l.getD i x) (m.getD i y)
 | _, _, _, .nil, h => absurd h (zS _)
 | _, _, 0, .cons r _, _ => r
 | _ :: _, _ :: _, i + 1, .cons _ t, h => pR i t (Nat.lt_of_succ_lt_succ h)
section
variable {prog : Program} {w : World} {A : Around} {E : Value -> Shared -> Prop} {s : Shared}
theorem uK {L D : Addr} {m : Str -> Option Value} {c : Nat} {vs : List Value} {ks : List (List Int)} {Q : Value -> Shared -> Prop} (hL : s.heap.Ns L m) (hne : D ≠ L) (hD : s.heap.get? D = some (listOf vs.toArray c)) (ht : Paired (TpI s.heap) vs ks)
 (hnd : ks.Nodup) (hpos : ∀ k ∈ ks, k ≠ []) (h2 : 2 <= vs.length) (h64 : vs.length < 64)
 (k : ∀ h' c' (q : Array Nat), (∀ b o, b ≠ L -> b ≠ D -> s.heap.get? b = some o -> h'.get? b = some o) -> h'.Ns L m -> h'.get? D = some (listOf (q.toList.map λ i => vs.getD i .none).toArray c') ->
  SRT.Pm vs.length q -> SRT.vk (λ i j => dR (ks.getD i []) (ks.getD j [])) q vs.length -> Q .none { s with heap := h' }) :
 wpAny (model prog w) A (call (.builtin "list.sort") [.ref D]) Q E s := by
 have hlen : vs.length = ks.length := Paired.length ht
 have led : ∀ p ∈ mq s.heap L D, p.1 ≠ D := λ ⟨_, _⟩ hp => (ii.mp hp).2.1
 refine kat_lsort (h₀ := on s.heap) (L := L) (m := m) (news := (D, listOf vs.toArray c) :: mq s.heap L D) (g := λ o => (D, o) :: mq s.heap L D) (its := vs.toArray) (EE hL) (tX hne hD) (.head led) (by simp) h2 h64 λ e1 h' F' N' => ?_
 have keep : ∀ b o, b ≠ L -> b ≠ D -> s.heap.get? b = some o -> h'.get? b = some o := λ b o n1 n2 e => (N' (b, o) (nv _ (ii.mpr ⟨n1, n2, e⟩))).1
 obtain ⟨oL, esL, epL, hoL, hdL, _⟩ := hL
 have tup : ∀ {v : Value} {kk : List Int}, TpI s.heap v kk -> TpI h' v kk := λ q => by
  obtain ⟨a, o, arr, n, e1, e2, e3, e4, e5⟩ := q
  exact ⟨a, o, arr, n, e1, keep a o (λ z => by rw [z, hoL] at e2; cases e2; rw [hdL] at e4; cases e4) (λ z => by rw [z, hD] at e2; cases e2; exact absurd (Value.type.inj e3) (by decide)) e2, e3, e4, e5⟩
 have ht' : Paired (TpI h') vs ks := Paired.mapP ht λ a b q => tup q
 obtain ⟨fs, t1, t2, t3⟩ := TpI.firsts ht' hpos
 refine kat_kind (T := .type "int") t1 (by omega) (λ v hv => by obtain ⟨n, t, rfl⟩ := t3 v hv; exact Looks.of_pure rfl) rfl ?_
 have O : SRT.Ord (λ i j => dR (ks.getD i []) (ks.getD j [])) vs.length := ⟨λ a b c => lj _ _ _, λ a b ha hb hab => lq _ _ λ e => hab (by
  rw [jX, jX, fI (by omega), fI (by omega)] at e
  exact (DE hnd).mp e)⟩
 refine SRT.Ad (lt := λ i j => dR (ks.getD i []) (ks.getD j [])) (n := vs.length) (J := λ s' => s' = { s with heap := h' }) (λ i j C s' hi hj js hC => ?_) (λ p s' hp js => ?_) rfl (SRT.C5 O h2)
 · subst js
   obtain ⟨a1, o1, r1, n1, x1, x2, x3, x4, x5⟩ := pR (x := Value.none) (y := []) i ht' hi
   obtain ⟨a2, o2, r2, n2, y1, y2, y3, y4, y5⟩ := pR (x := Value.none) (y := []) j ht' hj
   unfold kas_ask
   rw [x1, y1]
   refine kat_lt x2 x4 y2 y4 (nc x5 y5 0 ?_)
   have z1 : r1.size = (ks.getD i []).length := by rw [<- Q6]; exact x5.length
   have z2 : r2.size = (ks.getD j []).length := by rw [<- Q6]; exact y5.length
   rw [z1, z2, sj]
   exact hC _ rfl
 · subst js
   refine KasFin.intro F' N' (.head led) λ h'' c' F'' N'' => ?_
   exact k h'' c' p (λ b o n1 n2 e => (N'' (b, o) (nv _ (ii.mpr ⟨n1, n2, e⟩))).1) F''.ns (N'' _ oW).1 hp.1 hp.2
theorem uL {D : Addr} {c : Nat} {vs : List Value} {Q : Value -> Shared -> Prop} (hD : s.heap.get? D = some (listOf vs.toArray c)) (h2 : vs.length < 2)
 (k : ∀ h' c', (∀ b o, b ≠ D -> s.heap.get? b = some o -> h'.get? b = some o) -> h'.get? D = some (listOf vs.toArray c') -> Q .none { s with heap := h' }) : wpAny (model prog w) A (call (.builtin "list.sort") [.ref D]) Q E s := by
 refine wpAny_call_entry slot_list_sort ⟨_, hD, rfl⟩ entry_list_sort ?_ (args_list_sort _); rw [list_sort_plain]
 have ha : D < s.heap.objs.size := fG hD
 refine wB (listItems_at hD rfl ?_); refine wB (listUpdate_at hD rfl ?_ (hsz := by rw [zM, sizeLine_eq]; omega))
 obtain ⟨e1, ho1⟩ : ∃ e1, (s.heap.update D (Obj.mapSeq λ _ => #[])).get? D = some (seqObj "list" #[] e1) := ⟨_, get?_update_seq hD (λ _ => #[])⟩
 have kk : ∀ b o, b ≠ D -> s.heap.get? b = some o -> (s.heap.update D (Obj.mapSeq λ _ => #[])).get? b = some o := λ b o nb e => (tR _ _ (Ne.symm nb)).trans e
 generalize s.heap.update D (Obj.mapSeq λ _ => #[]) = G0 at ho1 kk
 refine wB (seqEpoch_at ho1 rfl ?_); refine wB (wpAny_newTuple ?_ (by rw [List.toList_toArray, sizeLine_eq]; omega)); refine wB (wpAny_newList ?_); refine wpAny_holding ?_
 have ho2 := gy (seqObj "list" #[] 0) (gy (seqObj "tuple" vs.toArray 0) ho1)
 have k2 : ∀ b o, b ≠ D -> s.heap.get? b = some o -> ((G0.push (seqObj "tuple" vs.toArray 0)).push (seqObj "list" #[] 0)).get? b = some o := λ b o nb e => gy _ (gy _ (kk b o nb e))
 show wpAny (model prog w) _ _ _ _ { s with heap := (G0.push (seqObj "tuple" vs.toArray 0)).push (seqObj "list" #[] 0) }
 generalize (G0.push (seqObj "tuple" vs.toArray 0)).push (seqObj "list" #[] 0) = G at ho2 k2
 have h2' : vs.toArray.size < 2 := by rw [zM]; exact h2
 rw [if_pos h2', if_pos h2']; refine wB (wP ?_); dsimp only; rw [StateT.run_pure]; refine wB (wP ?_); dsimp only
 have out : (arrOf (SortSt.mk' general' (vs.toArray.zip vs.toArray) #[] 7 none)).map (·.2) = vs.toArray := by
  show (vs.toArray.zip vs.toArray).map (·.2) = vs.toArray
  rcases vs with _ | ⟨v, _ | ⟨u, r⟩⟩
  · simp
  · simp
  · exact absurd h2 (Nat.not_lt.mpr (Nat.le_add_left 2 _))
 rw [out]
 refine wB (seqEpoch_at ho2 rfl ?_); refine wB (listUpdate_at ho2 rfl ?_ (hsz2 := by show vs.toArray.size <= _; rw [sizeLine_eq]; omega))
 simp only [bne_self_eq_false, zN, if_false]
 exact wP ⟨_, rfl, k _ _ (λ b o nb e => (tR _ _ (Ne.symm nb)).trans (k2 b o nb e)) (get?_update_seq ho2 (λ _ => vs.toArray))⟩
theorem Aj {n : Nat} (h : n < 2) (lt : Nat -> Nat -> Bool) : SRT.Pm n (Array.range n) /\ SRT.vk lt (Array.range n) n := by
 refine ⟨SRT.xH (by rw [show Array.range n = (List.range n).toArray by simp]), λ i j hij hj => ?_⟩
 omega
theorem yH {vs : List Value} (h : vs.length < 2) : ((Array.range vs.length).toList.map λ i => vs.getD i .none) = vs := by
 rcases vs with _ | ⟨v, _ | ⟨u, r⟩⟩
 · rfl
 · rfl
 · exact absurd h (Nat.not_lt.mpr (Nat.le_add_left 2 _))
theorem vp {L D : Addr} {m : Str -> Option Value} {c : Nat} {vs : List Value} {ks : List (List Int)} {Q : Value -> Shared -> Prop} (hL : s.heap.Ns L m) (hne : D ≠ L) (hD : s.heap.get? D = some (listOf vs.toArray c)) (ht : Paired (TpI s.heap) vs ks)
 (hnd : ks.Nodup) (hpos : ∀ k ∈ ks, k ≠ []) (h64 : vs.length < 64)
 (k : ∀ h' c' (q : Array Nat), (∀ b o, b ≠ L -> b ≠ D -> s.heap.get? b = some o -> h'.get? b = some o) -> h'.Ns L m -> h'.get? D = some (listOf (q.toList.map λ i => vs.getD i .none).toArray c') ->
  SRT.Pm vs.length q -> SRT.vk (λ i j => dR (ks.getD i []) (ks.getD j [])) q vs.length -> Q .none { s with heap := h' }) :
 wpAny (model prog w) A (call (.builtin "list.sort") [.ref D]) Q E s := by
 by_cases h2 : 2 <= vs.length
 · exact uK hL hne hD ht hnd hpos h2 h64 k
 · have h2' : vs.length < 2 := by omega
   obtain ⟨p1, p2⟩ := Aj h2' (λ i j => dR (ks.getD i []) (ks.getD j []))
   exact uL hD h2' λ h' c' kp hD' => k h' c' (Array.range vs.length) (λ b o _ nb e => kp b o nb e) (by obtain ⟨o, es, ep, e1, e2⟩ := hL; exact ⟨o, es, ep, kp _ _ hne.symm e1, e2⟩) (by rw [yH h2']; exact hD') p1 p2
end
end L2
namespace L2
open PySem PySem.Spec PyProof.Rows PySem.W
def Raw (h : Heap) (d : Addr) (es : Array DictEntry) (ep : Nat) : Prop := ∃ ob, h.get? d = some ob /\ ob.ExactDict /\ ob.data = .dict es ep
theorem Raw.ty {s : Shared} {d : Addr} {es : Array DictEntry} {ep : Nat} (x : Raw s.heap d es ep) : s.TypeIs (.ref d) "dict" := let ⟨ob, e, c, _⟩ := x; ⟨ob, e, c.1⟩
section
variable {prog : Program} {w : World} {A : Around} {E : Value -> Shared -> Prop} {s : Shared} {d it : Addr} {es : Array DictEntry} {ep : Nat}
end
end L2
namespace L2
open PySem PySem.Spec PyProof.Rows PySem.W Att
theorem yI {h : Heap} {L : Addr} {m m' : Str -> Option Value} (a : h.Ns L m) (b : h.Ns L m') : m = m' := by
 obtain ⟨o, es, ep, e1, e2, e3, e4⟩ := a
 obtain ⟨o', es', ep', f1, f2, f3, f4⟩ := b
 rw [e1] at f1
 cases f1
 rw [e2] at f2
 cases f2
 funext x
 rw [<- e4 x, <- f4 x]
theorem im {ks : List Int} {us : List Value} (h : Vals (ks.map V.int) us) : IntsAre us ks := by
 induction ks generalizing us with
 | nil => cases h; exact .nil
 | cons k ks ih => cases h with
  | cons r t =>
   obtain ⟨tk, e⟩ := (show ∃ t, _ = Value.int k t from r)
   rw [e]
   exact .cons k tk (ih t)
theorem rP {α β : Type} {R : α -> β -> Prop} {x : α} {y : β} : ∀ {l : List α} {m : List β}, l.length = m.length -> (∀ i, i < l.length -> R (l.getD i x) (m.getD i y)) -> Paired R l m := by
 intro l
 induction l with
 | nil => intro m e h; cases m with
  | nil => exact .nil
  | cons _ _ => cases e
 | cons a l ih => intro m e h; cases m with
  | nil => cases e
  | cons b m => exact .cons (h 0 (Nat.succ_pos _)) (ih (Nat.succ.inj e) λ i hi => h (i + 1) (Nat.succ_lt_succ hi))
theorem nE : ∀ bs : List Addr, Vals (bs.map V.ref) (bs.map Value.ref)
 | [] => .nil
 | b :: bs => .cons rfl (nE bs)
end L2
namespace DL
open PySem L2
noncomputable def Ak (a b : List Int) : Bool := dR a b || decide (a = b)
noncomputable def d4 (ks : List (List Int)) : List (List Int) := ks.mergeSort Ak
theorem iV : ∀ x : List Int, dR x x = false
 | [] => rfl
 | a :: x => by unfold dR; rw [if_pos rfl]; exact iV x
theorem EY (a b c : List Int) (h1 : Ak a b = true) (h2 : Ak b c = true) : Ak a c = true := by
 unfold Ak at *
 rcases Bool.or_eq_true_iff.mp h1 with h1 | h1
 · rcases Bool.or_eq_true_iff.mp h2 with h2 | h2
   · rw [lj a b c h1 h2]; rfl
   · rw [<- of_decide_eq_true h2, h1]; rfl
 · rw [of_decide_eq_true h1]; exact h2
theorem EZ (a b : List Int) : (Ak a b || Ak b a) = true := by
 unfold Ak
 by_cases e : a = b
 · simp [e]
 · cases h : dR a b with
   | true => rfl
   | false => rw [lq a b e h]; simp
theorem kK : ∀ {l m : List (List Int)}, l.Perm m -> l.Pairwise (λ a b => dR a b = true) -> m.Pairwise (λ a b => dR a b = true) -> l = m
 | [], m, p, _, _ => by rw [List.nil_perm.mp p]
 | a :: x, [], p, _, _ => absurd p.length_eq (by simp)
 | a :: x, b :: y, p, s1, s2 => by
  have e : a = b := by
   have ha : a ∈ b :: y := p.mem_iff.mp oW
   have hb : b ∈ a :: x := p.mem_iff.mpr oW
   rcases qS.mp ha with ha | ha
   · exact ha
   · rcases qS.mp hb with hb | hb
     · exact hb.symm
     · have l1 := (List.pairwise_cons.mp s1).1 b hb
       have l2 := (List.pairwise_cons.mp s2).1 a ha
       have := lj a b a l1 l2
       rw [iV] at this
       cases this
  subst e
  rw [kK (List.Perm.cons_inv p) (List.pairwise_cons.mp s1).2 (List.pairwise_cons.mp s2).2]
theorem pS {ks l : List (List Int)} (nd : ks.Nodup) (p : l.Perm ks) (s : l.Pairwise λ a b => dR a b = true) : l = d4 ks := by
 have p2 : (d4 ks).Perm ks := List.mergeSort_perm ks Ak
 have s2 : (d4 ks).Pairwise λ a b => Ak a b = true := List.pairwise_mergeSort EY EZ ks
 have n2 : (d4 ks).Nodup := p2.nodup_iff.mpr nd
 refine kK (p.trans p2.symm) s ((s2.and n2).imp λ h => ?_)
 rcases Bool.or_eq_true_iff.mp h.1 with z | z
 · exact z
 · exact absurd (of_decide_eq_true z) h.2
theorem C6 {ks : List (List Int)} {q : Array Nat} (nd : ks.Nodup) (P : SRT.Pm ks.length q) (A : SRT.vk (λ i j => dR (ks.getD i []) (ks.getD j [])) q ks.length) : ((List.range ks.length).map λ i => ks.getD (SRT.g q i) []) = d4 ks := by
 have hl2 : q.toList.Perm (List.range ks.length) := by simpa using DB.mp P.pe
 have ql : q.toList = (List.range ks.length).map (SRT.g q) := by
  apply List.ext_getElem
  · rw [Q6, P.sz, zJ, Db]
  · intro i h1 h2
    rw [List.getElem_map, List.getElem_range]
    unfold SRT.g
    rw [<- En, fI h1]
    rfl
 have kr : (List.range ks.length).map (λ i => ks.getD i []) = ks := by
  apply List.ext_getElem
  · rw [zJ, Db]
  · intro i h1 h2
    rw [List.getElem_map, List.getElem_range, jX, fI h2]
    rfl
 refine pS nd ?_ ?_
 · have : ((List.range ks.length).map λ i => ks.getD (SRT.g q i) []) = q.toList.map λ i => ks.getD i [] := by rw [ql, zO]; rfl
   rw [this]
   have p := hl2.map (λ i => ks.getD i [])
   rw [kr] at p
   exact p
 · rw [List.pairwise_map]
   refine El.mpr λ i j hi hj hij => ?_
   rw [List.getElem_range, List.getElem_range]
   exact A i j hij (by simpa using hj)
noncomputable def C7 : PyData -> Option (List Int)
 | .tuple ds => jK ds
 | _ => none
section
variable {K : Fg}
theorem pT {F : Hp} : ∀ {bs : List Addr} {ks : List (List Int)}, bs.length = ks.length -> (∀ i, i < ks.length -> F (bs.getD i 0) = some (.tup ((ks.getD i []).map V.int))) -> Are K F (bs.map V.ref) (ks.map λ k => .tuple (k.map .int))
 | [], [], _, _ => rfl
 | [], _ :: _, e, _ => by cases e
 | _ :: _, [], e, _ => by cases e
 | b :: bs, k :: ks, e, h => ⟨.ref b, _, rfl, ⟨b, _, rfl, h 0 (Nat.succ_pos _), Are.ints.mpr rfl⟩, pT (Nat.succ.inj e) λ i hi => h (i + 1) (Nat.succ_lt_succ hi)⟩
theorem Grow.tups {F H : Hp} (s : Same F H) (bs : List Addr) (hb : ∀ b ∈ bs, ∃ xs, H b = some (.tup xs)) : ∃ F', Grow F H F' H /\ ∀ b ∈ bs, F' b = H b := by
 refine ⟨λ b => if b ∈ bs then H b else F b, ⟨λ b u e => ?_, λ b u e => ?_, Same.refl _, λ b u e t n => ?_⟩, λ b hb => if_pos hb⟩
 · show (if b ∈ bs then H b else F b) = some u
   split
   · exact s b u e
   · exact e
 · have e : (if b ∈ bs then H b else F b) = some u := e
   split at e
   · exact e
   · exact s b u e
 · show (if b ∈ bs then H b else F b) = none
   split
   · rename_i hm
     obtain ⟨xs, z⟩ := hb b hm
     rw [z] at e
     cases e
     exact absurd rfl (t xs)
   · exact n
end
end DL
namespace L2
open PySem
section
variable {prog : Program} {w : World} {K : Type} [DecidableEq K] {knd : HeapKind prog w K} {A : Around} {E : Value -> Shared -> Prop} {s : Shared} {d a : Addr} {xs : List (K × Addr × Value)} {k : K} {v : Value} {o : Obj} {es : Array DictEntry} {ep : Nat}
end
end L2
namespace L2
open PySem PySem.Spec PyProof.Rows
section
variable {κ : Type} [DecidableEq κ]
noncomputable def C8 (kvs : List (κ × V)) (k : κ) : Option V := (kvs.find? λ kv => decide (kv.1 = k)).map (·.2)
noncomputable def E1 (kvs : List (κ × V)) (k : κ) (v : V) : List (κ × V) :=
 if (kvs.any λ kv => decide (kv.1 = k)) = true then kvs.map (λ kv => if kv.1 = k then (kv.1, v) else kv) else kvs ++ [(k, v)]
theorem RelO.getD {o : Option V} {u : Option Value} {d : V} {d' : Value} (r : RelO o u) (rd : RelV d d') : RelV (o.getD d) (u.getD d') := by
 cases o with
 | none => cases u with
  | none => exact rd
  | some _ => exact (show False from r).elim
 | some _ => cases u with
  | none => exact (show False from r).elim
  | some _ => exact r
theorem KV.any {kvs : List (κ × V)} {vs : List (κ × Value)} (r : KV kvs vs) (k : κ) : (kvs.any λ kv => decide (kv.1 = k)) = vs.any λ kv => decide (kv.1 = k) := by
 unfold KV at r
 induction r with
 | nil => rfl
 | cons h t ih => rw [List.any_cons, List.any_cons, ih, h.1]
theorem KV.length {kvs : List (κ × V)} {vs : List (κ × Value)} (r : KV kvs vs) : kvs.length = vs.length := Paired.length r
end
section
variable {P : Program} {w : World} {H : Hp} {h : Heap} {a : Addr}
end
def DGet (H : Hp) (a : Addr) (y : V) (r : Option V) : Prop :=
 (∃ kvs k, Rd H a (.dK kvs) /\ y = kV k /\ r = C8 kvs k) \/ ∃ kvs k b, Rd H a (.dT kvs) /\ y = .ref b /\ H b = some (.tup (k.map kV)) /\ r = C8 kvs k
def DPut (H : Hp) (a : Addr) (y v : V) (H' : Hp) : Prop :=
 (∃ kvs k, H a = some (.dK kvs) /\ y = kV k /\ kvs.length < sizeLine /\ H' = cZ H a (.dK (E1 kvs k v))) \/
 ∃ kvs k b, H a = some (.dT kvs) /\ y = .ref b /\ H b = some (.tup (k.map kV)) /\ kvs.length < sizeLine /\ H' = cZ H a (.dT (E1 kvs k v))
theorem DGet.k {H : Hp} {a : Addr} {kvs : List (i9 × V)} {k : i9} (e : H a = some (.dK kvs)) : DGet H a (kV k) (C8 kvs k) := .inl ⟨kvs, k, .inl e, rfl, rfl⟩
theorem DGet.t {H : Hp} {a b : Addr} {kvs : List (List i9 × V)} {k : List i9} (e : H a = some (.dT kvs)) (eb : H b = some (.tup (k.map kV))) : DGet H a (.ref b) (C8 kvs k) := .inr ⟨kvs, k, b, .inl e, rfl, eb, rfl⟩
theorem DPut.t {H : Hp} {a b : Addr} {kvs : List (List i9 × V)} {k : List i9} {v : V} (e : H a = some (.dT kvs)) (eb : H b = some (.tup (k.map kV))) (hl : kvs.length < sizeLine) :
 DPut H a (.ref b) v (cZ H a (.dT (E1 kvs k v))) := .inr ⟨kvs, k, b, e, rfl, eb, hl, rfl⟩
section
variable {X : Cx} {pins : List (Addr × Obj)} {σ : St} {H : Hp} {s : Shared} {a : Addr} {y v : V} {u r : Value} {o : Option V} {A : Around} {E : Value -> Shared -> Prop}
end
section
variable {X : Cx} {pins : List (Addr × Obj)} {σ : St} {H : Hp} {s : Shared} {a : Addr} {kvs : List (i9 × V)} {k : i9} {u : Value} {A : Around} {E : Value -> Shared -> Prop}
end
section
variable {X : Cx} {o i e value : Expr} {pos pos' tpos : Pos} {td ty tv : TE}
end
section
variable {X : Cx} {pos : Pos}
end
section
variable {X : Cx} {pins : List (Addr × Obj)} {σ : St} {H : Hp} {s : Shared} {a : Addr} {y d : V} {u r : Value} {o : Option V} {A : Around} {E : Value -> Shared -> Prop}
end
section
variable {X : Cx} {o e f : Expr} {apos cpos : Pos} {td ty tx : TE}
end
section
variable {X : Cx} {pins : List (Addr × Obj)} {σ : St} {H : Hp} {s : Shared} {a : Addr} {kvs : List (i9 × V)} {A : Around} {E : Value -> Shared -> Prop}
end
section
variable {X : Cx} {pins : List (Addr × Obj)} {σ : St} {H : Hp} {s : Shared} {a : Addr} {y : V} {u : Value} {A : Around} {E : Value -> Shared -> Prop}
end
end L2
namespace DL
open PySem L2
section
variable {K : Fg} {H0 F0 F : Hp} {σ : St} {H : Hp} {δ : aP}
end
section
variable {K : Fg}
end
section
variable {K : Fg}
end
end DL
namespace L2
open PySem PySem.Spec PyProof.Rows
mutual
noncomputable def Eo : PyData -> PyData -> Option Bool
 | .int i, .int j => some (decide (i < j))
 | .bool p, .bool q => some (decide (b2i p < b2i q))
 | .tuple xs, .tuple ys => ltL xs ys
 | _, _ => none
noncomputable def ltL : List PyData -> List PyData -> Option Bool
 | [], [] => some false
 | [], _ :: _ => some true
 | _ :: _, [] => some false
 | x :: xs, y :: ys => if PyData.eqv x y = true then ltL xs ys else Eo x y
end
section
open PySem.SeqAt
open PySem.AutoSeq1 (wpAny_loadPart')
open PySem.MeetsSeq PySem.MeetsSeq2 PySem.MeetsSeq3
end
open PySem.SeqAt (room_here room_in room_head room_tail)
end L2
namespace DL
open PySem L2
section
variable {K : Fg}
end
end DL
namespace L2
open PySem PySem.Spec PyProof.Rows
section
variable {X : Cx} {pins : List (Addr × Obj)} {σ : St} {S I l : Addr} {xs : List V} {F H0 : Hp} {lt : Nat -> Nat -> Bool} {R : Result -> Shared -> Prop}
end
end L2
namespace DL
open PySem L2
section
variable {K : Fg}
end
end DL
namespace L2
open PySem PySem.Spec PyProof.Rows
theorem lr (a : Int) (t : Tok) (l : Addr) (items : Array Value) (n : Nat) (d : Option Addr) (sl : Array (Option Value)) :
 Meets (Builtin.«int.__rmul__» ⟨[.int a t, .ref l], []⟩) (λ _ R s => s.heap.get? l = some { cls := .type "tuple", dict := d, data := .seq items n, slots := sl } /\ R (.ok (.ret Value.notImplemented)) s) :=
 .of_wp λ prog w A R s h => by obtain ⟨hp, g, d, tk, os⟩ := s; obtain ⟨hl, h⟩ := h; wp_walk; exact ⟨_, rfl, h⟩
theorem uM (l : Addr) (items : Array Value) (n : Nat) (d : Option Addr) (sl : Array (Option Value)) (u : Tok) :
 Meets (Builtin.«tuple.__mul__» ⟨[.ref l, .int 1 u], []⟩) (λ _ R s => s.heap.get? l = some { cls := .type "tuple", dict := d, data := .seq items n, slots := sl } /\ R (.ok (.ret (.ref l))) s) :=
 .of_wp λ prog w A R s h => by
  obtain ⟨hp, g, d, tk, os⟩ := s; obtain ⟨hl, h⟩ := h
  wp_walk
  exact ⟨_, rfl, h⟩
theorem yJ (l : Addr) (v : Value) (n : Nat) (d : Option Addr) (sl : Array (Option Value)) (u : Tok) :
 Meets (Builtin.«tuple.__mul__» ⟨[.ref l, .int 0 u], []⟩) (λ _ R s => s.heap.get? l = some { cls := .type "tuple", dict := d, data := .seq #[v] n, slots := sl } /\ R (.ok (.ret (.ref s.heap.objs.size))) { s with heap := s.heap.push { cls := .type "tuple", data := .seq #[] } }) :=
 .of_wp λ prog w A R s h => by
  obtain ⟨hp, g, d, tk, os⟩ := s; obtain ⟨hl, h⟩ := h
  wp_walk
  exact ⟨_, rfl, h⟩
theorem yK (l : Addr) (v : Value) (n : Nat) (d : Option Addr) (sl : Array (Option Value)) (u : Tok) :
 Meets (Builtin.«tuple.__mul__» ⟨[.ref l, .int 2 u], []⟩) (λ _ R s => s.heap.get? l = some { cls := .type "tuple", dict := d, data := .seq #[v] n, slots := sl } /\ R (.ok (.ret (.ref s.heap.objs.size))) { s with heap := s.heap.push { cls := .type "tuple", data := .seq #[v, v] } }) :=
 .of_wp λ prog w A R s h => by
  obtain ⟨hp, g, d, tk, os⟩ := s; obtain ⟨hl, h⟩ := h
  wp_walk
  exact ⟨_, rfl, h⟩
theorem yL (l : Addr) (v : Value) (n : Nat) (d : Option Addr) (sl : Array (Option Value)) (u : Tok) :
 Meets (Builtin.«tuple.__mul__» ⟨[.ref l, .int 3 u], []⟩) (λ _ R s => s.heap.get? l = some { cls := .type "tuple", dict := d, data := .seq #[v] n, slots := sl } /\ R (.ok (.ret (.ref s.heap.objs.size))) { s with heap := s.heap.push { cls := .type "tuple", data := .seq #[v, v, v] } }) :=
 .of_wp λ prog w A R s h => by
  obtain ⟨hp, g, d, tk, os⟩ := s; obtain ⟨hl, h⟩ := h
  wp_walk
  exact ⟨_, rfl, h⟩
theorem yM (l : Addr) (v : Value) (n : Nat) (d : Option Addr) (sl : Array (Option Value)) (u : Tok) :
 Meets (Builtin.«tuple.__mul__» ⟨[.ref l, .int 4 u], []⟩) (λ _ R s => s.heap.get? l = some { cls := .type "tuple", dict := d, data := .seq #[v] n, slots := sl } /\ R (.ok (.ret (.ref s.heap.objs.size))) { s with heap := s.heap.push { cls := .type "tuple", data := .seq #[v, v, v, v] } }) :=
 .of_wp λ prog w A R s h => by
  obtain ⟨hp, g, d, tk, os⟩ := s; obtain ⟨hl, h⟩ := h
  wp_walk
  exact ⟨_, rfl, h⟩
theorem yN (l : Addr) (v : Value) (n : Nat) (d : Option Addr) (sl : Array (Option Value)) (u : Tok) :
 Meets (Builtin.«tuple.__mul__» ⟨[.ref l, .int 5 u], []⟩) (λ _ R s => s.heap.get? l = some { cls := .type "tuple", dict := d, data := .seq #[v] n, slots := sl } /\ R (.ok (.ret (.ref s.heap.objs.size))) { s with heap := s.heap.push { cls := .type "tuple", data := .seq #[v, v, v, v, v] } }) :=
 .of_wp λ prog w A R s h => by
  obtain ⟨hp, g, d, tk, os⟩ := s; obtain ⟨hl, h⟩ := h
  wp_walk
  exact ⟨_, rfl, h⟩
theorem j6 : fillsNumberSlot (.type "tuple") "mul" = pure false :=
 PySem.fillsNumberSlot_seq (id := "tuple.__mul__") (r := some (.builtin "tuple.__rmul__")) PySem.F.slot_tuple_mul.lookup (by decide +kernel) PySem.F.slot_tuple_rmul.lookup (by decide +kernel)
theorem pU : seqRepeat? (.type "tuple") = pure (some (.builtin "tuple.__mul__")) := by
 unfold seqRepeat?
 rw [PySem.seqSlot_of (T := "tuple") (name := "__mul__") (id := "tuple.__mul__") PySem.F.slot_tuple_mul.lookup (by decide +kernel), PySem.seqSlot_of (T := "tuple") (name := "__rmul__") (id := "tuple.__rmul__") PySem.F.slot_tuple_rmul.lookup (by decide +kernel)]
 rfl
section
variable {X : Cx}
def Fd : R2 := λ x y H Q => ∃ a z k, x = .ref a /\ H a = some (.tup [z]) /\ y = .int k /\ 0 <= k /\ k <= 5 /\ ∀ p H', Same H H' -> H' p = some (.tup (List.replicate k.toNat z)) -> Q (.ref p) H'
theorem C9 : OpR X (binaryOp .Mult) Fd := by
 intro pins s σ H x y v u Q I rx ry h
 obtain ⟨a, z, k, rfl, ha, rfl, h0, h5, q⟩ := h
 cases rx
 obtain ⟨t, rfl⟩ := ry
 obtain ⟨its, r, ht, hz⟩ := I.tuple (SqT.of ha)
 obtain ⟨w, rfl, rw'⟩ := nS r
 obtain ⟨⟨cls, d, data, sl⟩, ho, hcl, n, hd⟩ := id ht
 simp only at hcl hd
 subst hcl hd
 refine wpAny_binaryOp_repeat_ref (T := "tuple") (U := "int") (by decide) ⟨_, ho, rfl⟩ (λ s' => typeIs_int s' k t) j6 F.fills_int_mul F.slot_int_rmul pU F.slot_int_index.lookup
  (call_meets F.slot_int_rmul (typeIs_int s k t) F.entry_int_rmul (F.args_int_rmul_2 _ _) (lr k t a #[w] n d sl) ⟨ho, rfl, ⟨_, ho, rfl⟩, ?_⟩)
 have new : ∀ (us : List Value) (vs : List V), Vals vs us -> vs.length <= 1000 -> vs = List.replicate k.toNat z -> EP X pins σ Q (.ref s.heap.objs.size) { s with heap := s.heap.push { cls := .type "tuple", data := .seq us.toArray } } := λ us vs hv hl e => by
  refine ⟨.ref s.heap.objs.size, _, I.laid (t' := s.toks) (o := .tup vs) (λ b ob q => gy _ q) (Q2 _) ⟨jZ hl, _, hv, IsTup.new _ _, _, jm _ rfl, rfl⟩, rfl, q _ _ (bU (I.hok.fresh (Q2 _)) _) (by rw [<- e]; exact ae)⟩
 have k5 : k = 0 \/ k = 1 \/ k = 2 \/ k = 3 \/ k = 4 \/ k = 5 := by omega
 rcases k5 with rfl | rfl | rfl | rfl | rfl | rfl
 · exact call_meets F.slot_tuple_mul ⟨_, ho, rfl⟩ F.entry_tuple_mul (F.args_tuple_mul_2 _ _) (yJ a w n d sl t) ⟨ho, new [] [] .nil (by decide) rfl⟩
 · exact call_meets F.slot_tuple_mul ⟨_, ho, rfl⟩ F.entry_tuple_mul (F.args_tuple_mul_2 _ _) (uM a #[w] n d sl t) ⟨ho, .ref a, H, I, rfl, q a H (Same.refl _) ha⟩
 · exact call_meets F.slot_tuple_mul ⟨_, ho, rfl⟩ F.entry_tuple_mul (F.args_tuple_mul_2 _ _) (yK a w n d sl t) ⟨ho, new [w, w] [z, z] (.cons rw' (.cons rw' .nil)) (by show 2 <= 1000; decide) rfl⟩
 · exact call_meets F.slot_tuple_mul ⟨_, ho, rfl⟩ F.entry_tuple_mul (F.args_tuple_mul_2 _ _) (yL a w n d sl t) ⟨ho, new [w, w, w] [z, z, z] (.cons rw' (.cons rw' (.cons rw' .nil))) (by show 3 <= 1000; decide) rfl⟩
 · exact call_meets F.slot_tuple_mul ⟨_, ho, rfl⟩ F.entry_tuple_mul (F.args_tuple_mul_2 _ _) (yM a w n d sl t) ⟨ho, new [w, w, w, w] [z, z, z, z] (.cons rw' (.cons rw' (.cons rw' (.cons rw' .nil)))) (by show 4 <= 1000; decide) rfl⟩
 · exact call_meets F.slot_tuple_mul ⟨_, ho, rfl⟩ F.entry_tuple_mul (F.args_tuple_mul_2 _ _) (yN a w n d sl t) ⟨ho, new [w, w, w, w, w] [z, z, z, z, z] (.cons rw' (.cons rw' (.cons rw' (.cons rw' (.cons rw' .nil))))) (by show 5 <= 1000; decide) rfl⟩
end
section
variable {prog : Program} {w : World} {A : Around} {E : Value -> Shared -> Prop} {s : Shared}
end
section
variable {X : Cx}
theorem ls : ∀ {us : List Value} {ns : List Int}, IntsAre us ns -> Vals (ns.map V.int) us
 | _, _, .nil => .nil
 | _, _, .cons n t h => .cons ⟨t, rfl⟩ (ls h)
end
end L2
namespace DL
open PySem L2
section
variable {K : Fg}
theorem kL {F : Hp} {x : V} {d : PyData} (h : Is K F x d) : ∀ n : Nat, Are K F (List.replicate n x) (List.replicate n d)
 | 0 => rfl
 | n + 1 => ⟨x, _, rfl, h, kL h n⟩
theorem Al {F H : Hp} {p : Addr} {xs : List V} (s : Same F H) (hp : H p = some (.tup xs)) : ∃ F', Grow F H F' H /\ F' p = some (.tup xs) := by
 obtain ⟨F', g, h⟩ := Grow.tups s [p] (λ b hb => by rw [yp.mp hb]; exact ⟨xs, hp⟩)
 exact ⟨F', g, (h p oW).trans hp⟩
theorem yO {F H H' : Hp} (s : Same F H) (h : Same H H') : Grow F H F H' := ⟨Same.refl _, s.trans h, h, λ _ _ _ _ n => n⟩
end
section
variable {X : Cx}
end
end DL
namespace L2
open PySem PySem.Spec PyProof.Rows PySem.W PySem.Calls PySem.Builtin PySem.Builtin.ObjectAttr PySem.Builtin.Getset_descriptor
section
variable {pr : Program} {wd : World} {Ar : Around} {Ex : Value -> Shared -> Prop} {t : Shared} {K : Frag} {x C : Addr}
end
end L2
namespace DL
open PySem L2 PyProof.Rows
section
variable {X : Cx}
def GR : TS := λ _ _ _ => False
theorem oR {sts : List Stmt} : PSs X sts GR := λ _ _ _ _ _ _ h => h.elim
theorem vq {sts : List Stmt} {t u : TS} (a : PSs X sts t) (b : PSs X sts u) : PSs X sts (λ D σ H => t D σ H \/ u D σ H) := λ pins s σ H D I h => h.elim (a pins s σ H D I) (b pins s σ H D I)
end
section
variable {K : Fg} {E : XK} {C : XI}
noncomputable def G4 (_ : aP) : Bool := false
theorem Fe {t : TS} : SX K E C t G4 := λ H0 F0 F σ H δ D R e k => nomatch e
noncomputable def oS (f g : aP -> Bool) (δ : aP) : Bool := f δ || g δ
theorem yP {t u : TS} {f g : aP -> Bool} (a : SX K E C t f) (b : SX K E C u g) : SX K E C (λ D σ H => t D σ H \/ u D σ H) (oS f g) := λ H0 F0 F σ H δ D R e k => by
 rcases Bool.or_eq_true_iff.mp e with e | e
 · exact .inl (a H0 F0 F σ H δ D R e k)
 · exact .inr (b H0 F0 F σ H δ D R e k)
noncomputable def Ca (c : aP -> Option Bool) (f g : aP -> Bool) (δ : aP) : Bool := match c δ with
 | some true => f δ
 | some false => g δ
 | none => false
theorem Ff {c : TT} {fc : aP -> Option Bool} {t u : TS} {f g : aP -> Bool} (a : ST K c fc) (b : SX K E C t f) (d : SX K E C u g) : SX K E C (Dj c t u) (Ca fc f g) := λ H0 F0 F σ H δ D R e k => by
 unfold Ca at e
 split at e
 · rename_i q
   exact a H0 F0 F σ H δ true _ R q λ H' F' g' => xm (b H0 F0 F' σ H' δ D (R.grow g') e k)
 · rename_i q
   exact a H0 F0 F σ H δ false _ R q λ H' F' g' => xl (d H0 F0 F' σ H' δ D (R.grow g') e k)
 · cases e
end
section
variable {K : Fg} {E : XK} {C : Addr}
end
end DL
namespace L2
open PySem PySem.Spec PyProof.Rows
section
variable {X : Cx} {pins : List (Addr × Obj)} {σ : St} {S I l : Addr} {xs : List V} {F H0 : Hp} {lt : Nat -> Nat -> Bool} {R : Result -> Shared -> Prop}
end
end L2
namespace DL
open PySem L2
section
variable {K : Fg}
end
section
variable {K : Fg}
noncomputable def fS (i : Nat) (fk fv : aP -> Option PyData) (δ : aP) : Option DFlow := (fv δ).bind λ v => (fk δ).bind λ k => match δ[i]?, k with
 | some (some (.ow ds)), .int n => (vQ ds.length n).map λ j => .nx (δ.set i (some (.ow (ds.set j v))))
 | _, _ => none
theorem xJ {F : Hp} {x : V} {d : PyData} (h : Is K F x d) : ∀ {xs : List V} {ds : List PyData} (j : Nat), Are K F xs ds -> Are K F (xs.set j x) (ds.set j d)
 | _, [], j, a => by rw [show _ = [] from a]; exact rfl
 | _, e :: ds, 0, a => by
  obtain ⟨y, r, rfl, _, t⟩ := a
  exact ⟨x, r, rfl, h, t⟩
 | _, e :: ds, j + 1, a => by
  obtain ⟨y, r, rfl, q, t⟩ := a
  exact ⟨y, _, rfl, q, xJ h j t⟩
theorem pV (i : Nat) {te ti : TE} {fk fv : aP -> Option PyData} (b : SE K ti fk) (a : SE K te fv) : SS K (tS te (FE (mj i) ti DR)) (fS i fk fv) := by
 intro H0 F0 F σ H δ r D R e h
 obtain ⟨v, e1, e⟩ := bind_some e
 obtain ⟨kk, e2, e⟩ := bind_some e
 split at e
 · rename_i ds n q
   obtain ⟨j, e3, e4⟩ := Q3.mp e
   subst e4
   obtain ⟨p, xs, q1, q2, q3, q4, q5⟩ := R.ow i ds q
   refine a H0 F0 F σ H δ v _ R e1 λ x H1 F1 g1 i1 => ⟨.ref p, q1, b H0 F0 F1 σ H1 δ _ _ (R.grow g1) e2 λ y H2 F2 g2 i2 => ?_⟩
   have g := g1.trans g2
   refine ⟨p, xs, n, j, rfl, i2, g.h _ _ q2, by rw [q5.length]; exact e3, ?_⟩
   exact h F2 σ _ ((R.grow g).mut q q1 (g.o _ _ q2 (λ _ z => nomatch z) q3) q4 (xJ (i1.same g2.f) j (q5.same g.f))) g.f
 · cases e
end
end DL
namespace L2
open PySem PySem.Spec PyProof.Rows PySem.W
theorem sq : ∀ {bs : List Addr} {us : List Value}, Vals (bs.map V.ref) us -> us = bs.map Value.ref
 | [], _, .nil => rfl
 | b :: bs, _, .cons r t => by rw [sq t, show _ = Value.ref b from r]; rfl
def vt : List V -> Hp -> VK -> Prop := λ xs H Q => ∃ (a : Addr) (as : List Addr) (ks : List (List Int)), xs = [.ref a] /\ H a = some (.lst (as.map V.ref)) /\ as.length = ks.length /\ (∀ i, i < ks.length -> H (as.getD i 0) = some (.tup ((ks.getD i []).map V.int))) /\ ks.Nodup /\ (∀ k ∈ ks, k ≠ []) /\ ks.length < 64 /\
 ∀ p (bs : List Addr) (q : Array Nat), H p = none -> SRT.Pm ks.length q -> SRT.vk (λ i j => dR (ks.getD i []) (ks.getD j [])) q ks.length -> bs.length = ks.length ->
  (∀ i, i < ks.length -> H (bs.getD i 0) = some (.tup ((ks.getD (SRT.g q i) []).map V.int))) -> Q (.ref p) (cZ H p (.lst (bs.map V.ref)))
theorem vv {X : Cx} : dq X (.builtin "sorted") vt := by
 intro pins s σ H xs us Q I rv h
 obtain ⟨a, as, ks, rfl, ha, hal, htp, ksnd, hpos, h64, q⟩ := h
 obtain ⟨u, rfl, ru⟩ := nS rv
 cases (show u = Value.ref a from ru)
 obtain ⟨z, its, n, rl, ll, el⟩ := I.lstM ha
 have ei := sq rl
 subst ei
 obtain ⟨m, hns, _⟩ := id I.loc
 have Llt := I.lt
 refine Calls.call_function_entry kind_sorted plain_sorted entry_sorted (args_sorted1 _) ?_
 unfold Builtin.«sorted»
 refine wB (m := checkCount "sorted" 1 1 _) (wP ?_)
 refine wB (collect_list ⟨_, el, rfl, _, rfl⟩ ?_)
 refine wB (wpAny_newList ?_)
 have hsz : ((s.heap.push (seqObj "list" #[] 0)).update s.heap.objs.size (Obj.mapSeq (· ++ (as.map Value.ref).toArray))).objs.size = s.heap.objs.size + 1 := by rw [Heap.size_update, size_push']
 generalize hT : (s.heap.push (seqObj "list" #[] 0)).update s.heap.objs.size (Obj.mapSeq (· ++ (as.map Value.ref).toArray)) = tp at hsz
 have kT : ∀ b o, s.heap.get? b = some o -> tp.get? b = some o := λ b o e => by
  rw [<- hT, tR _ _ (xX (fG e))]
  exact gy _ e
 have kN : ∀ b o, s.heap.get? b = some o -> (tp.push (seqObj "list" (as.map Value.ref).toArray 0)).get? b = some o := λ b o e => gy _ (kT b o e)
 have nD : (tp.push (seqObj "list" (as.map Value.ref).toArray 0)).get? tp.objs.size = some (listOf (as.map Value.ref).toArray 0) := jm _ rfl
 have Dgt : s.heap.objs.size < tp.objs.size := by rw [hsz]; exact DC _
 generalize hDv : tp.objs.size = D at nD Dgt
 generalize hh' : tp.push (seqObj "list" (as.map Value.ref).toArray 0) = h' at kN nD
 have Dnew : s.heap.get? D = none := Heap.get?_none_of_le (xW Dgt)
 have DL' : D ≠ X.env.locals := xX (Nat.lt_trans Llt Dgt)
 have HD : H D = none := by
  cases z : H D with
  | none => rfl
  | some o =>
   obtain ⟨_, e⟩ := (I.hok D o z).there
   rw [Dnew] at e
   cases e
 have hns' : h'.Ns X.env.locals m := by
  obtain ⟨o, es, ep, e1, e2⟩ := hns
  exact ⟨o, es, ep, kN _ _ e1, e2⟩
 have ht : Paired (TpI h') (as.map Value.ref) ks := rP (x := Value.none) (y := []) (by rw [zJ]; exact hal) λ i hi => by
  have hi' : i < ks.length := by rw [zJ] at hi; omega
  have tr := htp i hi'
  obtain ⟨_, it2, r2, ⟨o, e1, e2, n2, e3⟩, _⟩ := (show ObjOk X.prog X.w H s.heap _ (.tup _) from I.hok _ _ tr)
  have ge : (as.map Value.ref).getD i .none = .ref (as.getD i 0) := by
   have ia : i < as.length := by omega
   rw [jX, zK, fI ia, jX, fI ia]
   rfl
  rw [ge]
  refine ⟨_, o, _, n2, rfl, kN _ o e1, e2, e3, ?_⟩
  rw [List.toList_toArray]
  exact im r2
 refine wB (wpAny_holding ?_)
 refine vp (s := { s with heap := h' }) (L := X.env.locals) (D := D) (m := m) (c := 0) hns' DL' nD ht ksnd hpos (by rw [zJ]; omega) λ h2' c2 qq kp2 ns2 hD2 P2 A2 => wP ?_
 rw [zJ, hal] at P2 A2
 have hb : ∀ i, i < ks.length -> SRT.g qq i < ks.length := P2.lt
 have hl2 : qq.toList.Perm (List.range ks.length) := by simpa using DB.mp P2.pe
 have outE : (qq.toList.map λ i => (as.map Value.ref).getD i .none) = (qq.toList.map λ i => as.getD i 0).map Value.ref := by
  rw [zO]
  apply yo
  intro i hi
  have : i < ks.length := by simpa using hl2.mem_iff.mp hi
  have ia : i < as.length := by omega
  show (as.map Value.ref).getD i .none = .ref (as.getD i 0)
  rw [jX, zK, fI ia, jX, fI ia]
  rfl
 rw [outE] at hD2
 have kp3 : ∀ b o, b ≠ X.env.locals -> s.heap.get? b = some o -> h2'.get? b = some o := λ b o nb e => kp2 b o nb (λ y => by rw [y, Dnew] at e; cases e) (kN b o e)
 have bl : (qq.toList.map λ i => as.getD i 0).length = ks.length := by rw [zJ, Q6, P2.sz]
 have hokN : HOk X.prog X.w (cZ H D (.lst ((qq.toList.map λ i => as.getD i 0).map V.ref))) h2' := λ b u e => by
  by_cases y : b = D
  · subst y
    rw [ae] at e
    cases e
    exact ⟨by rw [zJ, bl]; exact jZ (by omega), _, c2, nE _, hD2⟩
  · rw [aZ y] at e
    refine (I.hok b u e).stay (λ c v hc e1 => kp3 c v (λ y => ?_) e1) (λ c y => by rw [aZ (aU y HD)]; exact y) (λ c xs y => by rw [aZ (aU y HD)]; exact y) λ c ob xs y => by rw [aZ (aU y HD)]; exact y
    subst y
    rcases hc with y | y
    · rw [<- y, I.free] at e; cases e
    · rw [I.free] at y; cases y
 have I2 : Inv X pins σ (cZ H D (.lst ((qq.toList.map λ i => as.getD i 0).map V.ref))) { s with heap := h2', gens := s.gens, drawn := s.drawn, toks := s.toks } :=
  Inv.step (s := s) (ch := []) I (λ _ y => nomatch y) (λ b o nb _ _ e _ => kp3 b o nb e) (λ b o nb _ _ e _ => ⟨o.slots, kp3 b o nb e⟩) (λ b o _ e n => by rw [aZ (λ y => by rw [y, Dnew] at e; cases e)]; exact n)
   (λ b o _ e => by
    by_cases y : b = X.env.locals
    · subst y
      obtain ⟨o2, _, _, e2, _⟩ := ns2
      exact ⟨o2, e2⟩
    · exact ⟨o, kp3 b o y e⟩)
   (λ b xs e => by rw [aZ (aU e HD)]; exact e) (λ b o xs e => by rw [aZ (aU e HD)]; exact e) (λ b ps e => ⟨#[], by rw [aZ (aU e HD), e]; simp⟩) (λ m2 hm2 => yI hns hm2 ▸ ns2) hokN I.bare
 refine ⟨_, rfl, .ref D, _, I2, rfl, q D _ qq HD P2 A2 bl λ i hi => ?_⟩
 have e : (qq.toList.map λ i => as.getD i 0).getD i 0 = as.getD (SRT.g qq i) 0 := by
  have hq : i < qq.toList.length := by rw [Q6, P2.sz]; exact hi
  rw [jX, zK, fI hq]
  show as.getD qq.toList[i] 0 = _
  congr 1
  unfold SRT.g
  rw [<- En, fI hq]
  rfl
 rw [e]
 exact htp _ (hb i hi)
end L2
namespace DL
open PySem L2
section
variable {K : Fg}
theorem pW {F : Hp} : ∀ {xs : List V} {ds : List PyData} {ks : List (List Int)}, Are K F xs ds -> ds = ks.map (λ k => .tuple (k.map .int)) -> ∃ as : List Addr, xs = as.map V.ref /\ as.length = ks.length /\ ∀ i, i < ks.length -> F (as.getD i 0) = some (.tup ((ks.getD i []).map V.int))
 | _, [], [], h, _ => ⟨[], by rw [show _ = [] from h]; rfl, rfl, λ i hi => absurd hi (zS _)⟩
 | _, [], _ :: _, _, e => by cases e
 | _, _ :: _, [], _, e => by cases e
 | _, d :: ds, k :: ks, h, e => by
  rw [zI] at e
  injection e with e1 e2
  subst e1
  obtain ⟨x, r, rfl, ⟨a, ys, rfl, h1, h2⟩, h3⟩ := h
  have ey := Are.ints.mp h2
  subst ey
  obtain ⟨as, rfl, l, q⟩ := pW h3 e2
  refine ⟨a :: as, rfl, by simp [l], λ i hi => ?_⟩
  cases i with
  | zero => exact h1
  | succ i => exact q i (by simpa using hi)
noncomputable def vw : List PyData -> Option (List (List Int))
 | [] => some []
 | d :: r => (C7 d).bind λ k => (vw r).map (k :: ·)
theorem nF : ∀ {ds : List PyData} {ks : List (List Int)}, vw ds = some ks -> ds = ks.map λ k => .tuple (k.map .int)
 | [], ks, h => by cases h; rfl
 | d :: r, ks, h => by
  obtain ⟨k, e1, e2⟩ := bind_some h
  obtain ⟨us, e3, e4⟩ := Q3.mp e2
  subst e4
  rw [zI, <- nF e3]
  unfold C7 at e1
  split at e1
  · rw [fQ e1]
  · cases e1
noncomputable def vx : List PyData -> Option PyData
 | [.list ds] => (vw ds).bind λ ks => if (ks.all (λ k => !k.isEmpty) && decide (ks.length < 64) && decide ks.Nodup) = true then some (.list ((d4 ks).map λ k => .tuple (k.map .int))) else none
 | _ => none
theorem Am : pC K vt vx := λ F H xs ds d Q s ar e k => by
 unfold vx at e
 split at e
 · rename_i es
   obtain ⟨ks, e1, e2⟩ := bind_some e
   split at e2
   · rename_i c
     cases e2
     simp only [Qa, decide_eq_true_eq, tN] at c
     obtain ⟨⟨c1, c3⟩, c4⟩ := c
     obtain ⟨x, r, rfl, ⟨a, ys, rfl, h1, h2⟩, hr⟩ := ar
     rw [show r = [] from hr]
     obtain ⟨as, rfl, l, q⟩ := pW h2 (nF e1)
     refine ⟨a, as, ks, rfl, s _ _ h1, l, λ i hi => s _ _ (q i hi), c4, (λ k hk y => absurd (c1 k hk) (by rw [y]; decide)), c3, λ p bs qq hp P A hbl hbs => ?_⟩
     have allT : ∀ b ∈ bs, ∃ xs, H b = some (.tup xs) := λ b hb => by
      obtain ⟨i, hi, rfl⟩ := Bh hb
      have := hbs i (by omega)
      rw [jX, fI hi] at this
      exact ⟨_, this⟩
     obtain ⟨F1, g1, f1⟩ := Grow.tups s bs allT
     have g2 := g1.trans (Grow.new (p := p) (o := .lst (bs.map V.ref)) g1.s hp)
     refine k (.ref p) _ _ g2 ⟨p, _, rfl, ae, ?_⟩
     have sk := C6 c4 P A
     have len : (d4 ks).length = ks.length := by rw [<- sk, zJ, Db]
     refine (pT (F := F1) (by rw [len]; exact hbl) λ i hi => ?_).same (bU (g1.s.free hp) _)
     have hi' : i < ks.length := by omega
     have mem : bs.getD i 0 ∈ bs := by
      rw [jX, fI (by omega)]
      exact tM _
     rw [f1 _ mem, hbs i hi']
     have : (d4 ks).getD i [] = ks.getD (SRT.g qq i) [] := by
      rw [<- sk, jX, zK, List.getElem?_range hi']
      rfl
     rw [this]
   · cases e2
 · cases e
end
end DL
namespace L2
open PySem PySem.Spec PyProof.Rows PySem.W
section
variable {X : Cx} {pins : List (Addr × Obj)} {σ : St} {H : Hp} {s : Shared}
end
end L2
namespace DL
open PySem PySem.Spec PyProof.Rows L2 PySem.W
section
variable {K : Fg}
end
section
variable {X : Cx} {pins : List (Addr × Obj)} {σ : St} {S I l f : Addr} {xs : List V} {ds ks : List PyData} {Fa Ha : Hp} {R : Result -> Shared -> Prop}
def Turn (X : Cx) (σ : St) (f : Addr) (xs : List V) (ks : List PyData) (Fa Ha : Hp) : Prop := ∀ (i : Nat) (x : V), xs[i]? = some x -> ∀ (pins' : List (Addr × Obj)) (F H : Hp) (s : Shared) (u : Value), Inv X pins' σ H s -> Grow Fa Ha F H -> RelV x u ->
 wpAny (model X.prog X.w) X.A.in1 (call (.ref f) [u]) (λ r s' => ∃ v H' F', Inv X pins' σ H' s' /\ RelV v r /\ Grow F H F' H' /\ Is X.K F' v (ks.getD i .none)) (λ _ _ => False) s
end
section
variable {X : Cx}
end
end DL
namespace L2
open PySem PySem.Spec PyProof.Rows PySem.W
section
variable {prog : Program} {w : World} {A : Around} {E : Value -> Shared -> Prop} {s : Shared} {d it r : Addr} {es : Array DictEntry} {ep : Nat}
end
section
variable {X : Cx} {pins : List (Addr × Obj)} {σ : St} {S I d : Addr} {ns : List Int} {es : Array DictEntry} {ep : Nat} {H0 : Hp} {R : Result -> Shared -> Prop}
end
section
variable {X : Cx} {pins : List (Addr × Obj)} {σ : St} {H : Hp} {s : Shared}
end
end L2
namespace DL
open PySem L2
section
variable {X : Cx} {K : Fg}
end
end DL
namespace L2
open PySem PySem.Spec PyProof.Rows PySem.W Att
def ItSt (h : Heap) (it d S : Addr) (i n ep : Nat) : Prop := ∃ x0 f ok ov, h.get? it = some { cls := .type "dict_itemiterator", dict := none, data := .fields #[x0, .bool f, .ref d, .int i 0, .int n 0, .int ep 0, ok, ov], slots := #[] } /\
 (x0 = .none \/ ∃ (a : Addr) (oa : Obj), x0 = rawInt a /\ h.get? a = some oa /\ a ≠ it /\ a ≠ S)
theorem ItSt.keep {h h' : Heap} {it d S : Addr} {i n ep : Nat} (x : ItSt h it d S i n ep) (k : ∀ b o, b ≠ S -> h.get? b = some o -> h'.get? b = some o) (n1 : it ≠ S) : ItSt h' it d S i n ep := by
 obtain ⟨x0, f, ok, ov, e, r⟩ := x
 refine ⟨x0, f, ok, ov, k _ _ n1 e, r.imp id λ ⟨a, oa, r1, r2, r3, r4⟩ => ⟨a, oa, r1, k _ _ r4 r2, r3, r4⟩⟩
section
variable {prog : Program} {w : World} {A : Around} {E : Value -> Shared -> Prop} {s : Shared} {d it r S : Addr} {es : Array DictEntry} {ep : Nat}
end
section
variable {prog : Program} {w : World} {A : Around} {s : Shared} {R : Result -> Shared -> Prop} {es : Array DictEntry} {ep : Nat}
end
section
variable {prog : Program} {w : World} {A : Around} {E : Value -> Shared -> Prop} {s : Shared} {r d : Addr} {es : Array DictEntry} {ep : Nat}
end
theorem iV : ∀ x : List Int, dR x x = false
 | [] => rfl
 | a :: x => by unfold dR; rw [if_pos rfl]; exact iV x
section
variable {prog : Program} {w : World} {A : Around} {E : Value -> Shared -> Prop} {s : Shared}
end
end L2
namespace L2
open PySem PySem.Spec PyProof.Rows PySem.W
end L2
namespace DL
open PySem L2
section
variable {X : Cx} {K : Fg}
end
end DL
namespace DL
open PySem PySem.Spec PyProof.Rows L2 PySem.W
noncomputable def An (K : Frag) (q : Addr × Obj) : Option (Addr × Array Value) := match q.2.data with
 | .func fd => (DV fd).bind λ ps => match fd.code with
  | .ref c => match K.lookup c with
   | some ⟨_, _, .fields vs, _⟩ => match (vs[11]? : Option Value) with
    | some (.ref P) => if codeHdIn K c P = true then some (P, ps) else none
    | _ => none
   | _ => none
  | _ => none
 | _ => none
noncomputable def d5 (K : Frag) : List (Addr × Array Value) := K.filterMap (An K)
theorem uN {K : Frag} {c P : Addr} (h : codeHdIn K c P = true) : ∃ a b d vs, K.lookup c = some ⟨a, b, .fields vs, d⟩ /\ vs[11]? = some (Value.ref P) := by
 unfold codeHdIn at h
 split at h
 · rename_i b vs d hk
   simp only [Qa] at h
   have e1 := h.1.1.1.1.1
   split at e1
   · rename_i P' h11
     exact ⟨_, b, d, vs, hk, by rw [h11, beq_iff_eq.mp e1]⟩
   · cases e1
 · cases h
theorem Ao {α : Type} : ∀ {l : List (Addr × α)} {a : Addr} {o : α}, l.lookup a = some o -> (a, o) ∈ l
 | [], _, _, h => by cases h
 | (b, u) :: r, a, o, h => by
  rw [re] at h
  split at h
  · rename_i z
    cases h
    rw [eq_of_beq z]
    exact oW
  · exact nv _ (Ao h)
theorem Ap {K : Frag} {P : Addr} {ps : Array Value} (t : FW K P ps) : (P, ps) ∈ d5 K := by
 obtain ⟨f, oc, od, fd, sl, c, h1, h2, h3, h4⟩ := t
 obtain ⟨a, b, d, vs, k1, k2⟩ := uN h3
 refine List.mem_filterMap.mpr ⟨(f, ⟨oc, od, .func fd, sl⟩), Ao h1, ?_⟩
 unfold An
 simp only [h4, zD, h2, k1, k2, h3, if_true]
theorem Cb {K : Frag} {q : Addr × Array Value} (m : q ∈ d5 K) : ∃ c, codeHdIn K c q.1 = true := by
 obtain ⟨⟨f, o⟩, _, e⟩ := List.mem_filterMap.mp m
 unfold An at e
 split at e
 · obtain ⟨ps, _, e⟩ := bind_some e
   split at e
   · split at e
     · split at e
       · split at e
         · rename_i hc
           cases e
           exact ⟨_, hc⟩
         · cases e
       · cases e
     · cases e
   · cases e
 · cases e
structure Tabs (K : Frag) (h : Heap) : Prop where
 one : ∀ x ∈ d5 K, ∀ y ∈ d5 K, x.1 = y.1 -> x = y
 out : (d5 K).all (λ q => (K.lookup q.1).isNone) = true
 at_ : ∀ q ∈ d5 K, h.get? q.1 = some (tabObj #[])
theorem Aq {α : Type} {l : List α} (h : l.length <= 1) {x y : α} (hx : x ∈ l) (hy : y ∈ l) : x = y := by
 match l, h with
 | [], _ => cases hx
 | [z], _ => rw [yp.mp hx, yp.mp hy]
noncomputable def As (K : Frag) : Hp := λ b => ((d5 K).find? λ q => q.1 == b).map λ q => .tbl q.2
theorem yQ {K : Frag} {b : Addr} {o : HO} (e : As K b = some o) : ∃ ps, (b, ps) ∈ d5 K /\ o = .tbl ps := by
 unfold As at e
 obtain ⟨q, e1, e2⟩ := Q3.mp e
 have m := zR e1
 have z : q.1 = b := by
  have y := List.find?_some e1
  exact beq_iff_eq.mp y
 exact ⟨q.2, by rw [<- z]; exact m, e2.symm⟩
theorem Cc {K : Frag} (h1 : ∀ x ∈ d5 K, ∀ y ∈ d5 K, x.1 = y.1 -> x = y) {b : Addr} {ps : Array Value} (m : (b, ps) ∈ d5 K) : As K b = some (.tbl ps) := by
 unfold As
 cases z : (d5 K).find? λ q => q.1 == b with
 | none => exact absurd (beq_self_eq_true b) (by have := List.find?_eq_none.mp z _ m; simpa using this)
 | some q => rw [h1 q (zR z) (b, ps) m (beq_iff_eq.mp (List.find?_some (p := λ q : Addr × Array Value => q.1 == b) z))]; rfl
structure BMdB (base : Heap) (mg : Str -> Option Value) : Prop where
 ex : ∃ (bm : Addr) (o : Obj), mg "__builtins__" = some (.ref bm) /\ bm ≠ builtinsNs /\ bm ≠ mainGlobals /\ base.get? bm = some o /\ o.cls = .type "module" /\ o.dict = some builtinsNs /\ o.data = .plain
noncomputable def io (K : Frag) (a : Addr) (o : Option HO) : Hp := λ b => if b = a then o else As K b
theorem yR {P : Program} {w : World} {K : Frag} {mg mb : Str -> Option Value} {CX : xa} {k : Nat} {fa a : Addr} {fd : FuncData} {x : Str} {sp : Sp} {s₁ : Shared} {vs : List Value} {ns : List Int}
 (KX : K.In s₁.heap) (TB : Tabs K s₁.heap) (hns : s₁.heap.Ns mainGlobals mg) (hb : s₁.heap.Ns builtinsNs mb) (hbb : ∀ x : Str, x ≠ "__name__" -> mb x = bootBuiltins x) (hlim : s₁.heap.NoLimit) (hbm : ∃ bm ob, mg "__builtins__" = some (.ref bm) /\ bm ≠ builtinsNs /\ s₁.heap.get? bm = some ob /\ ob.cls = .type "module" /\ ob.dict = some builtinsNs /\ ob.data = .plain) (hg : s₁.gens = #[])
 (ha : s₁.heap.get? a = some { cls := .type "list", data := .seq vs.toArray }) (hi : IntsAre vs ns) (hl : ns.length <= sizeLine) (hr : Room k callerA)
 (F : ∀ base : Heap, K.In base -> base.Ns mainGlobals mg -> BMdB base mg -> FnOk P w K mg base CX k fa fd [x] sp) (hbind : ∀ (s : Shared) (u : Value), BindsTo s fd ⟨[u], []⟩ [(x, u)])
 (hsp : ∀ H : Hp, Tb K H -> SqL K H a (ns.map V.int) -> sp [.ref a] H (λ v _ => v = .bl true) λ _ _ _ => False)
 (hCX : ∀ H e s', CX [] H s₁ (λ _ _ _ => False) e s' -> False) :
 codeAny (model P w) callerA (.call (.ref fa) ⟨[.ref a], []⟩) (λ r s' => r = .ok (.ret (.bool true)) /\ OldK s₁.heap s'.heap /\ s'.os = s₁.os /\ AllBare s'.gens) s₁ := by
 have rv := xj hi
 have lenV := hi.length
 have atT : ∀ {b ps}, (b, ps) ∈ d5 K -> s₁.heap.get? b = some (tabObj #[]) := λ {b ps} m => TB.at_ _ m
 have naT : ∀ {ps}, (a, ps) ∉ d5 K := λ {ps} m => by
  have e := atT m
  rw [ha] at e
  cases e
 have core : ∀ o : Option HO, (o = none \/ ∃ ob xs, o = some (.frz ob (.lst xs))) -> SqL K (io K a o) a (ns.map V.int) -> (∀ u, o = some u -> ObjOk P w (io K a o) s₁.heap a u) -> (o ≠ none -> K.lookup a = none) ->
  codeAny (model P w) callerA (.call (.ref fa) ⟨[.ref a], []⟩) (λ r s' => r = .ok (.ret (.bool true)) /\ OldK s₁.heap s'.heap /\ s'.os = s₁.os /\ AllBare s'.gens) s₁ := by
  intro o hO hS hok0 hK
  have cases3 : ∀ b u, io K a o b = some u -> (b = a /\ o = some u) \/ ∃ ps, (b, ps) ∈ d5 K /\ u = .tbl ps := λ b u e => by
   unfold io at e
   split at e
   · exact .inl ⟨by assumption, e⟩
   · exact .inr (yQ e)
  have hok : HOk P w (io K a o) s₁.heap := λ b u e => by
   rcases cases3 b u e with ⟨rfl, z⟩ | ⟨ps, m, rfl⟩
   · exact hok0 u z
   · exact Or.inl (atT m)
  have noA : ∀ {b : Addr} {ob : Obj} {es : Array DictEntry} {ep : Nat}, s₁.heap.get? b = some ob -> ob.data = .dict es ep -> io K a o b = none := λ {b ob es ep} e d => by
   cases q : io K a o b with
   | none => rfl
   | some u =>
    rcases cases3 b u q with ⟨rfl, z⟩ | ⟨ps, m, rfl⟩
    · rw [ha] at e; cases e; cases d
    · rw [atT m] at e; cases e; cases d
  have nsK : ∀ {b : Addr} {m : Str -> Option Value}, s₁.heap.Ns b m -> (rh s₁.heap (io K a o)).Ns b m := λ {b m} ⟨ob, es, ep, e, d, r⟩ => ⟨ob, es, ep, oY e (noA e d), d, r⟩
  have hKb : K.In (rh s₁.heap (io K a o)) := λ b ob e => oY (KX b ob e) (by
   cases q : io K a o b with
   | none => rfl
   | some u =>
    rcases cases3 b u q with ⟨rfl, z⟩ | ⟨ps, m, rfl⟩
    · rw [hK (by rw [z]; exact λ y => nomatch y)] at e; cases e
    · have z := tN.mp TB.out _ m
      rw [e] at z
      cases z)
  have hB : BMdB (rh s₁.heap (io K a o)) mg := by
   obtain ⟨bm, ob, m1, m2, m3, m4, m5, m6⟩ := hbm
   refine ⟨bm, ob, m1, m2, λ z => ?_, oY m3 ?_, m4, m5, m6⟩
   · obtain ⟨og, es, ep, g1, g2, _⟩ := hns
     rw [<- z, m3] at g1
     cases g1
     rw [m6] at g2
     cases g2
   · cases q : io K a o bm with
     | none => rfl
     | some u =>
      rcases cases3 bm u q with ⟨rfl, z⟩ | ⟨ps, m, rfl⟩
      · rw [ha] at m3; cases m3; cases m6
      · rw [atT m] at m3; cases m3; cases m6
  have hM : Mod K mg (rh s₁.heap (io K a o)) := ⟨hKb, nsK hns, ⟨mb, nsK hb, hbb⟩, let ⟨mc, h1, h2⟩ := hlim; ⟨mc, nsK h1, h2⟩⟩
  have e0 : Env0 P w K mg (rh s₁.heap (io K a o)) callerA [] s₁ (io K a o) := ⟨rfl, hM, λ b o e => Bk e, Nat.le_of_eq (xZ _ _), trivial, (λ b hb => absurd (show b ∈ ([] : List Addr) from hb) (by simp)), hok, .of_eq hg⟩
  have tb : Tb K (io K a o) := λ b ps t => by
   have m := Ap t
   unfold io
   rw [if_neg (λ z => naT (z ▸ m))]
   exact Cc TB.one m
  refine codeAny_mono ((F _ hKb (nsK hns) hB).run callerA [] s₁ (io K a o) ⟨[.ref a], []⟩ [.ref a] [.ref a] _ _ hr e0 (hbind s₁ (.ref a)) (.cons rfl .nil) (hsp _ tb hS)) λ r s' h => ?_
  cases r with
  | error e => exact (hCX _ e s' h).elim
  | ok fl =>
   cases fl with
   | next => exact False.elim h
   | brk => exact False.elim h
   | cont => exact False.elim h
   | ret u =>
    obtain ⟨v, H', os, bare, un, hok', r', q⟩ := h
    have q' : v = .bl true := q
    subst q'
    obtain rfl : u = Value.bool true := r'
    have key : ∀ b ob, s₁.heap.get? b = some ob -> s'.heap.get? b = some ob \/ (∃ arr, isCodeTable s₁.heap b /\ ob = tabObj #[] /\ s'.heap.get? b = some (tabObj arr)) := λ b ob e => by
     cases q : io K a o b with
     | none => exact .inl (un.keep b ob e q (by intro z; exact absurd (show b ∈ ([] : List Addr) from z) (by simp)) (by simp))
     | some u =>
      rcases cases3 b u q with ⟨rfl, z⟩ | ⟨ps, m, rfl⟩
      · rcases hO with y | ⟨oo, xs, y⟩
        · rw [y] at z; cases z
        · rw [y] at z
          cases z
          have z2 := un.frzs b oo _ q
          obtain ⟨e1, _⟩ := hok b _ q
          obtain ⟨e2, _⟩ := hok' b _ z2
          rw [e] at e1; cases e1
          exact .inl e2
      · obtain ⟨more, z2⟩ := un.tbls b _ q
        obtain ⟨c, hc⟩ := Cb m
        have ct := ((codeHd_of_K KX hc).tab (atT m)).isCodeTable
        have eo := atT m
        rw [e] at eo
        cases eo
        rcases (show ObjOk P w H' s'.heap b (.tbl _) from hok' b _ z2) with y | ⟨c', oo, uu, l, cc, q0, t0, t2, vs', _, y, _⟩
        · exact .inr ⟨#[], ct, rfl, y⟩
        · exact .inr ⟨_, ct, rfl, y⟩
    refine ⟨rfl, ⟨λ b ob e => ?_, λ b ob e => ?_⟩, os, bare⟩
    · rcases key b ob e with z | ⟨arr, z1, z2, z3⟩
      · exact .inl z
      · subst z2
        exact .inr (.inl ⟨z1, rfl, #[], arr, rfl, by rw [Array.empty_append]; exact z3⟩)
    · rcases key b ob e with z | ⟨arr, _, _, z3⟩
      · exact ⟨_, z⟩
      · exact ⟨_, z3⟩
 cases hk : K.lookup a with
 | some o =>
  have e := KX a o hk
  rw [ha] at e
  cases e
  exact core none (.inl rfl) (.inr ⟨_, vs.toArray, _, hk, rfl, rfl, rfl, by rw [zM, lenV]; exact hl, by simpa using rv⟩) (λ u z => nomatch z) λ z => absurd rfl z
 | none =>
  refine core (some (.frz { cls := .type "list", data := .seq vs.toArray } (.lst (ns.map V.int)))) (.inr ⟨_, _, rfl⟩) (.inl (.inr ⟨{ cls := .type "list", data := .seq vs.toArray }, if_pos rfl⟩)) (λ u z => ?_) λ _ => hk
  cases z
  exact ⟨ha, by rw [zJ]; exact hl, vs, _, rv, ha⟩
theorem At {l : OpenLaw} {n k : Nat} {q : Program} {loose : List Str} {XP : (Str -> Option Value) -> Heap -> Prop} {YP : World -> Heap -> Prop} {d : DefRec} {K : Params -> Frag} {CX : World -> xa} {sp : World -> Sp} {x : Str}
 (hn : l.most = some n) (hn2 : n <= sizeLine) (hdf : d.params.defaults = []) (hr : Room k callerA)
 (hY : ∀ (w : World) (h : Heap), YP w h -> (K w.params).In h /\ Tabs (K w.params) h)
 (F : ∀ (w : World) (mg : Str -> Option Value) (fa : Addr) (h : Heap), (K w.params).In h -> h.Ns mainGlobals mg -> mg d.name = some (.ref fa) ->
  ∃ fd : FuncData, (∀ (s : Shared) (u : Value), BindsTo s fd ⟨[u], []⟩ [(x, u)]) /\ ∀ base : Heap, (K w.params).In base -> base.Ns mainGlobals mg -> BMdB base mg -> FnOk l.prog w (K w.params) mg base (CX w) k fa fd [x] (sp w))
 (hsp : ∀ (w : World) (H : Hp) (a : Addr) (ns : List Int), ns.length <= n -> Tb (K w.params) H -> SqL (K w.params) H a (ns.map V.int) -> sp w [.ref a] H (λ v _ => v = .bl true) λ _ _ _ => False)
 (hCX : ∀ (w : World) (H : Hp) (s : Shared) (e : Value) (s' : Shared), CX w [] H s (λ _ _ _ => False) e s' -> False) :
 WalkO q loose XP YP l.row.toRowW d [] (λ f vs => PySem.call f vs) := by
 refine Att.tW hn hdf λ w s₀ s₁ mg mb fa o pm cd doc a vs ns G Y ho hd hcd hmg hobj hints hlen hg => ?_
 obtain ⟨KX, TB⟩ := hY w _ Y
 obtain ⟨fd, hb, hF⟩ := F w mg fa _ KX G.T.g hmg
 exact yR KX TB G.T.g G.T.b G.T.builtins G.T.nolimit G.T.bmain hg hobj hints (Qf hlen hn2) hr hF hb (λ H hO hS => hsp w H a ns hlen hO hS) λ H e s' => hCX w H s₁ e s'
theorem xK {K : Frag} {h : Heap} {ts : List Addr} (hT : ∀ P ∈ ts, h.get? P = some (tabObj #[])) (e : (d5 K).map (·.1) = ts) (h1 : ts.length <= 1) (h2 : (d5 K).all (λ q => (K.lookup q.1).isNone) = true) : Tabs K h :=
 ⟨λ x hx y hy _ => Aq (by rw [<- zJ (f := λ q : Addr × Array Value => q.1), e]; exact h1) hx hy, h2, λ q m => hT _ (e ▸ zP m)⟩
section
variable {P : Program} {w : World} {K : Frag} {mg : Str -> Option Value} {base : Heap}
end
end DL
namespace DL
open PySem L2
noncomputable abbrev Cl := List (List Int × List PyData)
noncomputable abbrev Es := List (List Int × Addr × List V)
noncomputable def GS (c : Cl) : List (PyData × PyData) := c.map λ p => (aM p.1, .list p.2)
noncomputable def GT (es : Es) : List (List i9 × V) := es.map λ e => (e.1.map Sum.inl, V.ref e.2.1)
noncomputable def Ga (es : Es) : List Addr := es.map λ e => e.2.1
noncomputable def E3 (δ : aP) : Bool := δ.all λ s => match s with
 | some (.ow _) => false
 | some (.od _) => false
 | _ => true
section
variable {K : Fg} {H0 F0 F F' : Hp} {σ : St} {H H' : Hp} {δ : aP}
noncomputable def Ent (K : Fg) (H0 F H : Hp) : Es -> Cl -> Prop
 | [], [] => True
 | e :: es, p :: ps => (e.1 = p.1 /\ H e.2.1 = some (.lst e.2.2) /\ F e.2.1 = none /\ H0 e.2.1 = none /\ Are K F e.2.2 p.2) /\ Ent K H0 F H es ps
 | _, _ => False
theorem Ent.len {es : Es} {ps : Cl} (h : Ent K H0 F H es ps) : es.length = ps.length := by
 induction es generalizing ps with
 | nil =>
  cases ps with
  | nil => rfl
  | cons _ _ => exact h.elim
 | cons e es ih =>
  cases ps with
  | nil => exact h.elim
  | cons p ps =>
   rw [zC, zC, ih h.2]
theorem Ent.kvs {es : Es} {ps : Cl} (h : Ent K H0 F H es ps) (s : Same F F') (q : ∀ e ∈ es, F' e.2.1 = H e.2.1) : Kvs K F' (GT es) (GS ps) := by
 induction es generalizing ps with
 | nil =>
  cases ps with
  | nil => rfl
  | cons _ _ => exact h.elim
 | cons e es ih =>
  cases ps with
  | nil => exact h.elim
  | cons p ps =>
   obtain ⟨⟨h1, h2, h3, h4, h5⟩, r⟩ := h
   refine ⟨(e.1.map Sum.inl, V.ref e.2.1), GT es, rfl, ⟨?_, ?_⟩, ih r λ x hx => q x (nv _ hx)⟩
   · rw [h1]
     show aM p.1 = .tuple ((p.1.map Sum.inl).map kD)
     unfold aM
     rw [zO]
     rfl
   · exact ⟨e.2.1, e.2.2, rfl, (q e oW).trans h2, h5.same s⟩
structure PI (K : Fg) (H0 F0 F : Hp) (σ : St) (H : Hp) (δ : aP) (i N : Nat) (kls : Cl) : Prop where
 R : Rep K H0 F0 F σ H δ
 z : E3 δ = true
 ln : δ.length = N
 ex : ∃ a es, σ[i]? = some (some (.ref a)) /\ H a = some (.dT (GT es)) /\ F a = none /\ H0 a = none /\ Ent K H0 F H es kls /\ (a :: Ga es).Nodup
end
section
variable {K : Fg}
end
end DL
namespace L2
open PySem PySem.Spec PyProof.Rows PySem.W
end L2
namespace DL
open PySem L2
section
variable {K : Fg}
end
end DL
namespace L2
open PySem PySem.Spec PyProof.Rows PySem.W
section
variable {prog : Program} {w : World} {A : Around} {E : Value -> Shared -> Prop} {s : Shared} {a b : Addr} {es : Array DictEntry} {ep ep2 : Nat}
end
end L2
namespace DL
open PySem L2
section
variable {K : Fg}
end
theorem E4 {P : List Value -> Prop} (h : ∀ a, P [a]) : ∀ us : List Value, us.length = 1 -> P us := λ us e => by
 rcases us with _ | ⟨a, _ | ⟨b, r⟩⟩
 · cases e
 · exact h a
 · exact absurd e (by simp)
theorem tQ {P : List Value -> Prop} (h : ∀ a b, P [a, b]) : ∀ us : List Value, us.length = 2 -> P us := λ us e => by
 rcases us with _ | ⟨a, r⟩
 · cases e
 · exact E4 (P := λ r => P (a :: r)) (h a) r (Nat.succ.inj e)
theorem E5 {P : List Value -> Prop} (h : ∀ a b c, P [a, b, c]) : ∀ us : List Value, us.length = 3 -> P us := λ us e => by
 rcases us with _ | ⟨a, r⟩
 · cases e
 · exact tQ (P := λ r => P (a :: r)) (h a) r (Nat.succ.inj e)
theorem G5 {P : List Value -> Prop} (h : ∀ a b c d, P [a, b, c, d]) : ∀ us : List Value, us.length = 4 -> P us := λ us e => by
 rcases us with _ | ⟨a, r⟩
 · cases e
 · exact E5 (P := λ r => P (a :: r)) (h a) r (Nat.succ.inj e)
end DL
namespace L2
open PySem
theorem aj {X : Cx} {pos : Pos} {i : Nat} {x : Str} {e : Expr} {te : TE} {pos' : Pos} (hN : X.N.Nodup) (he : PE X e te) (hi : X.N[i]? = some x := by rfl) (hx : DG X.env.scope x := by first | exact Or.inl rfl | exact Or.inr rfl) (hs : swapsWith e (some (.Name x pos')) pos.line X.env = pure false := by rfl)
 (hf : X.fn x = true \/ X.env.scope.names.lookup x = some .local := by first | exact .inl rfl | exact .inr rfl | assumption) : PS X (.Assign [.Name x pos'] e pos) (tS te (lL i)) := yx hN hi hx he hs hf
theorem kt {N P : List Str} {sc : Scope} (a : sc.kind = .function := by rfl) (b : sc.isCoroutine = false := by rfl) (c : sc.isGenerator = false := by rfl) (d : N.Nodup := by decide +kernel) (e : N.take P.length = P := by rfl)
 (f : ∀ x ∈ P, sc.names.lookup x = some .local \/ sc.names.lookup x = some .cell := by decide +kernel) (g : ∀ y ∈ sc.names, y.2 ≠ .free := by decide +kernel) : FnScope N P sc := ⟨a, b, c, d, e, f, g⟩
end L2
namespace L2
open PySem PySem.Spec PyProof.Rows PySem.W
section
variable {X : Cx}
end
end L2
namespace DL
open PySem PySem.Spec PyProof.Rows L2
section
variable {K : Fg}
end
end DL
namespace L2
open PySem PySem.Spec PyProof.Rows PySem.W
section
variable {prog : Program} {w : World} {A : Around} {E : Value -> Shared -> Prop} {hp : Heap} {gs : Array GenState} {dr : Drawn} {tk : Nat} {ost : OsState}
variable {n1 n2 : Str} {C NS : Addr} {b1 b2 b3 : List Value} {f1 : Bool} {ss : List Str} {vs : List Value} {f2 : Bool} {f3 : Option Bool} {od : Option Addr} {z0 z1 z2 z3 z5 : Option Value} {B nid iid : String}
end
def XE (e C : Addr) (d : Option Addr) : HO := .ext λ h => ∃ (ob : Obj) (us : Array Value), h.get? e = some ob /\ ob.cls = .ref C /\ ob.dict = d /\ ob.data = .fields us /\ us[1]? = some .none /\ 0 < us.size
theorem Inv.xe {X : Cx} {pins : List (Addr × Obj)} {σ : St} {H : Hp} {s : Shared} {e C : Addr} {d : Option Addr} (I : Inv X pins σ H s) (h : H e = some (XE e C d)) : ∃ (ob : Obj) (us : Array Value), s.heap.get? e = some ob /\ ob.cls = .ref C /\ ob.dict = d /\ ob.data = .fields us /\ us[1]? = some .none /\ 0 < us.size := (I.hok e _ h).1
section
variable {X : Cx}
end
section
variable {X : Cx} {pins : List (Addr × Obj)} {σ : St} {H : Hp} {s : Shared}
end
section
variable {P : Program} {w : World} {K : Frag} {mg : Str -> Option Value} {base : Heap} {N : List Str} {qual : Str} {scope : Scope} {f : Addr} {cd : Value} {A : Around} {outer : List Env} {s₀ : Shared} {H₀ : Hp} {E : XK}
end
end L2
namespace DL
open PySem L2 PyProof.Rows
section
variable {K : Fg} {E : XK} {C : Addr}
end
end DL
namespace L2
open PySem PySem.Spec PyProof.Rows PySem.W
section
variable {M : Model} {A : Around} {E : Value -> Shared -> Prop} {s : Shared}
end
section
variable {X : Cx} {pins : List (Addr × Obj)} {σ : St} {H : Hp} {s : Shared}
end
section
variable {prog : Program} {w : World} {A : Around} {R : Result -> Shared -> Prop} {s : Shared}
end
section
variable {X : Cx}
section
variable {N : List Str} {sc : Scope} {C : Addr} {fp : List Addr} {s0 : Shared} {H0 : Hp} {E : XK} {pins : List (Addr × Obj)} {σ : St} {H : Hp} {s : Shared}
end
end
end L2
namespace DL
open PySem L2 PyProof.Rows
section
variable {K : Fg} {E : XK} {C : XI}
end
end DL
namespace L2
open PySem PySem.Spec PyProof.Rows PySem.W
section
variable {X : Cx} {pins : List (Addr × Obj)} {σ : St} {H : Hp} {s : Shared}
end
end L2
namespace DL
open PySem L2 PyProof.Rows
section
variable {K : Fg} {E : XK} {C : Addr}
end
end DL
namespace L2
open PySem PySem.Spec PyProof.Rows PySem.W
section
variable {prog : Program} {w : World} {A : Around} {E : Value -> Shared -> Prop} {hp : Heap} {gs : Array GenState} {dr : Drawn} {tk : Nat} {ost : OsState}
variable {n1 n2 : Str} {C NS : Addr} {b1 b2 b3 : List Value} {f1 : Bool} {ss : List Str} {vs : List Value} {f2 : Bool} {f3 : Option Bool} {od : Option Addr} {z0 z1 z2 z3 z5 : Option Value} {B nid iid : String}
end
section
variable {X : Cx} {pins : List (Addr × Obj)} {σ : St} {H : Hp} {s : Shared}
end
end L2
namespace DL
open PySem L2 PyProof.Rows
section
variable {K : Fg} {E : XK} {C : XI}
end
section
variable {K : Fg} {E : XK} {C : Addr}
end
end DL
namespace SB
open PySem PyProof.Rows
noncomputable def K (rk : Keyed -> Nat) (xs : Array Keyed) (i : Nat) : Nat := rk (xs.getD i (.none, .none))
theorem iq {rk : Keyed -> Nat} {xs ys : Array Keyed} {i j : Nat} (h : xs[i]? = ys[j]?) : K rk xs i = K rk ys j := by
 unfold K
 rw [D8, D8, h]
structure Ct (prog : Program) (w : World) (A : Around) (E : Value -> Shared -> Prop) (s : Shared) (κ : SortKind) (a0 : Array Keyed) (rk : Keyed -> Nat) : Prop where
 cmp : ∀ (x y : Keyed) (st : SortSt) (Q : Option Bool -> SortSt -> Prop), kindOf st = κ -> x ∈ a0 -> y ∈ a0 -> Q (some (decide (rk x < rk y))) st -> wpS (model prog w) A E s (lt' x y) Q st
 inj : ∀ x ∈ a0, ∀ y ∈ a0, rk x = rk y -> x = y
 nd : a0.toList.Nodup
structure Bs (κ : SortKind) (a0 : Array Keyed) (st : SortSt) : Prop where
 perm : (arrOf st).Perm a0
 failed : failedOf st = none
 kind : kindOf st = κ
section
variable {prog : Program} {w : World} {A : Around} {E : Value -> Shared -> Prop} {s : Shared} {κ : SortKind} {a0 : Array Keyed} {rk : Keyed -> Nat}
theorem Bs.size {st : SortSt} (B : Bs κ a0 st) : (arrOf st).size = a0.size := by
 have := (DB.mp B.perm).length_eq
 simpa using this
theorem Bs.mem {st : SortSt} (B : Bs κ a0 st) {x : Keyed} (h : x ∈ arrOf st) : x ∈ a0 := by
 have := (DB.mp B.perm).mem_iff (a := x)
 rw [yg, yg] at this
 exact this.mp h
theorem Bs.at_ {st : SortSt} (B : Bs κ a0 st) {i : Nat} (h : i < a0.size) : ∃ x, (arrOf st)[i]? = some x /\ x ∈ a0 /\ K rk (arrOf st) i = rk x := by
 have h' : i < (arrOf st).size := by rw [B.size]; exact h
 refine ⟨(arrOf st)[i], Q5 h', B.mem (Q1 h'), ?_⟩
 unfold K
 rw [D8, Q5 h']
 rfl
theorem Bs.ne {st : SortSt} (B : Bs κ a0 st) (C : Ct prog w A E s κ a0 rk) {i j : Nat} (hi : i < a0.size) (hj : j < a0.size) (hij : i ≠ j) : K rk (arrOf st) i ≠ K rk (arrOf st) j := by
 obtain ⟨x, ex, mx, kx⟩ := B.at_ (rk := rk) hi
 obtain ⟨y, ey, my, ky⟩ := B.at_ (rk := rk) hj
 rw [kx, ky]
 intro e
 have e := C.inj x mx y my e
 subst e
 have nd : (arrOf st).toList.Nodup := (DB.mp B.perm).nodup_iff.mpr C.nd
 rw [<- En] at ex ey
 obtain ⟨h1, e1⟩ := yf.mp ex
 obtain ⟨h2, e2⟩ := yf.mp ey
 exact hij ((DE nd).mp (e1.trans e2.symm))
theorem Bs.setArr {st : SortSt} (B : Bs κ a0 st) {xs : Array Keyed} (h : xs.Perm (arrOf st)) : Bs κ a0 (PyProof.Rows.setArr st xs) := ⟨h.trans B.perm, B.failed, B.kind⟩
theorem pX {st : SortSt} {i j : Nat} {Q : Option Bool -> SortSt -> Prop} (C : Ct prog w A E s κ a0 rk) (B : Bs κ a0 st) (hi : i < a0.size) (hj : j < a0.size) (h : Q (some (decide (K rk (arrOf st) i < K rk (arrOf st) j))) st) : wpS (model prog w) A E s (ltAt' i j) Q st := by
 obtain ⟨x, ex, mx, kx⟩ := B.at_ (rk := rk) hi
 obtain ⟨y, ey, my, ky⟩ := B.at_ (rk := rk) hj
 rw [ltAt'_eq]
 refine wpS_bind (wpS_get ?_)
 show wpS _ _ _ _ (do let x <- elem' (arrOf st) i; let y <- elem' (arrOf st) j; lt' x y) Q st
 rw [elem'_eq, elem'_eq, ex, ey]
 refine wpS_bind (wpS_pure (wpS_bind (wpS_pure ?_)))
 rw [kx, ky] at h
 exact C.cmp x y st Q B.kind mx my h
def Up (rk : Keyed -> Nat) (xs : Array Keyed) (lo n : Nat) : Prop := ∀ i j, i < j -> j < n -> K rk xs (lo + i) < K rk xs (lo + j)
theorem uO {xs : Array Keyed} {src d : Nat} (hs : src < xs.size) (hd : d <= src) (k : Nat) : K rk (bubble xs src d) k = if k = src - d then K rk xs src else if src - d < k /\ k <= src then K rk xs (k - 1) else K rk xs k := by
 have e := getElem?_bubble hs d hd k
 by_cases h1 : k = src - d
 · rw [if_pos h1] at e ⊢; exact iq e
 · rw [if_neg h1] at e ⊢
   by_cases h2 : src - d < k /\ k <= src
   · rw [if_pos h2] at e ⊢; exact iq e
   · rw [if_neg h2] at e ⊢; exact iq e
theorem uP {xs : Array Keyed} {i j : Nat} (hj : j <= xs.size) (k : Nat) : K rk (mirror xs i j ((j - i) / 2)) k = if i <= k /\ k < j then K rk xs (i + j - 1 - k) else K rk xs k := by
 have e := getElem?_mirror_all (i := i) hj k
 by_cases h1 : i <= k /\ k < j
 · rw [if_pos h1] at e ⊢; exact iq e
 · rw [if_neg h1] at e ⊢; exact iq e
def Old (lo : Nat) (xs ys : Array Keyed) : Prop := ∀ i, i < lo -> ys[i]? = xs[i]?
theorem Old.trans {lo : Nat} {xs ys zs : Array Keyed} (a : Old lo xs ys) (b : Old lo ys zs) : Old lo xs zs := λ i h => (b i h).trans (a i h)
theorem vy {lo k l : Nat} {xs : Array Keyed} (hs : lo + k < xs.size) (hl : l <= k) : Old lo xs (bubble xs (lo + k) (lo + k - (lo + l))) := λ i h => by
 rw [getElem?_bubble hs _ (by omega), if_neg (by omega), if_neg (by omega)]
theorem xL {st : SortSt} {lo n ok : Nat} {Q : Bool -> SortSt -> Prop} (C : Ct prog w A E s κ a0 rk) (hn : lo + n <= a0.size) (hok : ok <= n) (B : Bs κ a0 st) (up : Up rk (arrOf st) lo ok)
 (h : ∀ st', Bs κ a0 st' -> Up rk (arrOf st') lo n -> Old lo (arrOf st) (arrOf st') -> pendingOf st' = pendingOf st -> Q true st') : wpS (model prog w) A E s (binarySort' lo n ok) Q st := by
 rw [binarySort'_eq]
 refine wpS_bind (wpS_mono (wpS_forRange (I := λ k c st' => c = (none, ()) /\ Bs κ a0 st' /\ Up rk (arrOf st') lo (min k n) /\ Old lo (arrOf st) (arrOf st') /\ pendingOf st' = pendingOf st)
  (Q := λ c st' => c = (none, ()) /\ Bs κ a0 st' /\ Up rk (arrOf st') lo n /\ Old lo (arrOf st) (arrOf st') /\ pendingOf st' = pendingOf st) ?step ?fin ?init) ?post)
 case post =>
  rintro c st' ⟨rfl, B', u', o', p'⟩
  exact wpS_pure (h st' B' u' o' p')
 case init =>
  refine ⟨rfl, B, λ i j hij hj => ?_, λ _ _ => rfl, rfl⟩
  exact up i j hij (by omega)
 case fin =>
  rintro c st' ⟨hc, B', u', o', p'⟩
  refine ⟨hc, B', ?_, o', p'⟩
  rwa [show min (max (max ok 1) n) n = n by omega] at u'
 case step =>
  rintro k c st' hak hkn ⟨rfl, B', u', o', p'⟩
  rw [show min k n = k by omega] at u'
  have hk : lo + k < a0.size := by omega
  have hks : lo + k < (arrOf st').size := by rw [B'.size]; exact hk
  refine wpS_bind (wpS_mono (wpS_forRange (I := λ x c st'' => st'' = st' /\ ∃ l r, c = (none, l, r) /\ l <= r /\ r <= k /\ r - l <= k - x /\
   (∀ i, i < l -> K rk (arrOf st') (lo + i) < K rk (arrOf st') (lo + k)) /\ (∀ i, r <= i -> i < k -> K rk (arrOf st') (lo + k) < K rk (arrOf st') (lo + i)))
   (Q := λ c st'' => st'' = st' /\ ∃ l r, c = (none, l, r) /\ l <= k /\
    (∀ i, i < l -> K rk (arrOf st') (lo + i) < K rk (arrOf st') (lo + k)) /\ (∀ i, l <= i -> i < k -> K rk (arrOf st') (lo + k) < K rk (arrOf st') (lo + i))) ?istep ?ifin ?iinit) ?ipost)
  case iinit => exact ⟨rfl, 0, k, rfl, by omega, by omega, by omega, λ i hi => by omega, λ i h1 h2 => by omega⟩
  case ifin =>
   rintro c st'' ⟨rfl, l, r, rfl, hlr, hrk, hm, hlo, hhi⟩
   have : l = r := by omega
   subst this
   exact ⟨rfl, l, l, rfl, hrk, hlo, hhi⟩
  case istep =>
   rintro x c st'' _ hxk ⟨rfl, l, r, rfl, hlr, hrk, hm, hlo, hhi⟩
   dsimp only
   by_cases hge : l >= r
   · rw [if_pos hge]
     have : l = r := by omega
     subst this
     exact wpS_pure ⟨rfl, l, l, rfl, hrk, hlo, hhi⟩
   · rw [if_neg hge]
     have ne := B'.ne C hk (show lo + (l + r) / 2 < a0.size by omega) (by omega)
     refine wpS_bind (pX C B' hk (by omega) ?_)
     by_cases hless : K rk (arrOf st'') (lo + k) < K rk (arrOf st'') (lo + (l + r) / 2)
     · simp only [hless, decide_true, if_true]
       refine wpS_pure ⟨rfl, l, (l + r) / 2, rfl, by omega, by omega, by omega, hlo, λ i h1 h2 => ?_⟩
       by_cases e : (l + r) / 2 = i
       · rw [<- e]; exact hless
       · exact Nat.lt_trans hless (u' _ _ (by omega) h2)
     · simp only [hless, decide_false, zN, if_false]
       refine wpS_pure ⟨rfl, (l + r) / 2 + 1, r, rfl, by omega, by omega, by omega, λ i h1 => ?_, hhi⟩
       by_cases e : i = (l + r) / 2
       · rw [e]; omega
       · have := u' i ((l + r) / 2) (by omega) (by omega)
         omega
  case ipost =>
   rintro c st'' ⟨rfl, l, r, rfl, hlk, hlo, hhi⟩
   show wpS _ _ _ _ (do moveDown' (lo + k) (lo + l); pure (ForInStep.yield (none, ()))) _ _
   rw [moveDown'_eq]
   refine wpS_bind (wpS_modify (wpS_pure ⟨rfl, B'.setArr (bubble_perm _ _ _), ?_, o'.trans (vy hks hlk), p'⟩))
   rw [show min (k + 1) n = k + 1 by omega]
   intro i j hij hj
   show K rk (bubble (arrOf st'') (lo + k) (lo + k - (lo + l))) (lo + i) < K rk (bubble (arrOf st'') (lo + k) (lo + k - (lo + l))) (lo + j)
   rw [uO hks (by omega), uO hks (by omega), show lo + k - (lo + k - (lo + l)) = lo + l by omega]
   have pr : ∀ m, lo + l < lo + m -> lo + m - 1 = lo + (m - 1) := λ m hm => by omega
   repeat' split
   all_goals first
    | (exfalso; omega)
    | exact hlo _ (by omega)
    | (rw [pr _ (by omega)]; exact hhi _ (by omega) (by omega))
    | (rw [pr _ (by omega), pr _ (by omega)]; exact u' _ _ (by omega) (by omega))
    | (rw [pr _ (by omega)]; exact u' _ _ (by omega) (by omega))
    | exact u' _ _ (by omega) (by omega)
theorem vz {lo n : Nat} {xs : Array Keyed} (hs : lo + n <= xs.size) : Old lo xs (mirror xs lo (lo + n) ((lo + n - lo) / 2)) := λ i h => by
 rw [getElem?_mirror_all hs, if_neg (by omega)]
def Dn (rk : Keyed -> Nat) (xs : Array Keyed) (lo n : Nat) : Prop := ∀ i j, i < j -> j < n -> K rk xs (lo + j) < K rk xs (lo + i)
theorem rQ {st : SortSt} {lo nrem : Nat} {Q : Option Nat -> SortSt -> Prop} (C : Ct prog w A E s κ a0 rk) (hn : lo + nrem <= a0.size) (h1 : 1 <= nrem) (B : Bs κ a0 st)
 (h : ∀ n st', 1 <= n -> n <= nrem -> Bs κ a0 st' -> Up rk (arrOf st') lo n -> Old lo (arrOf st) (arrOf st') -> pendingOf st' = pendingOf st -> Q (some n) st') : wpS (model prog w) A E s (countRun' lo nrem) Q st := by
 rw [countRun'_eq]
 have asc : ∀ (a : Nat) (st1 : SortSt) (R : Option (Option Nat) × Nat -> SortSt -> Prop), 1 <= a -> a <= nrem -> Bs κ a0 st1 -> Up rk (arrOf st1) lo a -> (∀ n, a <= n -> n <= nrem -> Up rk (arrOf st1) lo n -> (n < nrem -> K rk (arrOf st1) (lo + n) < K rk (arrOf st1) (lo + n - 1)) -> R (none, n) st1) ->
  wpS (model prog w) A E s (forIn [a:nrem] ((none, a) : Option (Option Nat) × Nat) λ _ r => do
   let x <- ltAt' (lo + r.2) (lo + r.2 - 1)
   match x with
   | some smaller => if smaller = true then pure (ForInStep.done (none, r.2)) else pure (ForInStep.yield (none, r.2 + 1))
   | _ => pure (ForInStep.done (some none, r.2))) R st1 := by
  intro a st1 R ha hna B1 up k
  refine wpS_mono (wpS_forRange (I := λ x c st' => st' = st1 /\ c = (none, x) /\ x <= nrem /\ Up rk (arrOf st1) lo x) (Q := λ c st' => R c st') ?step ?fin ?init) (λ _ _ q => q)
  case init => exact ⟨rfl, rfl, hna, up⟩
  case fin =>
   rintro c st' ⟨rfl, rfl, hx, u⟩
   exact k _ (by omega) hx u (λ z => by omega)
  case step =>
   rintro x c st' hax hxn ⟨rfl, rfl, hx, u⟩
   dsimp only
   have ne := B1.ne C (show lo + x < a0.size by omega) (show lo + x - 1 < a0.size by omega) (by omega)
   refine wpS_bind (pX C B1 (by omega) (by omega) ?_)
   by_cases hl : K rk (arrOf st') (lo + x) < K rk (arrOf st') (lo + x - 1)
   · simp only [hl, decide_true, if_true]
     exact wpS_pure (k x (by omega) hx u (λ _ => hl))
   · simp only [hl, decide_false, zN, if_false]
     refine wpS_pure ⟨rfl, rfl, by omega, λ i j hij hj => ?_⟩
     have e : lo + x - 1 = lo + (x - 1) := by omega
     rw [e] at ne hl
     by_cases z : j = x
     · subst z
       by_cases z2 : i = j - 1
       · subst z2; omega
       · have := u i (j - 1) (by omega) (by omega)
         omega
     · exact u i j hij (by omega)
 refine wpS_bind (asc 1 st _ (Q2 _) h1 B (λ i j hij hj => by omega) λ n hn1 hn2 up stop => ?_)
 dsimp only
 by_cases e : n = nrem
 · rw [if_pos (by simpa using e)]
   exact wpS_pure (h n st hn1 hn2 B up (λ _ _ => rfl) rfl)
 · rw [if_neg (by simpa using e)]
   by_cases g : n > 1
   · rw [if_pos g]
     refine wpS_bind (pX C B (by omega) (by omega) ?_)
     have e2 : lo + n - 1 = lo + (n - 1) := by omega
     have u := up 0 (n - 1) (by omega) (by omega)
     rw [Nat.add_zero, <- e2] at u
     simp only [u, decide_true, if_true]
     exact wpS_pure (h n st hn1 hn2 B up (λ _ _ => rfl) rfl)
   · rw [if_neg g]
     have n1 : n = 1 := by omega
     subst n1
     have st1 := stop (by omega)
     refine wpS_bind (wpS_lift (wpAny_rule ⟨rfl, ?_⟩))
     refine wpS_bind (wpS_mono (wpS_forRange (I := λ x c st' => st' = st /\ c = (none, x, 0) /\ x <= nrem /\ Dn rk (arrOf st) lo x) (Q := λ c st' => st' = st /\ ∃ x, c = (none, x, 0) /\ 2 <= x /\ x <= nrem /\ Dn rk (arrOf st) lo x) ?step ?fin ?init) ?post)
     case init =>
      refine ⟨rfl, rfl, by omega, λ i j hij hj => ?_⟩
      have e1 : i = 0 := by omega
      have e2 : j = 1 := by omega
      subst e1 e2
      exact st1
     case fin =>
      rintro c st' ⟨rfl, rfl, hx, u⟩
      exact ⟨rfl, _, rfl, by omega, hx, u⟩
     case step =>
      rintro x c st' hax hxn ⟨rfl, rfl, hx, u⟩
      dsimp only
      have ne := B.ne C (show lo + x < a0.size by omega) (show lo + x - 1 < a0.size by omega) (by omega)
      refine wpS_bind (pX C B (by omega) (by omega) ?_)
      by_cases hl : K rk (arrOf st') (lo + x) < K rk (arrOf st') (lo + x - 1)
      · simp only [hl, decide_true, if_true, zT, if_false, gt_iff_lt]
        refine wpS_pure ⟨rfl, rfl, by omega, λ i j hij hj => ?_⟩
        have e : lo + x - 1 = lo + (x - 1) := by omega
        rw [e] at ne hl
        by_cases z : j = x
        · subst z
          by_cases z2 : i = j - 1
          · subst z2; exact hl
          · have := u i (j - 1) (by omega) (by omega)
            omega
        · exact u i j hij (by omega)
      · simp only [hl, decide_false, zN, if_false]
        refine wpS_bind (pX C B (by omega) (by omega) ?_)
        have hg : K rk (arrOf st') (lo + x - 1) < K rk (arrOf st') (lo + x) := by omega
        simp only [hg, decide_true, if_true]
        exact wpS_pure ⟨rfl, x, rfl, by omega, hx, u⟩
     case post =>
      rintro c st' ⟨rfl, x, rfl, hx2, hx, dn⟩
      dsimp only
      rw [if_neg (zT 0)]
      rw [reverseSlice'_eq]
      have hz : lo + x <= (arrOf st').size := by rw [B.size]; omega
      refine wpS_bind (wpS_modify ?_)
      have B2 : Bs κ a0 (PyProof.Rows.setArr st' (mirror (arrOf st') lo (lo + x) ((lo + x - lo) / 2))) := B.setArr (mirror_perm _ _ _ _)
      refine wpS_bind (asc x (PyProof.Rows.setArr st' (mirror (arrOf st') lo (lo + x) ((lo + x - lo) / 2))) _ (by omega) hx B2 (λ i j hij hj => ?_) λ n hn1 hn2 up2 _ => ?_)
      · show K rk (mirror (arrOf st') lo (lo + x) ((lo + x - lo) / 2)) (lo + i) < K rk (mirror (arrOf st') lo (lo + x) ((lo + x - lo) / 2)) (lo + j)
        rw [uP hz, uP hz, if_pos (by omega), if_pos (by omega)]
        have e1 : lo + (lo + x) - 1 - (lo + i) = lo + (x - 1 - i) := by omega
        have e2 : lo + (lo + x) - 1 - (lo + j) = lo + (x - 1 - j) := by omega
        rw [e1, e2]
        exact dn _ _ (by omega) (by omega)
      · exact wpS_pure (h n _ (by omega) hn2 B2 up2 (vz hz) rfl)
noncomputable def xM : Bool -> Keyed -> Array Keyed -> Nat -> Nat -> Nat -> StateT SortSt Sem (Option Nat) := sortPriv% PySem.Builtin.gallop
noncomputable def fL (rk : Keyed -> Nat) (left : Bool) (key : Keyed) (arr : Array Keyed) (i : Nat) : Bool := if left = true then decide (K rk arr i < rk key) else !decide (rk key < K rk arr i)
theorem bf {st : SortSt} {left : Bool} {key : Keyed} {arr : Array Keyed} {base n hint : Nat} {Q : Option Nat -> SortSt -> Prop} (C : Ct prog w A E s κ a0 rk) (hk : kindOf st = κ) (hkey : key ∈ a0) (harr : ∀ i, i < n -> ∃ x, arr[base + i]? = some x /\ x ∈ a0) (up : Up rk arr base n) (hh : hint < n)
 (h : ∀ r, r <= n -> (∀ i, i < r -> fL rk left key arr (base + i) = true) -> (∀ i, r <= i -> i < n -> fL rk left key arr (base + i) = false) -> Q (some r) st) : wpS (model prog w) A E s (xM left key arr base n hint) Q st := by
 have bey : ∀ (i : Nat) (R : Option Bool -> SortSt -> Prop), i < n -> R (some (fL rk left key arr (base + i))) st -> wpS (model prog w) A E s (do
  let x <- elem' arr (base + i)
  if left = true then lt' x key else do
   let r <- lt' key x
   pure (Option.map (λ x => !x) r)) R st := by
  intro i R hi k
  obtain ⟨x, ex, mx⟩ := harr i hi
  have kx : K rk arr (base + i) = rk x := by unfold K; rw [D8, ex]; rfl
  rw [elem'_eq, ex]
  refine wpS_bind (wpS_pure ?_)
  unfold fL at k
  rw [kx] at k
  cases left with
  | true =>
   simp only [if_true] at k ⊢
   exact C.cmp x key st R hk mx hkey k
  | false =>
   simp only [zN, if_false] at k ⊢
   exact wpS_bind (C.cmp key x st _ hk hkey mx (wpS_pure k))
 have mono : ∀ i j, i <= j -> j < n -> fL rk left key arr (base + j) = true -> fL rk left key arr (base + i) = true := by
  intro i j hij hj q
  by_cases e : i = j
  · rw [e]; exact q
  · have := up i j (by omega) hj
    unfold fL at q ⊢
    cases left with
    | true => simp only [if_true, decide_eq_true_eq] at q ⊢; omega
    | false => simp only [zN, if_false, Bool.not_eq_true', decide_eq_false_iff_not] at q ⊢; omega
 have mon2 : ∀ i j, i <= j -> j < n -> fL rk left key arr (base + i) = false -> fL rk left key arr (base + j) = false := by
  intro i j hij hj q
  cases z : fL rk left key arr (base + j) with
  | false => rfl
  | true => rw [mono i j hij hj z] at q; cases q
 have Fy : ∀ (f : Nat -> Option (Option Nat) × Nat × Nat -> StateT SortSt Sem (ForInStep (Option (Option Nat) × Nat × Nat))) (R : Option (Option Nat) × Nat × Nat -> SortSt -> Prop) (lo hi : Nat),
  (∀ x lo hi R, lo >= hi -> R (ForInStep.done (none, lo, hi)) st -> wpS (model prog w) A E s (f x (none, lo, hi)) R st) ->
  (∀ x lo hi R, lo < hi -> hi <= n -> (fL rk left key arr (base + (lo + (hi - lo) / 2)) = true -> R (ForInStep.yield (none, lo + (hi - lo) / 2 + 1, hi)) st) -> (fL rk left key arr (base + (lo + (hi - lo) / 2)) = false -> R (ForInStep.yield (none, lo, lo + (hi - lo) / 2)) st) -> wpS (model prog w) A E s (f x (none, lo, hi)) R st) ->
  lo <= hi -> hi <= n -> (∀ i, i < lo -> fL rk left key arr (base + i) = true) -> (∀ i, hi <= i -> i < n -> fL rk left key arr (base + i) = false) ->
  (∀ r, r <= n -> (∀ i, i < r -> fL rk left key arr (base + i) = true) -> (∀ i, r <= i -> i < n -> fL rk left key arr (base + i) = false) -> R (none, r, r) st) ->
  wpS (model prog w) A E s (forIn [0:n] (none, lo, hi) f) R st := by
  intro f R lo hi f1 f2 hlh hhn hl hr k
  refine wpS_forRange (I := λ x c st' => st' = st /\ ∃ lo hi, c = (none, lo, hi) /\ lo <= hi /\ hi <= n /\ hi - lo <= n - x /\ (∀ i, i < lo -> fL rk left key arr (base + i) = true) /\ (∀ i, hi <= i -> i < n -> fL rk left key arr (base + i) = false)) (Q := R) ?step ?fin ?init
  case init => exact ⟨rfl, lo, hi, rfl, hlh, hhn, by omega, hl, hr⟩
  case fin =>
   rintro c st' ⟨rfl, lo, hi, rfl, h1, h2, h3, h4, h5⟩
   have : lo = hi := by omega
   subst this
   exact k lo h2 h4 h5
  case step =>
   rintro x c st' _ hx ⟨rfl, lo, hi, rfl, h1, h2, h3, h4, h5⟩
   by_cases g : lo >= hi
   · have : lo = hi := by omega
     subst this
     exact f1 x lo lo _ g (k lo h2 h4 h5)
   · exact f2 x lo hi _ (by omega) h2 (λ z => ⟨rfl, _, _, rfl, by omega, h2, by omega, λ i hi' => mono i _ (by omega) (by omega) z, h5⟩) (λ z => ⟨rfl, _, _, rfl, by omega, by omega, by omega, h4, λ i hi' hi2 => mon2 _ i hi' hi2 z⟩)
 unfold xM
 refine wpS_bind (bey hint _ hh ?_)
 cases z : fL rk left key arr (base + hint) with
 | true =>
  dsimp only
  rw [if_pos rfl]
  refine wpS_bind (wpS_mono (wpS_forRange (I := λ x c st' => st' = st /\ ∃ la of, c = (none, la, of) /\ la < of /\ x < of /\ hint + la < n /\ fL rk left key arr (base + (hint + la)) = true)
   (Q := λ c st' => st' = st /\ ∃ la of, c = (none, la, of) /\ la < of /\ hint + la < n /\ fL rk left key arr (base + (hint + la)) = true /\ (of < n - hint -> fL rk left key arr (base + (hint + of)) = false)) ?step ?fin ?init) ?post)
  case init => exact ⟨rfl, 0, 1, rfl, by omega, by omega, by omega, z⟩
  case fin =>
   rintro c st' ⟨rfl, la, of, rfl, h1, h2, h3, h4⟩
   exact ⟨rfl, la, of, rfl, h1, h3, h4, λ q => by omega⟩
  case step =>
   rintro x c st' _ hx ⟨rfl, la, of, rfl, h1, h2, h3, h4⟩
   dsimp only
   by_cases g : of >= n - hint
   · rw [if_pos g]
     exact wpS_pure ⟨rfl, la, of, rfl, h1, h3, h4, λ q => by omega⟩
   · rw [if_neg g]
     refine wpS_bind (bey (hint + of) _ (by omega) ?_)
     cases z2 : fL rk left key arr (base + (hint + of)) with
     | true =>
      simp only [wb, zN, if_false]
      exact wpS_pure ⟨rfl, of, 2 * of + 1, rfl, by omega, by omega, by omega, z2⟩
     | false =>
      simp only [yr, if_true]
      exact wpS_pure ⟨rfl, la, of, rfl, h1, h3, h4, λ _ => z2⟩
  case post =>
   rintro c st' ⟨rfl, la, of, rfl, h1, h3, h4, h5⟩
   dsimp only
   refine wpS_bind (Fy _ _ (hint + la + 1) (hint + min of (n - hint)) (λ x lo hi R g q => by
    dsimp only
    rw [if_pos g]
    exact wpS_pure q) (λ x lo hi R g g2 q1 q2 => by
    dsimp only
    rw [if_neg (by omega)]
    refine wpS_bind (bey _ _ (by omega) ?_)
    cases z3 : fL rk left key arr (base + (lo + (hi - lo) / 2)) with
    | true =>
     simp only [if_true]
     exact wpS_pure (q1 z3)
    | false =>
     simp only [zN, if_false]
     exact wpS_pure (q2 z3)) (by omega) (by omega) (λ i hi => mono i _ (by omega) h3 h4) (λ i hi hi2 => mon2 (hint + of) i (by omega) hi2 (h5 (by omega))) λ r h6 h7 h8 => ?_)
   exact wpS_pure (h r h6 h7 h8)
 | false =>
  dsimp only
  rw [if_neg yh]
  refine wpS_bind (wpS_mono (wpS_forRange (I := λ x c st' => st' = st /\ ∃ la of, c = (none, la, of) /\ la < of /\ x < of /\ la <= hint /\ fL rk left key arr (base + (hint - la)) = false)
   (Q := λ c st' => st' = st /\ ∃ la of, c = (none, la, of) /\ la < of /\ la <= hint /\ fL rk left key arr (base + (hint - la)) = false /\ (of < hint + 1 -> fL rk left key arr (base + (hint - of)) = true)) ?step ?fin ?init) ?post)
  case init => exact ⟨rfl, 0, 1, rfl, by omega, by omega, by omega, z⟩
  case fin =>
   rintro c st' ⟨rfl, la, of, rfl, h1, h2, h3, h4⟩
   exact ⟨rfl, la, of, rfl, h1, h3, h4, λ q => by omega⟩
  case step =>
   rintro x c st' _ hx ⟨rfl, la, of, rfl, h1, h2, h3, h4⟩
   dsimp only
   by_cases g : of >= hint + 1
   · rw [if_pos g]
     exact wpS_pure ⟨rfl, la, of, rfl, h1, h3, h4, λ q => by omega⟩
   · rw [if_neg g]
     refine wpS_bind (bey (hint - of) _ (by omega) ?_)
     cases z2 : fL rk left key arr (base + (hint - of)) with
     | true =>
      simp only [if_true]
      exact wpS_pure ⟨rfl, la, of, rfl, h1, h3, h4, λ _ => z2⟩
     | false =>
      simp only [zN, if_false]
      exact wpS_pure ⟨rfl, of, 2 * of + 1, rfl, by omega, by omega, by omega, z2⟩
  case post =>
   rintro c st' ⟨rfl, la, of, rfl, h1, h3, h4, h5⟩
   dsimp only
   refine wpS_bind (Fy _ _ (hint + 1 - min of (hint + 1)) (hint - la) (λ x lo hi R g q => by
    dsimp only
    rw [if_pos g]
    exact wpS_pure q) (λ x lo hi R g g2 q1 q2 => by
    dsimp only
    rw [if_neg (by omega)]
    refine wpS_bind (bey _ _ (by omega) ?_)
    cases z3 : fL rk left key arr (base + (lo + (hi - lo) / 2)) with
    | true =>
     simp only [if_true]
     exact wpS_pure (q1 z3)
    | false =>
     simp only [zN, if_false]
     exact wpS_pure (q2 z3)) (by omega) (by omega) (λ i hi => mono i (hint - of) (by omega) (by omega) (h5 (by omega))) (λ i hi hi2 => mon2 _ i hi hi2 h4) λ r h6 h7 h8 => ?_)
   exact wpS_pure (h r h6 h7 h8)
end
section
variable {rk : Keyed -> Nat}
def cg (rk : Keyed -> Nat) (l : List Keyed) : Prop := l.Pairwise λ x y => rk x < rk y
structure Mg (rk : Keyed -> Nat) (A B o : List Keyed) (i j : Nat) : Prop where
 pe : o.Perm (A.take i ++ B.take j)
 up : cg rk o
 a : ∀ x ∈ o, ∀ y ∈ A.drop i, rk x < rk y
 b : ∀ x ∈ o, ∀ y ∈ B.drop j, rk x < rk y
variable {A B o : List Keyed} {i j k : Nat}
theorem Mg.swap (h : Mg rk A B o i j) : Mg rk B A o j i := ⟨h.pe.trans D9, h.up, h.b, h.a⟩
theorem Mg.addA (h : Mg rk A B o i j) (rA : cg rk A) (hk : ∀ x ∈ (A.drop i).take k, ∀ y ∈ B.drop j, rk x < rk y) : Mg rk A B (o ++ (A.drop i).take k) (i + k) j := by
 have e : A.take (i + k) = A.take i ++ (A.drop i).take k := List.take_add
 have d : A.drop i = (A.drop i).take k ++ A.drop (i + k) := by rw [<- List.drop_drop]; exact (Ba k (A.drop i)).symm
 have rD : cg rk (A.drop i) := List.Pairwise.sublist (List.drop_sublist i A) rA
 have rD' := rD
 unfold cg at rD'
 rw [d, Bb] at rD'
 obtain ⟨r1, r2, r3⟩ := rD'
 refine ⟨?_, ?_, λ x hx y hy => ?_, λ x hx y hy => ?_⟩
 · rw [e]
   refine (h.pe.append_right _).trans ?_
   rw [yq, yq]
   exact List.Perm.append_left _ D9
 · unfold cg
   rw [Bb]
   exact ⟨h.up, r1, λ x hx y hy => h.a x hx y (List.mem_of_mem_take hy)⟩
 · rcases xY.mp hx with hx | hx
   · exact h.a x hx y (by rw [d]; exact yl _ hy)
   · exact r3 x hx y hy
 · rcases xY.mp hx with hx | hx
   · exact h.b x hx y hy
   · exact hk x hx y hy
theorem Mg.addB (h : Mg rk A B o i j) (rB : cg rk B) (hk : ∀ x ∈ (B.drop j).take k, ∀ y ∈ A.drop i, rk x < rk y) : Mg rk A B (o ++ (B.drop j).take k) i (j + k) := (h.swap.addA rB hk).swap
def j7 (rk : Keyed -> Nat) (A B r : List Keyed) : Prop := r.Perm (A ++ B) /\ cg rk r
theorem Mg.fin (h : Mg rk A B o i j) (rA : cg rk A) (rB : cg rk B) (hk : ∀ x ∈ A.drop i, ∀ y ∈ B.drop j, rk x < rk y) : j7 rk A B (o ++ A.drop i ++ B.drop j) := by
 refine ⟨?_, ?_⟩
 · have e : A ++ B = (A.take i ++ A.drop i) ++ (B.take j ++ B.drop j) := by rw [Ba, Ba]
   rw [e]
   refine ((h.pe.append_right _).append_right _).trans ?_
   simp only [yq]
   refine List.Perm.append_left _ ?_
   rw [<- yq, <- yq]
   exact List.Perm.append_right _ D9
 · unfold cg
   rw [Bb, Bb]
   refine ⟨⟨h.up, List.Pairwise.sublist (List.drop_sublist i A) rA, h.a⟩, List.Pairwise.sublist (List.drop_sublist j B) rB, λ x hx y hy => ?_⟩
   rcases xY.mp hx with hx | hx
   · exact h.b x hx y hy
   · exact hk x hx y hy
theorem Mg.fin2 (h : Mg rk A B o i j) (rA : cg rk A) (rB : cg rk B) (hk : ∀ x ∈ B.drop j, ∀ y ∈ A.drop i, rk x < rk y) : j7 rk A B (o ++ B.drop j ++ A.drop i) :=
 let ⟨p, q⟩ := h.swap.fin rB rA hk; ⟨p.trans D9, q⟩
theorem lu (rA : cg rk A) (h : i < A.length) {y : Keyed} (hy : y ∈ A.drop i) : rk A[i] <= rk y := by
 have rD : cg rk (A.drop i) := List.Pairwise.sublist (List.drop_sublist i A) rA
 rw [Em h] at rD hy
 rcases qS.mp hy with rfl | hy
 · exact Q2 _
 · exact xW ((List.pairwise_cons.mp rD).1 y hy)
theorem pY (a : Array Keyed) (i k : Nat) : (a.extract i (i + k)).toList = (a.toList.drop i).take k := by
 rw [Array.toList_extract, List.extract_eq_take_drop]
 congr 1
 omega
theorem j8 (a : Array Keyed) (i : Nat) : (a.extract i a.size).toList = a.toList.drop i := by
 rw [Array.toList_extract, List.extract_eq_take_drop, List.take_of_length_le]
 rw [DD, Q6]
 exact Q2 _
end
noncomputable def uQ : Array Keyed -> Array Keyed -> StateT SortSt Sem (Array Keyed) := sortPriv% PySem.Builtin.mergeLo
noncomputable def uR : Array Keyed -> Array Keyed -> StateT SortSt Sem (Array Keyed) := sortPriv% PySem.Builtin.mergeHi
structure SG (st st' : SortSt) : Prop where
 a : arrOf st' = arrOf st
 p : pendingOf st' = pendingOf st
 f : failedOf st' = failedOf st
 k : kindOf st' = kindOf st
theorem SG.refl (st : SortSt) : SG st st := ⟨rfl, rfl, rfl, rfl⟩
theorem SG.trans {a b c : SortSt} (x : SG a b) (y : SG b c) : SG a c := ⟨y.a.trans x.a, y.p.trans x.p, y.f.trans x.f, y.k.trans x.k⟩
section
variable {prog : Program} {w : World} {A : Around} {E : Value -> Shared -> Prop} {s : Shared} {κ : SortKind} {a0 : Array Keyed} {rk : Keyed -> Nat}
structure Two (rk : Keyed -> Nat) (a0 a b : Array Keyed) : Prop where
 rA : cg rk a.toList
 rB : cg rk b.toList
 ma : ∀ x ∈ a, x ∈ a0
 mb : ∀ x ∈ b, x ∈ a0
 dis : ∀ x ∈ a, ∀ y ∈ b, rk x ≠ rk y
variable {a b : Array Keyed}
theorem ak {σ : SortSt} {i : Nat} {R : Keyed -> SortSt -> Prop} (h : i < a.size) (k : R a[i] σ) : wpS (model prog w) A E s (elem' a i) R σ := by
 rw [elem'_eq, Q5 h]
 exact wpS_pure k
theorem eH (r : cg rk a.toList) (lo : Nat) {n : Nat} (h : lo + n <= a.size) : Up rk a lo n := λ i j hij hj => by
 have k : ∀ m (hm : m < a.size), K rk a m = rk a.toList[m] := λ m hm => by
  unfold K
  rw [D8, Q5 hm]
  simp
 rw [k _ (by omega), k _ (by omega)]
 exact El.mp r _ _ _ _ (by omega)
theorem cU {m : Nat} (hm : m < a.size) : K rk a m = rk a[m] := by
 unfold K
 rw [D8, Q5 hm]
 rfl
theorem Two.pushB (T : Two rk a0 a b) {o : List Keyed} {i j : Nat} (m : Mg rk a.toList b.toList o i j) (hi : i < a.size) (hj : j < b.size) (h : rk b[j] < rk a[i]) : Mg rk a.toList b.toList (o ++ [b[j]]) i (j + 1) := by
 have e : (b.toList.drop j).take 1 = [b[j]] := by rw [Em (by simpa using hj)]; simp
 have q := m.addB (k := 1) T.rB (by
  rw [e]
  intro x hx y hy
  rw [yp.mp hx]
  have := lu T.rA (by simpa using hi) hy
  simp only [Array.getElem_toList] at this
  omega)
 rw [e] at q
 exact q
theorem Two.pushA (T : Two rk a0 a b) {o : List Keyed} {i j : Nat} (m : Mg rk a.toList b.toList o i j) (hi : i < a.size) (hj : j < b.size) (h : rk a[i] < rk b[j]) : Mg rk a.toList b.toList (o ++ [a[i]]) (i + 1) j := by
 have e : (a.toList.drop i).take 1 = [a[i]] := by rw [Em (by simpa using hi)]; simp
 have q := m.addA (k := 1) T.rA (by
  rw [e]
  intro x hx y hy
  rw [yp.mp hx]
  have := lu T.rB (by simpa using hj) hy
  simp only [Array.getElem_toList] at this
  omega)
 rw [e] at q
 exact q
theorem xN {x : Keyed} {i k : Nat} (h : x ∈ (a.toList.drop i).take k) (hk : i + k <= a.size) : ∃ m, ∃ hm : i + m < a.size, m < k /\ x = a[i + m] := by
 obtain ⟨m, hm, e⟩ := Bh h
 rw [vC, DD, Q6] at hm
 refine ⟨m, by omega, by omega, ?_⟩
 rw [<- e]
 simp
theorem Two.segA (T : Two rk a0 a b) {o : List Keyed} {i j k : Nat} (m : Mg rk a.toList b.toList o i j) (hj : j < b.size) (hk : i + k <= a.size) (h : ∀ q (hq : i + q < a.size), q < k -> rk a[i + q] < rk b[j]) : Mg rk a.toList b.toList (o ++ (a.extract i (i + k)).toList) (i + k) j := by
 rw [pY]
 refine m.addA T.rA λ x hx y hy => ?_
 obtain ⟨q, hq, qk, rfl⟩ := xN hx hk
 have := lu T.rB (by simpa using hj) hy
 simp only [Array.getElem_toList] at this
 have := h q hq qk
 omega
theorem Two.segB (T : Two rk a0 a b) {o : List Keyed} {i j k : Nat} (m : Mg rk a.toList b.toList o i j) (hi : i < a.size) (hk : j + k <= b.size) (h : ∀ q (hq : j + q < b.size), q < k -> rk b[j + q] < rk a[i]) : Mg rk a.toList b.toList (o ++ (b.extract j (j + k)).toList) i (j + k) := by
 rw [pY]
 refine m.addB T.rB λ x hx y hy => ?_
 obtain ⟨q, hq, qk, rfl⟩ := xN hx hk
 have := lu T.rA (by simpa using hi) hy
 simp only [Array.getElem_toList] at this
 have := h q hq qk
 omega
theorem Two.done (T : Two rk a0 a b) {out : Array Keyed} {i j : Nat} (m : Mg rk a.toList b.toList out.toList i j) (h : i = a.size \/ j = b.size) : j7 rk a.toList b.toList (out ++ a.extract i a.size ++ b.extract j b.size).toList := by
 rw [vA, vA, j8, j8]
 refine m.fin T.rA T.rB λ x hx y hy => ?_
 rcases h with rfl | rfl
 · rw [List.drop_eq_nil_of_le (by simp)] at hx; cases hx
 · rw [List.drop_eq_nil_of_le (by simp)] at hy; cases hy
theorem Two.lastA (T : Two rk a0 a b) {out : Array Keyed} {i j : Nat} (m : Mg rk a.toList b.toList out.toList i j) (hi : i + 1 = a.size) (h : ∀ y ∈ b, ∀ hi : i < a.size, rk y < rk a[i]) : j7 rk a.toList b.toList (out ++ b.extract j b.size ++ a.extract i a.size).toList := by
 rw [vA, vA, j8, j8]
 refine m.fin2 T.rA T.rB λ x hx y hy => ?_
 have := h x (by rw [<- yg]; exact List.mem_of_mem_drop hx) (by omega)
 have := lu T.rA (by simpa using (show i < a.size by omega)) hy
 simp only [Array.getElem_toList] at this
 omega
theorem Cd {st : SortSt} {Q : Array Keyed -> SortSt -> Prop} (C : Ct prog w A E s κ a0 rk) (T : Two rk a0 a b) (hk : kindOf st = κ) (ha : 0 < a.size) (hb : 0 < b.size) (first : rk b[0] < rk a[0]) (last : ∀ y ∈ b, ∀ i (hi : i < a.size), i + 1 = a.size -> rk y < rk a[i])
 (h : ∀ r st', SG st st' -> j7 rk a.toList b.toList r.toList -> Q r st') : wpS (model prog w) A E s (uQ a b) Q st := by
 unfold uQ
 refine wpS_bind (wpS_lift (wpAny_rule ⟨rfl, ?_⟩))
 refine wpS_bind (ak hb ?_)
 have m0 : Mg rk a.toList b.toList (#[b[0]] : Array Keyed).toList 0 1 := by
  have : Mg rk a.toList b.toList [] 0 0 := ⟨List.Perm.refl _, List.Pairwise.nil, (λ x hx => nomatch hx), (λ x hx => nomatch hx)⟩
  exact T.pushB this ha hb first
 dsimp only
 by_cases e1 : 1 = b.size
 · rw [if_pos (by simpa using e1)]
   exact wpS_pure (h _ st (SG.refl _) (T.done m0 (.inr e1)))
 rw [if_neg (by simpa using e1)]
 by_cases e2 : 0 + 1 = a.size
 · rw [if_pos (by simpa using e2)]
   exact wpS_pure (h _ st (SG.refl _) (T.lastA m0 e2 λ y hy hi => last y hy 0 hi e2))
 rw [if_neg (by simpa using e2)]
 refine wpS_bind (wpS_get ?_)
 refine wpS_bind (wpS_mono (wpS_forRange (I := λ x c st' => SG st st' /\ ∃ out i j mg, c = (none, out, i, j, mg) /\ Mg rk a.toList b.toList out.toList i j /\ i + 1 < a.size /\ j < b.size /\ 1 + x <= i + j)
  (Q := λ c st' => SG st st' /\ ∃ r o, c = (some r, o) /\ j7 rk a.toList b.toList r.toList) ?step ?fin ?init) ?post)
 case init => exact ⟨SG.refl _, _, 0, 1, _, rfl, m0, by omega, by omega, by omega⟩
 case fin =>
  rintro c st' ⟨_, out, i, j, mg, _, _, h1, h2, h3⟩
  omega
 case post =>
  rintro c st' ⟨sg, r, o, rfl, fi⟩
  exact wpS_pure (h r st' sg fi)
 case step =>
  rintro x c st1 _ hx ⟨sg, out, i, j, mg, rfl, m, hi, hj, hx2⟩
  dsimp only
  refine wpS_bind (wpS_mono (wpS_forRange (I := λ y c st' => st' = st1 /\ ∃ out' i' j' p q, c = (none, out', i', j', p, q) /\ Mg rk a.toList b.toList out'.toList i' j' /\ i' + 1 < a.size /\ j' < b.size /\ i + j + y <= i' + j')
   (Q := λ c st' => st' = st1 /\ ((∃ r o, c = (some r, o) /\ j7 rk a.toList b.toList r.toList) \/ ∃ out' i' j' p q, c = (none, out', i', j', p, q) /\ Mg rk a.toList b.toList out'.toList i' j' /\ i' + 1 < a.size /\ j' < b.size /\ i + j + 1 <= i' + j')) ?step1 ?fin1 ?init1) ?post1)
  case init1 => exact ⟨rfl, out, i, j, 0, 0, rfl, m, hi, hj, Q2 _⟩
  case fin1 =>
   rintro c st' ⟨_, out', i', j', p, q, _, _, h1, h2, h3⟩
   omega
  case step1 =>
   rintro y c st' _ hy ⟨rfl, out', i', j', p, q, rfl, m', hi', hj', hy2⟩
   dsimp only
   have hi2 : i' < a.size := by omega
   refine wpS_bind (ak hj' (wpS_bind (ak hi2 (wpS_bind (C.cmp _ _ _ _ (sg.k.trans hk) (T.mb _ (Q1 hj')) (T.ma _ (Q1 hi2)) ?_)))))
   have ds := T.dis _ (Q1 hi2) _ (Q1 hj')
   by_cases g : rk b[j'] < rk a[i']
   · simp only [g, decide_true, if_true]
     refine wpS_bind (ak hj' ?_)
     have m2 : Mg rk a.toList b.toList (out'.push b[j']).toList i' (j' + 1) := by rw [vB]; exact T.pushB m' hi2 hj' g
     by_cases e : j' + 1 = b.size
     · rw [if_pos (by simpa using e)]
       exact wpS_pure ⟨rfl, .inl ⟨_, _, rfl, T.done m2 (.inr e)⟩⟩
     · rw [if_neg (by simpa using e)]
       by_cases e3 : q + 1 >= mg
       · rw [if_pos e3]
         exact wpS_pure ⟨rfl, .inr ⟨_, _, _, _, _, rfl, m2, hi', by omega, by omega⟩⟩
       · rw [if_neg e3]
         exact wpS_pure ⟨rfl, _, _, _, _, _, rfl, m2, hi', by omega, by omega⟩
   · simp only [g, decide_false, zN, if_false]
     refine wpS_bind (ak hi2 ?_)
     have m2 : Mg rk a.toList b.toList (out'.push a[i']).toList (i' + 1) j' := by rw [vB]; exact T.pushA m' hi2 hj' (by omega)
     by_cases e : i' + 1 + 1 = a.size
     · rw [if_pos (by simpa using e)]
       exact wpS_pure ⟨rfl, .inl ⟨_, _, rfl, T.lastA m2 e λ y hy hi => last y hy _ hi e⟩⟩
     · rw [if_neg (by simpa using e)]
       by_cases e3 : p + 1 >= mg
       · rw [if_pos e3]
         exact wpS_pure ⟨rfl, .inr ⟨_, _, _, _, _, rfl, m2, by omega, hj', by omega⟩⟩
       · rw [if_neg e3]
         exact wpS_pure ⟨rfl, _, _, _, _, _, rfl, m2, by omega, hj', by omega⟩
  case post1 =>
   rintro c st' ⟨rfl, ⟨r, o, rfl, fi⟩ | ⟨out, i1, j1, p, q, rfl, m, hi1, hj1, hx3⟩⟩
   · exact wpS_pure ⟨sg, r, _, rfl, fi⟩
   · dsimp only
     refine wpS_bind (wpS_lift (wpAny_rule ⟨rfl, ?_⟩))
     refine wpS_bind (wpS_mono (wpS_forRange (I := λ y c st' => SG st st' /\ ∃ out' i' j' g p q, c = (none, out', i', j', g, p, q) /\ Mg rk a.toList b.toList out'.toList i' j' /\ i' + 1 < a.size /\ j' < b.size /\ i1 + j1 + y <= i' + j')
      (Q := λ c st' => SG st st' /\ ((∃ r o, c = (some r, o) /\ j7 rk a.toList b.toList r.toList) \/ ∃ out' i' j' g p q, c = (none, out', i', j', g, p, q) /\ Mg rk a.toList b.toList out'.toList i' j' /\ i' + 1 < a.size /\ j' < b.size /\ i1 + j1 <= i' + j')) ?step2 ?fin2 ?init2) ?post2)
     case init2 => exact ⟨sg, out, i1, j1, _, _, _, rfl, m, hi1, hj1, Q2 _⟩
     case fin2 =>
      rintro c st' ⟨_, out', i', j', g, p, q, _, _, h1, h2, h3⟩
      omega
     case post2 =>
      rintro c st2 ⟨sg', ⟨r, o, rfl, fi⟩ | ⟨out', i', j', g, p, q, rfl, m', hi', hj', hx4⟩⟩
      · exact wpS_pure ⟨sg', r, _, rfl, fi⟩
      · dsimp only
        refine wpS_bind (wpS_modify (wpS_pure ⟨⟨sg'.a, sg'.p, sg'.f, sg'.k⟩, _, _, _, _, rfl, m', hi', hj', by omega⟩))
     case step2 =>
      rintro y c st2 _ hy ⟨sg', out', i', j', gv, p, q, rfl, m', hi', hj', hy2⟩
      dsimp only
      by_cases gg : gv > 1
      · rw [if_pos gg]
        refine wpS_bind (wpS_modify ?_)
        have sg2 : SG st (SortSt.mk' (kindOf st2) (arrOf st2) (pendingOf st2) (gv - 1) (failedOf st2)) := ⟨sg'.a, sg'.p, sg'.f, sg'.k⟩
        refine wpS_bind (ak hj' ?_)
        refine wpS_bind (bf (left := false) C (sg2.k.trans hk) (T.mb _ (Q1 hj')) (λ q hq => ⟨a[i' + q], Q5 (by omega), T.ma _ (Q1 (by omega))⟩) (eH T.rA _ (by omega)) (by omega) λ k hk1 f1 f2 => ?_)
        have la : ∀ q (hq : i' + q < a.size), q < k -> rk a[i' + q] < rk b[j'] := λ q hq qk => by
         have := f1 q qk
         unfold fL at this
         rw [cU hq] at this
         have ds := T.dis _ (Q1 hq) _ (Q1 hj')
         simp at this
         omega
        have ga : ∀ q (hq : i' + q < a.size), k <= q -> rk b[j'] < rk a[i' + q] := λ q hq qk => by
         have := f2 q qk (by omega)
         unfold fL at this
         rw [cU hq] at this
         simpa using this
        dsimp only
        by_cases g : k > 0
        · rw [if_pos g]
          have m1 : Mg rk a.toList b.toList (out' ++ a.extract i' (i' + k)).toList (i' + k) j' := by rw [vA]; exact T.segA m' hj' (by omega) la
          by_cases e3 : i' + k + 1 = a.size
          · rw [if_pos (by simpa using e3)]
            exact wpS_pure ⟨sg2, .inl ⟨_, _, rfl, T.lastA m1 e3 λ y hy hi => last y hy _ hi e3⟩⟩
          rw [if_neg (by simpa using e3)]
          by_cases e7 : i' + k = a.size
          · rw [if_pos (by simpa using e7)]
            exact wpS_pure ⟨sg2, .inl ⟨_, _, rfl, T.done m1 (.inl e7)⟩⟩
          rw [if_neg (by simpa using e7)]
          have hI : i' + k < a.size := by omega
          refine wpS_bind (ak hj' ?_)
          have m2 : Mg rk a.toList b.toList ((out' ++ a.extract i' (i' + k)).push b[j']).toList (i' + k) (j' + 1) := by rw [vB]; exact T.pushB m1 hI hj' (ga k (by omega) (Q2 _))
          by_cases e4 : j' + 1 = b.size
          · rw [if_pos (by simpa using e4)]
            exact wpS_pure ⟨sg2, .inl ⟨_, _, rfl, T.done m2 (.inr e4)⟩⟩
          rw [if_neg (by simpa using e4)]
          refine wpS_bind (ak hI ?_)
          refine wpS_bind (bf (left := true) C (sg2.k.trans hk) (T.ma _ (Q1 hI)) (λ q hq => ⟨b[j' + 1 + q], Q5 (by omega), T.mb _ (Q1 (by omega))⟩) (eH T.rB _ (by omega)) (by omega) λ k2 hk2 f3 f4 => ?_)
          have lb : ∀ q (hq : j' + 1 + q < b.size), q < k2 -> rk b[j' + 1 + q] < rk a[i' + k] := λ q hq qk => by
           have := f3 q qk
           unfold fL at this
           rw [cU hq] at this
           simpa using this
          have gb : ∀ q (hq : j' + 1 + q < b.size), k2 <= q -> rk a[i' + k] < rk b[j' + 1 + q] := λ q hq qk => by
           have := f4 q qk (by omega)
           unfold fL at this
           rw [cU hq] at this
           have ds := T.dis _ (Q1 hI) _ (Q1 hq)
           simp at this
           omega
          dsimp only
          by_cases g2 : k2 > 0
          · rw [if_pos g2]
            have m3 : Mg rk a.toList b.toList ((out' ++ a.extract i' (i' + k)).push b[j'] ++ b.extract (j' + 1) (j' + 1 + k2)).toList (i' + k) (j' + 1 + k2) := by rw [vA]; exact T.segB m2 hI (by omega) lb
            by_cases e6 : j' + 1 + k2 = b.size
            · rw [if_pos (by simpa using e6)]
              exact wpS_pure ⟨sg2, .inl ⟨_, _, rfl, T.done m3 (.inr e6)⟩⟩
            · rw [if_neg (by simpa using e6)]
              have hJ : j' + 1 + k2 < b.size := by omega
              refine wpS_bind (ak (show i' + k < a.size by omega) ?_)
              have m5 : Mg rk a.toList b.toList (((out' ++ a.extract i' (i' + k)).push b[j'] ++ b.extract (j' + 1) (j' + 1 + k2)).push a[i' + k]).toList (i' + k + 1) (j' + 1 + k2) := by rw [vB]; exact T.pushA m3 (by omega) hJ (gb k2 hJ (Q2 _))
              by_cases e5 : i' + k + 1 + 1 = a.size
              · rw [if_pos (by simpa using e5)]
                exact wpS_pure ⟨sg2, .inl ⟨_, _, rfl, T.lastA m5 e5 λ y hy hi => last y hy _ hi e5⟩⟩
              · rw [if_neg (by simpa using e5)]
                split
                · exact wpS_pure ⟨sg2, .inr ⟨_, _, _, _, _, _, rfl, m5, by omega, hJ, by omega⟩⟩
                · exact wpS_pure ⟨sg2, _, _, _, _, _, _, rfl, m5, by omega, hJ, by omega⟩
          · rw [if_neg g2]
            have hJ : j' + 1 < b.size := by omega
            refine wpS_bind (ak (show i' + k < a.size by omega) ?_)
            have m5 : Mg rk a.toList b.toList (((out' ++ a.extract i' (i' + k)).push b[j']).push a[i' + k]).toList (i' + k + 1) (j' + 1) := by rw [vB]; exact T.pushA m2 (by omega) hJ (gb 0 hJ (by omega))
            by_cases e5 : i' + k + 1 + 1 = a.size
            · rw [if_pos (by simpa using e5)]
              exact wpS_pure ⟨sg2, .inl ⟨_, _, rfl, T.lastA m5 e5 λ y hy hi => last y hy _ hi e5⟩⟩
            · rw [if_neg (by simpa using e5)]
              split
              · exact wpS_pure ⟨sg2, .inr ⟨_, _, _, _, _, _, rfl, m5, by omega, hJ, by omega⟩⟩
              · exact wpS_pure ⟨sg2, _, _, _, _, _, _, rfl, m5, by omega, hJ, by omega⟩
        · rw [if_neg g]
          have hI : i' < a.size := by omega
          refine wpS_bind (ak hj' ?_)
          have m2 : Mg rk a.toList b.toList ((out').push b[j']).toList (i') (j' + 1) := by rw [vB]; exact T.pushB m' hI hj' (ga 0 (by omega) (by omega))
          by_cases e4 : j' + 1 = b.size
          · rw [if_pos (by simpa using e4)]
            exact wpS_pure ⟨sg2, .inl ⟨_, _, rfl, T.done m2 (.inr e4)⟩⟩
          rw [if_neg (by simpa using e4)]
          refine wpS_bind (ak hI ?_)
          refine wpS_bind (bf (left := true) C (sg2.k.trans hk) (T.ma _ (Q1 hI)) (λ q hq => ⟨b[j' + 1 + q], Q5 (by omega), T.mb _ (Q1 (by omega))⟩) (eH T.rB _ (by omega)) (by omega) λ k2 hk2 f3 f4 => ?_)
          have lb : ∀ q (hq : j' + 1 + q < b.size), q < k2 -> rk b[j' + 1 + q] < rk a[i'] := λ q hq qk => by
           have := f3 q qk
           unfold fL at this
           rw [cU hq] at this
           simpa using this
          have gb : ∀ q (hq : j' + 1 + q < b.size), k2 <= q -> rk a[i'] < rk b[j' + 1 + q] := λ q hq qk => by
           have := f4 q qk (by omega)
           unfold fL at this
           rw [cU hq] at this
           have ds := T.dis _ (Q1 hI) _ (Q1 hq)
           simp at this
           omega
          dsimp only
          by_cases g2 : k2 > 0
          · rw [if_pos g2]
            have m3 : Mg rk a.toList b.toList ((out').push b[j'] ++ b.extract (j' + 1) (j' + 1 + k2)).toList (i') (j' + 1 + k2) := by rw [vA]; exact T.segB m2 hI (by omega) lb
            by_cases e6 : j' + 1 + k2 = b.size
            · rw [if_pos (by simpa using e6)]
              exact wpS_pure ⟨sg2, .inl ⟨_, _, rfl, T.done m3 (.inr e6)⟩⟩
            · rw [if_neg (by simpa using e6)]
              have hJ : j' + 1 + k2 < b.size := by omega
              refine wpS_bind (ak (show i' < a.size by omega) ?_)
              have m5 : Mg rk a.toList b.toList (((out').push b[j'] ++ b.extract (j' + 1) (j' + 1 + k2)).push a[i']).toList (i' + 1) (j' + 1 + k2) := by rw [vB]; exact T.pushA m3 (by omega) hJ (gb k2 hJ (Q2 _))
              by_cases e5 : i' + 1 + 1 = a.size
              · rw [if_pos (by simpa using e5)]
                exact wpS_pure ⟨sg2, .inl ⟨_, _, rfl, T.lastA m5 e5 λ y hy hi => last y hy _ hi e5⟩⟩
              · rw [if_neg (by simpa using e5)]
                split
                · exact wpS_pure ⟨sg2, .inr ⟨_, _, _, _, _, _, rfl, m5, by omega, hJ, by omega⟩⟩
                · exact wpS_pure ⟨sg2, _, _, _, _, _, _, rfl, m5, by omega, hJ, by omega⟩
          · rw [if_neg g2]
            have hJ : j' + 1 < b.size := by omega
            refine wpS_bind (ak (show i' < a.size by omega) ?_)
            have m5 : Mg rk a.toList b.toList (((out').push b[j']).push a[i']).toList (i' + 1) (j' + 1) := by rw [vB]; exact T.pushA m2 (by omega) hJ (gb 0 hJ (by omega))
            by_cases e5 : i' + 1 + 1 = a.size
            · rw [if_pos (by simpa using e5)]
              exact wpS_pure ⟨sg2, .inl ⟨_, _, rfl, T.lastA m5 e5 λ y hy hi => last y hy _ hi e5⟩⟩
            · rw [if_neg (by simpa using e5)]
              split
              · exact wpS_pure ⟨sg2, .inr ⟨_, _, _, _, _, _, rfl, m5, by omega, hJ, by omega⟩⟩
              · exact wpS_pure ⟨sg2, _, _, _, _, _, _, rfl, m5, by omega, hJ, by omega⟩
      · rw [if_neg gg]
        refine wpS_bind (wpS_modify ?_)
        have sg2 : SG st (SortSt.mk' (kindOf st2) (arrOf st2) (pendingOf st2) (gv) (failedOf st2)) := ⟨sg'.a, sg'.p, sg'.f, sg'.k⟩
        refine wpS_bind (ak hj' ?_)
        refine wpS_bind (bf (left := false) C (sg2.k.trans hk) (T.mb _ (Q1 hj')) (λ q hq => ⟨a[i' + q], Q5 (by omega), T.ma _ (Q1 (by omega))⟩) (eH T.rA _ (by omega)) (by omega) λ k hk1 f1 f2 => ?_)
        have la : ∀ q (hq : i' + q < a.size), q < k -> rk a[i' + q] < rk b[j'] := λ q hq qk => by
         have := f1 q qk
         unfold fL at this
         rw [cU hq] at this
         have ds := T.dis _ (Q1 hq) _ (Q1 hj')
         simp at this
         omega
        have ga : ∀ q (hq : i' + q < a.size), k <= q -> rk b[j'] < rk a[i' + q] := λ q hq qk => by
         have := f2 q qk (by omega)
         unfold fL at this
         rw [cU hq] at this
         simpa using this
        dsimp only
        by_cases g : k > 0
        · rw [if_pos g]
          have m1 : Mg rk a.toList b.toList (out' ++ a.extract i' (i' + k)).toList (i' + k) j' := by rw [vA]; exact T.segA m' hj' (by omega) la
          by_cases e3 : i' + k + 1 = a.size
          · rw [if_pos (by simpa using e3)]
            exact wpS_pure ⟨sg2, .inl ⟨_, _, rfl, T.lastA m1 e3 λ y hy hi => last y hy _ hi e3⟩⟩
          rw [if_neg (by simpa using e3)]
          by_cases e7 : i' + k = a.size
          · rw [if_pos (by simpa using e7)]
            exact wpS_pure ⟨sg2, .inl ⟨_, _, rfl, T.done m1 (.inl e7)⟩⟩
          rw [if_neg (by simpa using e7)]
          have hI : i' + k < a.size := by omega
          refine wpS_bind (ak hj' ?_)
          have m2 : Mg rk a.toList b.toList ((out' ++ a.extract i' (i' + k)).push b[j']).toList (i' + k) (j' + 1) := by rw [vB]; exact T.pushB m1 hI hj' (ga k (by omega) (Q2 _))
          by_cases e4 : j' + 1 = b.size
          · rw [if_pos (by simpa using e4)]
            exact wpS_pure ⟨sg2, .inl ⟨_, _, rfl, T.done m2 (.inr e4)⟩⟩
          rw [if_neg (by simpa using e4)]
          refine wpS_bind (ak hI ?_)
          refine wpS_bind (bf (left := true) C (sg2.k.trans hk) (T.ma _ (Q1 hI)) (λ q hq => ⟨b[j' + 1 + q], Q5 (by omega), T.mb _ (Q1 (by omega))⟩) (eH T.rB _ (by omega)) (by omega) λ k2 hk2 f3 f4 => ?_)
          have lb : ∀ q (hq : j' + 1 + q < b.size), q < k2 -> rk b[j' + 1 + q] < rk a[i' + k] := λ q hq qk => by
           have := f3 q qk
           unfold fL at this
           rw [cU hq] at this
           simpa using this
          have gb : ∀ q (hq : j' + 1 + q < b.size), k2 <= q -> rk a[i' + k] < rk b[j' + 1 + q] := λ q hq qk => by
           have := f4 q qk (by omega)
           unfold fL at this
           rw [cU hq] at this
           have ds := T.dis _ (Q1 hI) _ (Q1 hq)
           simp at this
           omega
          dsimp only
          by_cases g2 : k2 > 0
          · rw [if_pos g2]
            have m3 : Mg rk a.toList b.toList ((out' ++ a.extract i' (i' + k)).push b[j'] ++ b.extract (j' + 1) (j' + 1 + k2)).toList (i' + k) (j' + 1 + k2) := by rw [vA]; exact T.segB m2 hI (by omega) lb
            by_cases e6 : j' + 1 + k2 = b.size
            · rw [if_pos (by simpa using e6)]
              exact wpS_pure ⟨sg2, .inl ⟨_, _, rfl, T.done m3 (.inr e6)⟩⟩
            · rw [if_neg (by simpa using e6)]
              have hJ : j' + 1 + k2 < b.size := by omega
              refine wpS_bind (ak (show i' + k < a.size by omega) ?_)
              have m5 : Mg rk a.toList b.toList (((out' ++ a.extract i' (i' + k)).push b[j'] ++ b.extract (j' + 1) (j' + 1 + k2)).push a[i' + k]).toList (i' + k + 1) (j' + 1 + k2) := by rw [vB]; exact T.pushA m3 (by omega) hJ (gb k2 hJ (Q2 _))
              by_cases e5 : i' + k + 1 + 1 = a.size
              · rw [if_pos (by simpa using e5)]
                exact wpS_pure ⟨sg2, .inl ⟨_, _, rfl, T.lastA m5 e5 λ y hy hi => last y hy _ hi e5⟩⟩
              · rw [if_neg (by simpa using e5)]
                split
                · exact wpS_pure ⟨sg2, .inr ⟨_, _, _, _, _, _, rfl, m5, by omega, hJ, by omega⟩⟩
                · exact wpS_pure ⟨sg2, _, _, _, _, _, _, rfl, m5, by omega, hJ, by omega⟩
          · rw [if_neg g2]
            have hJ : j' + 1 < b.size := by omega
            refine wpS_bind (ak (show i' + k < a.size by omega) ?_)
            have m5 : Mg rk a.toList b.toList (((out' ++ a.extract i' (i' + k)).push b[j']).push a[i' + k]).toList (i' + k + 1) (j' + 1) := by rw [vB]; exact T.pushA m2 (by omega) hJ (gb 0 hJ (by omega))
            by_cases e5 : i' + k + 1 + 1 = a.size
            · rw [if_pos (by simpa using e5)]
              exact wpS_pure ⟨sg2, .inl ⟨_, _, rfl, T.lastA m5 e5 λ y hy hi => last y hy _ hi e5⟩⟩
            · rw [if_neg (by simpa using e5)]
              split
              · exact wpS_pure ⟨sg2, .inr ⟨_, _, _, _, _, _, rfl, m5, by omega, hJ, by omega⟩⟩
              · exact wpS_pure ⟨sg2, _, _, _, _, _, _, rfl, m5, by omega, hJ, by omega⟩
        · rw [if_neg g]
          have hI : i' < a.size := by omega
          refine wpS_bind (ak hj' ?_)
          have m2 : Mg rk a.toList b.toList ((out').push b[j']).toList (i') (j' + 1) := by rw [vB]; exact T.pushB m' hI hj' (ga 0 (by omega) (by omega))
          by_cases e4 : j' + 1 = b.size
          · rw [if_pos (by simpa using e4)]
            exact wpS_pure ⟨sg2, .inl ⟨_, _, rfl, T.done m2 (.inr e4)⟩⟩
          rw [if_neg (by simpa using e4)]
          refine wpS_bind (ak hI ?_)
          refine wpS_bind (bf (left := true) C (sg2.k.trans hk) (T.ma _ (Q1 hI)) (λ q hq => ⟨b[j' + 1 + q], Q5 (by omega), T.mb _ (Q1 (by omega))⟩) (eH T.rB _ (by omega)) (by omega) λ k2 hk2 f3 f4 => ?_)
          have lb : ∀ q (hq : j' + 1 + q < b.size), q < k2 -> rk b[j' + 1 + q] < rk a[i'] := λ q hq qk => by
           have := f3 q qk
           unfold fL at this
           rw [cU hq] at this
           simpa using this
          have gb : ∀ q (hq : j' + 1 + q < b.size), k2 <= q -> rk a[i'] < rk b[j' + 1 + q] := λ q hq qk => by
           have := f4 q qk (by omega)
           unfold fL at this
           rw [cU hq] at this
           have ds := T.dis _ (Q1 hI) _ (Q1 hq)
           simp at this
           omega
          dsimp only
          by_cases g2 : k2 > 0
          · rw [if_pos g2]
            have m3 : Mg rk a.toList b.toList ((out').push b[j'] ++ b.extract (j' + 1) (j' + 1 + k2)).toList (i') (j' + 1 + k2) := by rw [vA]; exact T.segB m2 hI (by omega) lb
            by_cases e6 : j' + 1 + k2 = b.size
            · rw [if_pos (by simpa using e6)]
              exact wpS_pure ⟨sg2, .inl ⟨_, _, rfl, T.done m3 (.inr e6)⟩⟩
            · rw [if_neg (by simpa using e6)]
              have hJ : j' + 1 + k2 < b.size := by omega
              refine wpS_bind (ak (show i' < a.size by omega) ?_)
              have m5 : Mg rk a.toList b.toList (((out').push b[j'] ++ b.extract (j' + 1) (j' + 1 + k2)).push a[i']).toList (i' + 1) (j' + 1 + k2) := by rw [vB]; exact T.pushA m3 (by omega) hJ (gb k2 hJ (Q2 _))
              by_cases e5 : i' + 1 + 1 = a.size
              · rw [if_pos (by simpa using e5)]
                exact wpS_pure ⟨sg2, .inl ⟨_, _, rfl, T.lastA m5 e5 λ y hy hi => last y hy _ hi e5⟩⟩
              · rw [if_neg (by simpa using e5)]
                split
                · exact wpS_pure ⟨sg2, .inr ⟨_, _, _, _, _, _, rfl, m5, by omega, hJ, by omega⟩⟩
                · exact wpS_pure ⟨sg2, _, _, _, _, _, _, rfl, m5, by omega, hJ, by omega⟩
          · rw [if_neg g2]
            have hJ : j' + 1 < b.size := by omega
            refine wpS_bind (ak (show i' < a.size by omega) ?_)
            have m5 : Mg rk a.toList b.toList (((out').push b[j']).push a[i']).toList (i' + 1) (j' + 1) := by rw [vB]; exact T.pushA m2 (by omega) hJ (gb 0 hJ (by omega))
            by_cases e5 : i' + 1 + 1 = a.size
            · rw [if_pos (by simpa using e5)]
              exact wpS_pure ⟨sg2, .inl ⟨_, _, rfl, T.lastA m5 e5 λ y hy hi => last y hy _ hi e5⟩⟩
            · rw [if_neg (by simpa using e5)]
              split
              · exact wpS_pure ⟨sg2, .inr ⟨_, _, _, _, _, _, rfl, m5, by omega, hJ, by omega⟩⟩
              · exact wpS_pure ⟨sg2, _, _, _, _, _, _, rfl, m5, by omega, hJ, by omega⟩
end
section
variable {rk : Keyed -> Nat}
structure Mh (rk : Keyed -> Nat) (A B r : List Keyed) (i j : Nat) : Prop where
 pe : r.Perm (A.drop i ++ B.drop j)
 up : cg rk r
 a : ∀ x ∈ A.take i, ∀ y ∈ r, rk x < rk y
 b : ∀ x ∈ B.take j, ∀ y ∈ r, rk x < rk y
variable {A B r : List Keyed} {i j t : Nat}
theorem Mh.swap (h : Mh rk A B r i j) : Mh rk B A r j i := ⟨h.pe.trans D9, h.up, h.b, h.a⟩
theorem Mh.addA (h : Mh rk A B r i j) (rA : cg rk A) (ht : t <= i) (hk : ∀ x ∈ (A.drop t).take (i - t), ∀ y ∈ B.take j, rk y < rk x) : Mh rk A B ((A.drop t).take (i - t) ++ r) t j := by
 have d : A.drop t = (A.drop t).take (i - t) ++ A.drop i := by
  have : A.drop i = (A.drop t).drop (i - t) := by rw [List.drop_drop]; congr 1; omega
  rw [this]
  exact (Ba _ _).symm
 have sub : ∀ x ∈ (A.drop t).take (i - t), x ∈ A.take i := λ x hx => by
  have : (A.drop t).take (i - t) = (A.take i).drop t := by rw [List.drop_take]
  rw [this] at hx
  exact List.mem_of_mem_drop hx
 have tk : ∀ x ∈ A.take t, x ∈ A.take i := λ x hx => by
  have : A.take t = (A.take i).take t := by rw [List.take_take, Nat.min_eq_left ht]
  rw [this] at hx
  exact List.mem_of_mem_take hx
 refine ⟨?_, ?_, λ x hx y hy => ?_, λ x hx y hy => ?_⟩
 · rw [show A.drop t ++ B.drop j = (A.drop t).take (i - t) ++ (A.drop i ++ B.drop j) by rw [<- yq, <- d]]
   exact List.Perm.append_left _ h.pe
 · unfold cg
   rw [Bb]
   exact ⟨List.Pairwise.sublist ((List.take_sublist _ _).trans (List.drop_sublist _ _)) rA, h.up, λ x hx y hy => h.a x (sub x hx) y hy⟩
 · rcases xY.mp hy with hy | hy
   · have e : A = A.take t ++ A.drop t := (Ba t A).symm
     have rA' := rA
     unfold cg at rA'
     rw [e, Bb] at rA'
     exact rA'.2.2 x hx y (List.mem_of_mem_take hy)
   · exact h.a x (tk x hx) y hy
 · rcases xY.mp hy with hy | hy
   · exact hk y hy x hx
   · exact h.b x hx y hy
theorem Mh.addB (h : Mh rk A B r i j) (rB : cg rk B) (ht : t <= j) (hk : ∀ x ∈ (B.drop t).take (j - t), ∀ y ∈ A.take i, rk y < rk x) : Mh rk A B ((B.drop t).take (j - t) ++ r) i t := (h.swap.addA rB ht hk).swap
theorem Mh.fin (h : Mh rk A B r i j) (rA : cg rk A) (rB : cg rk B) (hk : ∀ x ∈ A.take i, ∀ y ∈ B.take j, rk x < rk y) : j7 rk A B (A.take i ++ B.take j ++ r) := by
 refine ⟨?_, ?_⟩
 · have e : A ++ B = (A.take i ++ A.drop i) ++ (B.take j ++ B.drop j) := by rw [Ba, Ba]
   rw [e]
   refine (List.Perm.append_left _ h.pe).trans ?_
   simp only [yq]
   refine List.Perm.append_left _ ?_
   rw [<- yq, <- yq]
   exact List.Perm.append_right _ D9
 · unfold cg
   rw [Bb, Bb]
   refine ⟨⟨List.Pairwise.sublist (List.take_sublist _ _) rA, List.Pairwise.sublist (List.take_sublist _ _) rB, hk⟩, h.up, λ x hx y hy => ?_⟩
   rcases xY.mp hx with hx | hx
   · exact h.a x hx y hy
   · exact h.b x hx y hy
theorem Mh.fin2 (h : Mh rk A B r i j) (rA : cg rk A) (rB : cg rk B) (hk : ∀ x ∈ B.take j, ∀ y ∈ A.take i, rk x < rk y) : j7 rk A B (B.take j ++ A.take i ++ r) :=
 let ⟨p, q⟩ := h.swap.fin rB rA hk; ⟨p.trans D9, q⟩
theorem xO (rA : cg rk A) (hi : 0 < i) (h : i <= A.length) {y : Keyed} (hy : y ∈ A.take i) : rk y <= rk (A[i - 1]'(by omega)) := by
 obtain ⟨m, hm, e⟩ := Bh hy
 rw [vC] at hm
 rw [List.getElem_take] at e
 by_cases z : m = i - 1
 · subst z; rw [<- e]; exact Q2 _
 · rw [<- e]
   exact xW (El.mp rA m (i - 1) _ _ (by omega))
end
section
variable {prog : Program} {w : World} {A : Around} {E : Value -> Shared -> Prop} {s : Shared} {κ : SortKind} {a0 : Array Keyed} {rk : Keyed -> Nat} {a b : Array Keyed}
theorem ir (a : Array Keyed) (t i : Nat) : (a.extract t i).toList = (a.toList.drop t).take (i - t) := by rw [Array.toList_extract, List.extract_eq_take_drop]
theorem iW (a : Array Keyed) (i : Nat) : (a.extract 0 i).toList = a.toList.take i := by rw [ir]; simp
theorem oU {x : Keyed} {t i : Nat} (h : x ∈ (a.toList.drop t).take (i - t)) (hi : i <= a.size) : ∃ m, ∃ hm : m < a.size, t <= m /\ m < i /\ x = a[m] := by
 obtain ⟨m, hm, e⟩ := Bh h
 rw [vC, DD, Q6] at hm
 refine ⟨t + m, by omega, by omega, by omega, ?_⟩
 rw [<- e]
 simp
theorem Two.takeB (T : Two rk a0 a b) {j : Nat} (hj : 0 < j) (hb : j <= b.size) {y : Keyed} (hy : y ∈ b.toList.take j) : rk y <= rk (b[j - 1]'(by omega)) := by
 have := xO T.rB hj (by simpa using hb) hy
 simpa using this
theorem Two.takeA (T : Two rk a0 a b) {j : Nat} (hj : 0 < j) (hb : j <= a.size) {y : Keyed} (hy : y ∈ a.toList.take j) : rk y <= rk (a[j - 1]'(by omega)) := by
 have := xO T.rA hj (by simpa using hb) hy
 simpa using this
theorem Two.midA (T : Two rk a0 a b) {out : Array Keyed} {i j t : Nat} (m : Mh rk a.toList b.toList out.toList.reverse i j) (hi : i <= a.size) (hj : 0 < j) (hb : j <= b.size) (ht : t <= i) (h : ∀ q (hq : q < a.size), t <= q -> q < i -> rk (b[j - 1]'(by omega)) < rk a[q]) :
 Mh rk a.toList b.toList (out ++ (a.extract t i).reverse).toList.reverse t j := by
 rw [vA, List.reverse_append, Array.toList_reverse, List.reverse_reverse, ir]
 refine m.addA T.rA ht λ x hx y hy => ?_
 obtain ⟨q, hq, q1, q2, rfl⟩ := oU hx hi
 have := T.takeB hj hb hy
 have := h q hq q1 q2
 omega
theorem Two.midB (T : Two rk a0 a b) {out : Array Keyed} {i j t : Nat} (m : Mh rk a.toList b.toList out.toList.reverse i j) (hj : j <= b.size) (hi : 0 < i) (ha : i <= a.size) (ht : t <= j) (h : ∀ q (hq : q < b.size), t <= q -> q < j -> rk (a[i - 1]'(by omega)) < rk b[q]) :
 Mh rk a.toList b.toList (out ++ (b.extract t j).reverse).toList.reverse i t := by
 rw [vA, List.reverse_append, Array.toList_reverse, List.reverse_reverse, ir]
 refine m.addB T.rB ht λ x hx y hy => ?_
 obtain ⟨q, hq, q1, q2, rfl⟩ := oU hx hj
 have := T.takeA hi ha hy
 have := h q hq q1 q2
 omega
theorem lv {i : Nat} (h : i < a.size) : (a.toList.drop i).take (i + 1 - i) = [a[i]] := by
 rw [Em (by simpa using h), show i + 1 - i = 1 by omega]
 simp
theorem Two.popA (T : Two rk a0 a b) {out : Array Keyed} {i j : Nat} (m : Mh rk a.toList b.toList out.toList.reverse (i + 1) j) (hi : i < a.size) (hj : 0 < j) (hb : j <= b.size) (h : rk (b[j - 1]'(by omega)) < rk a[i]) : Mh rk a.toList b.toList (out.push a[i]).toList.reverse i j := by
 rw [vB, List.reverse_append, List.reverse_singleton]
 have q := m.addA (t := i) T.rA (by omega) (by
  rw [lv hi]
  intro x hx y hy
  rw [yp.mp hx]
  have := T.takeB hj hb hy
  omega)
 rw [lv hi] at q
 exact q
theorem Two.popB (T : Two rk a0 a b) {out : Array Keyed} {i j : Nat} (m : Mh rk a.toList b.toList out.toList.reverse i (j + 1)) (hj : j < b.size) (hi : 0 < i) (ha : i <= a.size) (h : rk (a[i - 1]'(by omega)) < rk b[j]) : Mh rk a.toList b.toList (out.push b[j]).toList.reverse i j := by
 rw [vB, List.reverse_append, List.reverse_singleton]
 have q := m.addB (t := j) T.rB (by omega) (by
  rw [lv hj]
  intro x hx y hy
  rw [yp.mp hx]
  have := T.takeA hi ha hy
  omega)
 rw [lv hj] at q
 exact q
theorem Two.doneH (T : Two rk a0 a b) {out : Array Keyed} {i j : Nat} (m : Mh rk a.toList b.toList out.toList.reverse i j) (h : i = 0 \/ j = 0) : j7 rk a.toList b.toList (a.extract 0 i ++ b.extract 0 j ++ out.reverse).toList := by
 rw [vA, vA, iW, iW, Array.toList_reverse]
 refine m.fin T.rA T.rB λ x hx y hy => ?_
 rcases h with rfl | rfl
 · rw [List.take_zero] at hx; cases hx
 · rw [List.take_zero] at hy; cases hy
theorem Two.firstB (T : Two rk a0 a b) {out : Array Keyed} {i : Nat} (m : Mh rk a.toList b.toList out.toList.reverse i 1) (hb : 0 < b.size) (h : ∀ y ∈ a, rk b[0] < rk y) : j7 rk a.toList b.toList (b.extract 0 1 ++ a.extract 0 i ++ out.reverse).toList := by
 rw [vA, vA, iW, iW, Array.toList_reverse]
 refine m.fin2 T.rA T.rB λ x hx y hy => ?_
 have e : b.toList.take 1 = [b[0]] := by
  have := lv (a := b) (i := 0) hb
  simpa using this
 rw [e] at hx
 rw [yp.mp hx]
 exact h y (by rw [<- yg]; exact List.mem_of_mem_take hy)
theorem Ce {st : SortSt} {Q : Array Keyed -> SortSt -> Prop} (C : Ct prog w A E s κ a0 rk) (T : Two rk a0 a b) (hk : kindOf st = κ) (ha : 0 < a.size) (hb : 0 < b.size) (first : ∀ y ∈ a, rk b[0] < rk y) (last : rk (b[b.size - 1]'(by omega)) < rk (a[a.size - 1]'(by omega)))
 (h : ∀ r st', SG st st' -> j7 rk a.toList b.toList r.toList -> Q r st') : wpS (model prog w) A E s (uR a b) Q st := by
 unfold uR
 refine wpS_bind (wpS_lift (wpAny_rule ⟨rfl, ?_⟩))
 have hA : a.size - 1 < a.size := by omega
 refine wpS_bind (ak hA ?_)
 have m0 : Mh rk a.toList b.toList (#[a[a.size - 1]] : Array Keyed).toList.reverse (a.size - 1) b.size := by
  have : Mh rk a.toList b.toList (#[] : Array Keyed).toList.reverse (a.size - 1 + 1) b.size := by
   refine ⟨?_, List.Pairwise.nil, (λ x hx y hy => nomatch hy), (λ x hx y hy => nomatch hy)⟩
   rw [List.drop_eq_nil_of_le (by simp; omega), List.drop_eq_nil_of_le (by simp)]
   exact List.Perm.refl _
  exact T.popA this hA hb (Q2 _) last
 dsimp only
 by_cases e1 : a.size - 1 = 0
 · rw [if_pos (by simpa using e1)]
   exact wpS_pure (h _ st (SG.refl _) (T.doneH m0 (.inl e1)))
 rw [if_neg (by simpa using e1)]
 by_cases e2 : b.size = 1
 · rw [if_pos (by simpa using e2)]
   rw [e2] at m0 ⊢
   exact wpS_pure (h _ st (SG.refl _) (T.firstB m0 hb first))
 rw [if_neg (by simpa using e2)]
 refine wpS_bind (wpS_get ?_)
 refine wpS_bind (wpS_mono (wpS_forRange (I := λ x c st' => SG st st' /\ ∃ (out : Array Keyed) (i j mg : Nat), c = (none, i, j, out, mg) /\ Mh rk a.toList b.toList out.toList.reverse i j /\ 0 < i /\ i <= a.size /\ 1 < j /\ j <= b.size /\ i + j + x < a.size + b.size)
  (Q := λ c st' => SG st st' /\ ∃ r o, c = (some r, o) /\ j7 rk a.toList b.toList r.toList) ?step ?fin ?init) ?post)
 case init => exact ⟨SG.refl _, _, _, _, _, rfl, m0, by omega, by omega, by omega, by omega, by omega⟩
 case fin =>
  rintro c st' ⟨_, out, i, j, mg, _, _, h1, h2, h3, h4, h5⟩
  omega
 case post =>
  rintro c st' ⟨sg, r, o, rfl, fi⟩
  exact wpS_pure (h r st' sg fi)
 case step =>
  rintro x c st1 _ hx ⟨sg, out, i, j, mg, rfl, m, hi0, hi, hj0, hj, hx2⟩
  dsimp only
  refine wpS_bind (wpS_mono (wpS_forRange (I := λ y c st' => st' = st1 /\ ∃ (out' : Array Keyed) (i' j' p q : Nat), c = (none, i', j', out', p, q) /\ Mh rk a.toList b.toList out'.toList.reverse i' j' /\ 0 < i' /\ i' <= a.size /\ 1 < j' /\ j' <= b.size /\ i' + j' + y <= i + j)
   (Q := λ c st' => st' = st1 /\ ((∃ r o, c = (some r, o) /\ j7 rk a.toList b.toList r.toList) \/ ∃ (out' : Array Keyed) (i' j' p q : Nat), c = (none, i', j', out', p, q) /\ Mh rk a.toList b.toList out'.toList.reverse i' j' /\ 0 < i' /\ i' <= a.size /\ 1 < j' /\ j' <= b.size /\ i' + j' + 1 <= i + j)) ?step1 ?fin1 ?init1) ?post1)
  case init1 => exact ⟨rfl, out, i, j, 0, 0, rfl, m, hi0, hi, hj0, hj, Q2 _⟩
  case fin1 =>
   rintro c st' ⟨_, out', i', j', p, q, _, _, h1, h2, h3, h4, h5⟩
   omega
  case step1 =>
   rintro y c st' _ hy ⟨rfl, out', i', j', p, q, rfl, m', hi0', hi', hj0', hj', hy2⟩
   dsimp only
   have hi2 : i' - 1 < a.size := by omega
   have hj2 : j' - 1 < b.size := by omega
   refine wpS_bind (ak hj2 (wpS_bind (ak hi2 (wpS_bind (C.cmp _ _ _ _ (sg.k.trans hk) (T.mb _ (Q1 hj2)) (T.ma _ (Q1 hi2)) ?_)))))
   have ds := T.dis _ (Q1 hi2) _ (Q1 hj2)
   by_cases g : rk b[j' - 1] < rk a[i' - 1]
   · simp only [g, decide_true, if_true]
     refine wpS_bind (ak hi2 ?_)
     have m2 : Mh rk a.toList b.toList (out'.push a[i' - 1]).toList.reverse (i' - 1) j' := T.popA (by rw [w9 (by omega)]; exact m') hi2 (by omega) hj' g
     by_cases e : i' - 1 = 0
     · rw [if_pos (by simpa using e)]
       exact wpS_pure ⟨rfl, .inl ⟨_, _, rfl, T.doneH m2 (.inl e)⟩⟩
     · rw [if_neg (by simpa using e)]
       by_cases e3 : p + 1 >= mg
       · rw [if_pos e3]
         exact wpS_pure ⟨rfl, .inr ⟨_, _, _, _, _, rfl, m2, by omega, by omega, by omega, by omega, by omega⟩⟩
       · rw [if_neg e3]
         exact wpS_pure ⟨rfl, _, _, _, _, _, rfl, m2, by omega, by omega, by omega, by omega, by omega⟩
   · simp only [g, decide_false, zN, if_false]
     refine wpS_bind (ak hj2 ?_)
     have m2 : Mh rk a.toList b.toList (out'.push b[j' - 1]).toList.reverse i' (j' - 1) := T.popB (by rw [w9 (by omega)]; exact m') hj2 (by omega) hi' (by omega)
     by_cases e : j' - 1 = 1
     · rw [if_pos (by simpa using e)]
       generalize b[j' - 1] = z at m2 ⊢
       rw [e] at m2 ⊢
       exact wpS_pure ⟨rfl, .inl ⟨_, _, rfl, T.firstB m2 hb first⟩⟩
     · rw [if_neg (by simpa using e)]
       by_cases e3 : q + 1 >= mg
       · rw [if_pos e3]
         exact wpS_pure ⟨rfl, .inr ⟨_, _, _, _, _, rfl, m2, by omega, by omega, by omega, by omega, by omega⟩⟩
       · rw [if_neg e3]
         exact wpS_pure ⟨rfl, _, _, _, _, _, rfl, m2, by omega, by omega, by omega, by omega, by omega⟩
  case post1 =>
   rintro c st' ⟨rfl, ⟨r, o, rfl, fi⟩ | ⟨out, i1, j1, p, q, rfl, m, hi01, hi1, hj01, hj1, hx3⟩⟩
   · exact wpS_pure ⟨sg, r, _, rfl, fi⟩
   · dsimp only
     refine wpS_bind (wpS_lift (wpAny_rule ⟨rfl, ?_⟩))
     refine wpS_bind (wpS_mono (wpS_forRange (I := λ y c st' => SG st st' /\ ∃ (out' : Array Keyed) (i' j' g p q : Nat), c = (none, i', j', out', g, p, q) /\ Mh rk a.toList b.toList out'.toList.reverse i' j' /\ 0 < i' /\ i' <= a.size /\ 1 < j' /\ j' <= b.size /\ i' + j' + y <= i1 + j1)
      (Q := λ c st' => SG st st' /\ ((∃ r o, c = (some r, o) /\ j7 rk a.toList b.toList r.toList) \/ ∃ (out' : Array Keyed) (i' j' g p q : Nat), c = (none, i', j', out', g, p, q) /\ Mh rk a.toList b.toList out'.toList.reverse i' j' /\ 0 < i' /\ i' <= a.size /\ 1 < j' /\ j' <= b.size /\ i' + j' <= i1 + j1)) ?step2 ?fin2 ?init2) ?post2)
     case init2 => exact ⟨sg, out, i1, j1, _, _, _, rfl, m, by omega, by omega, by omega, by omega, by omega⟩
     case fin2 =>
      rintro c st' ⟨_, out', i', j', g, p, q, _, _, h1, h2, h3, h4, h5⟩
      omega
     case post2 =>
      rintro c st2 ⟨sg', ⟨r, o, rfl, fi⟩ | ⟨out', i', j', g, p, q, rfl, m', hi0, hi', hj0, hj', hx4⟩⟩
      · exact wpS_pure ⟨sg', r, _, rfl, fi⟩
      · dsimp only
        refine wpS_bind (wpS_modify (wpS_pure ⟨⟨sg'.a, sg'.p, sg'.f, sg'.k⟩, _, _, _, _, rfl, m', by omega, by omega, by omega, by omega, by omega⟩))
     case step2 =>
      rintro y c st2 _ hy ⟨sg', out', i', j', gv, p, q, rfl, m', hi0, hi', hj0, hj', hy2⟩
      dsimp only
      by_cases gg : gv > 1
      · rw [if_pos gg]
        refine wpS_bind (wpS_modify ?_)
        have sg2 : SG st (SortSt.mk' (kindOf st2) (arrOf st2) (pendingOf st2) (gv - 1) (failedOf st2)) := ⟨sg'.a, sg'.p, sg'.f, sg'.k⟩
        have hj2 : j' - 1 < b.size := by omega
        refine wpS_bind (ak hj2 ?_)
        refine wpS_bind (bf (left := false) C (sg2.k.trans hk) (T.mb _ (Q1 hj2)) (λ q hq => ⟨a[q]'(by omega), by rw [Qb]; exact Q5 (by omega), T.ma _ (Q1 (by omega))⟩) (eH T.rA _ (by omega)) (by omega) λ t1 ht1 f1 f2 => ?_)
        have la : ∀ q (hq : q < a.size), q < t1 -> rk a[q] < rk b[j' - 1] := λ q hq qk => by
         have := f1 q qk
         unfold fL at this
         rw [Qb, cU hq] at this
         have ds := T.dis _ (Q1 hq) _ (Q1 hj2)
         simp at this
         omega
        have ga : ∀ q (hq : q < a.size), t1 <= q -> q < i' -> rk b[j' - 1] < rk a[q] := λ q hq qk q2 => by
         have := f2 q qk q2
         unfold fL at this
         rw [Qb, cU hq] at this
         simpa using this
        dsimp only
        by_cases g : i' - t1 > 0
        · rw [if_pos g]
          have m1 : Mh rk a.toList b.toList (out' ++ (a.extract t1 i').reverse).toList.reverse t1 j' := T.midA m' (by omega) (by omega) (by omega) (by omega) ga
          by_cases e3 : t1 = 0
          · rw [if_pos (by simpa using e3)]
            exact wpS_pure ⟨sg2, .inl ⟨_, _, rfl, T.doneH m1 (.inl e3)⟩⟩
          rw [if_neg (by simpa using e3)]
          have hI : t1 - 1 < a.size := by omega
          refine wpS_bind (ak hj2 ?_)
          have m2 : Mh rk a.toList b.toList ((out' ++ (a.extract t1 i').reverse).push b[j' - 1]).toList.reverse (t1) (j' - 1) := T.popB (by rw [w9 (by omega)]; exact m1) hj2 (by omega) (by omega) (la (t1 - 1) (by omega) (by omega))
          by_cases e4 : j' - 1 = 1
          · rw [if_pos (by simpa using e4)]
            generalize b[j' - 1] = z at m2 ⊢
            rw [e4] at m2 ⊢
            exact wpS_pure ⟨sg2, .inl ⟨_, _, rfl, T.firstB m2 hb first⟩⟩
          rw [if_neg (by simpa using e4)]
          refine wpS_bind (ak hI ?_)
          refine wpS_bind (bf (left := true) C (sg2.k.trans hk) (T.ma _ (Q1 hI)) (λ q hq => ⟨b[q]'(by omega), by rw [Qb]; exact Q5 (by omega), T.mb _ (Q1 (by omega))⟩) (eH T.rB _ (by omega)) (by omega) λ t2 ht2 f3 f4 => ?_)
          have lb : ∀ q (hq : q < b.size), q < t2 -> rk b[q] < rk a[t1 - 1] := λ q hq qk => by
           have := f3 q qk
           unfold fL at this
           rw [Qb, cU hq] at this
           simpa using this
          have gb : ∀ q (hq : q < b.size), t2 <= q -> q < j' - 1 -> rk a[t1 - 1] < rk b[q] := λ q hq qk q2 => by
           have := f4 q qk q2
           unfold fL at this
           rw [Qb, cU hq] at this
           have ds := T.dis _ (Q1 hI) _ (Q1 hq)
           simp at this
           omega
          dsimp only
          by_cases g2 : j' - 1 - t2 > 0
          · rw [if_pos g2]
            have m3 : Mh rk a.toList b.toList ((out' ++ (a.extract t1 i').reverse).push b[j' - 1] ++ (b.extract t2 (j' - 1)).reverse).toList.reverse (t1) t2 := T.midB m2 (by omega) (by omega) (by omega) (by omega) gb
            by_cases e6 : t2 = 1
            · rw [if_pos (by simpa using e6)]
              subst e6
              exact wpS_pure ⟨sg2, .inl ⟨_, _, rfl, T.firstB m3 hb first⟩⟩
            rw [if_neg (by simpa using e6)]
            by_cases e7 : t2 = 0
            · rw [if_pos (by simpa using e7)]
              exact wpS_pure ⟨sg2, .inl ⟨_, _, rfl, T.doneH m3 (.inr e7)⟩⟩
            rw [if_neg (by simpa using e7)]
            have hI2 : t1 - 1 < a.size := by omega
            refine wpS_bind (ak hI2 ?_)
            have m5 : Mh rk a.toList b.toList (((out' ++ (a.extract t1 i').reverse).push b[j' - 1] ++ (b.extract t2 (j' - 1)).reverse).push a[t1 - 1]).toList.reverse (t1 - 1) (t2) := T.popA (by rw [w9 (by omega)]; exact m3) hI2 (by omega) (by omega) (lb (t2 - 1) (by omega) (by omega))
            by_cases e5 : t1 - 1 = 0
            · rw [if_pos (by simpa using e5)]
              exact wpS_pure ⟨sg2, .inl ⟨_, _, rfl, T.doneH m5 (.inl e5)⟩⟩
            · rw [if_neg (by simpa using e5)]
              split
              · exact wpS_pure ⟨sg2, .inr ⟨_, _, _, _, _, _, rfl, m5, by omega, by omega, by omega, by omega, by omega⟩⟩
              · exact wpS_pure ⟨sg2, _, _, _, _, _, _, rfl, m5, by omega, by omega, by omega, by omega, by omega⟩
          · rw [if_neg g2]
            have hI2 : t1 - 1 < a.size := by omega
            refine wpS_bind (ak hI2 ?_)
            have m5 : Mh rk a.toList b.toList (((out' ++ (a.extract t1 i').reverse).push b[j' - 1]).push a[t1 - 1]).toList.reverse (t1 - 1) (j' - 1) := T.popA (by rw [w9 (by omega)]; exact m2) hI2 (by omega) (by omega) (lb (j' - 1 - 1) (by omega) (by omega))
            by_cases e5 : t1 - 1 = 0
            · rw [if_pos (by simpa using e5)]
              exact wpS_pure ⟨sg2, .inl ⟨_, _, rfl, T.doneH m5 (.inl e5)⟩⟩
            · rw [if_neg (by simpa using e5)]
              split
              · exact wpS_pure ⟨sg2, .inr ⟨_, _, _, _, _, _, rfl, m5, by omega, by omega, by omega, by omega, by omega⟩⟩
              · exact wpS_pure ⟨sg2, _, _, _, _, _, _, rfl, m5, by omega, by omega, by omega, by omega, by omega⟩
        · rw [if_neg g]
          have hI : i' - 1 < a.size := by omega
          refine wpS_bind (ak hj2 ?_)
          have m2 : Mh rk a.toList b.toList ((out').push b[j' - 1]).toList.reverse (i') (j' - 1) := T.popB (by rw [w9 (by omega)]; exact m') hj2 (by omega) (by omega) (la (i' - 1) (by omega) (by omega))
          by_cases e4 : j' - 1 = 1
          · rw [if_pos (by simpa using e4)]
            generalize b[j' - 1] = z at m2 ⊢
            rw [e4] at m2 ⊢
            exact wpS_pure ⟨sg2, .inl ⟨_, _, rfl, T.firstB m2 hb first⟩⟩
          rw [if_neg (by simpa using e4)]
          refine wpS_bind (ak hI ?_)
          refine wpS_bind (bf (left := true) C (sg2.k.trans hk) (T.ma _ (Q1 hI)) (λ q hq => ⟨b[q]'(by omega), by rw [Qb]; exact Q5 (by omega), T.mb _ (Q1 (by omega))⟩) (eH T.rB _ (by omega)) (by omega) λ t2 ht2 f3 f4 => ?_)
          have lb : ∀ q (hq : q < b.size), q < t2 -> rk b[q] < rk a[i' - 1] := λ q hq qk => by
           have := f3 q qk
           unfold fL at this
           rw [Qb, cU hq] at this
           simpa using this
          have gb : ∀ q (hq : q < b.size), t2 <= q -> q < j' - 1 -> rk a[i' - 1] < rk b[q] := λ q hq qk q2 => by
           have := f4 q qk q2
           unfold fL at this
           rw [Qb, cU hq] at this
           have ds := T.dis _ (Q1 hI) _ (Q1 hq)
           simp at this
           omega
          dsimp only
          by_cases g2 : j' - 1 - t2 > 0
          · rw [if_pos g2]
            have m3 : Mh rk a.toList b.toList ((out').push b[j' - 1] ++ (b.extract t2 (j' - 1)).reverse).toList.reverse (i') t2 := T.midB m2 (by omega) (by omega) (by omega) (by omega) gb
            by_cases e6 : t2 = 1
            · rw [if_pos (by simpa using e6)]
              subst e6
              exact wpS_pure ⟨sg2, .inl ⟨_, _, rfl, T.firstB m3 hb first⟩⟩
            rw [if_neg (by simpa using e6)]
            by_cases e7 : t2 = 0
            · rw [if_pos (by simpa using e7)]
              exact wpS_pure ⟨sg2, .inl ⟨_, _, rfl, T.doneH m3 (.inr e7)⟩⟩
            rw [if_neg (by simpa using e7)]
            have hI2 : i' - 1 < a.size := by omega
            refine wpS_bind (ak hI2 ?_)
            have m5 : Mh rk a.toList b.toList (((out').push b[j' - 1] ++ (b.extract t2 (j' - 1)).reverse).push a[i' - 1]).toList.reverse (i' - 1) (t2) := T.popA (by rw [w9 (by omega)]; exact m3) hI2 (by omega) (by omega) (lb (t2 - 1) (by omega) (by omega))
            by_cases e5 : i' - 1 = 0
            · rw [if_pos (by simpa using e5)]
              exact wpS_pure ⟨sg2, .inl ⟨_, _, rfl, T.doneH m5 (.inl e5)⟩⟩
            · rw [if_neg (by simpa using e5)]
              split
              · exact wpS_pure ⟨sg2, .inr ⟨_, _, _, _, _, _, rfl, m5, by omega, by omega, by omega, by omega, by omega⟩⟩
              · exact wpS_pure ⟨sg2, _, _, _, _, _, _, rfl, m5, by omega, by omega, by omega, by omega, by omega⟩
          · rw [if_neg g2]
            have hI2 : i' - 1 < a.size := by omega
            refine wpS_bind (ak hI2 ?_)
            have m5 : Mh rk a.toList b.toList (((out').push b[j' - 1]).push a[i' - 1]).toList.reverse (i' - 1) (j' - 1) := T.popA (by rw [w9 (by omega)]; exact m2) hI2 (by omega) (by omega) (lb (j' - 1 - 1) (by omega) (by omega))
            by_cases e5 : i' - 1 = 0
            · rw [if_pos (by simpa using e5)]
              exact wpS_pure ⟨sg2, .inl ⟨_, _, rfl, T.doneH m5 (.inl e5)⟩⟩
            · rw [if_neg (by simpa using e5)]
              split
              · exact wpS_pure ⟨sg2, .inr ⟨_, _, _, _, _, _, rfl, m5, by omega, by omega, by omega, by omega, by omega⟩⟩
              · exact wpS_pure ⟨sg2, _, _, _, _, _, _, rfl, m5, by omega, by omega, by omega, by omega, by omega⟩
      · rw [if_neg gg]
        refine wpS_bind (wpS_modify ?_)
        have sg2 : SG st (SortSt.mk' (kindOf st2) (arrOf st2) (pendingOf st2) (gv) (failedOf st2)) := ⟨sg'.a, sg'.p, sg'.f, sg'.k⟩
        have hj2 : j' - 1 < b.size := by omega
        refine wpS_bind (ak hj2 ?_)
        refine wpS_bind (bf (left := false) C (sg2.k.trans hk) (T.mb _ (Q1 hj2)) (λ q hq => ⟨a[q]'(by omega), by rw [Qb]; exact Q5 (by omega), T.ma _ (Q1 (by omega))⟩) (eH T.rA _ (by omega)) (by omega) λ t1 ht1 f1 f2 => ?_)
        have la : ∀ q (hq : q < a.size), q < t1 -> rk a[q] < rk b[j' - 1] := λ q hq qk => by
         have := f1 q qk
         unfold fL at this
         rw [Qb, cU hq] at this
         have ds := T.dis _ (Q1 hq) _ (Q1 hj2)
         simp at this
         omega
        have ga : ∀ q (hq : q < a.size), t1 <= q -> q < i' -> rk b[j' - 1] < rk a[q] := λ q hq qk q2 => by
         have := f2 q qk q2
         unfold fL at this
         rw [Qb, cU hq] at this
         simpa using this
        dsimp only
        by_cases g : i' - t1 > 0
        · rw [if_pos g]
          have m1 : Mh rk a.toList b.toList (out' ++ (a.extract t1 i').reverse).toList.reverse t1 j' := T.midA m' (by omega) (by omega) (by omega) (by omega) ga
          by_cases e3 : t1 = 0
          · rw [if_pos (by simpa using e3)]
            exact wpS_pure ⟨sg2, .inl ⟨_, _, rfl, T.doneH m1 (.inl e3)⟩⟩
          rw [if_neg (by simpa using e3)]
          have hI : t1 - 1 < a.size := by omega
          refine wpS_bind (ak hj2 ?_)
          have m2 : Mh rk a.toList b.toList ((out' ++ (a.extract t1 i').reverse).push b[j' - 1]).toList.reverse (t1) (j' - 1) := T.popB (by rw [w9 (by omega)]; exact m1) hj2 (by omega) (by omega) (la (t1 - 1) (by omega) (by omega))
          by_cases e4 : j' - 1 = 1
          · rw [if_pos (by simpa using e4)]
            generalize b[j' - 1] = z at m2 ⊢
            rw [e4] at m2 ⊢
            exact wpS_pure ⟨sg2, .inl ⟨_, _, rfl, T.firstB m2 hb first⟩⟩
          rw [if_neg (by simpa using e4)]
          refine wpS_bind (ak hI ?_)
          refine wpS_bind (bf (left := true) C (sg2.k.trans hk) (T.ma _ (Q1 hI)) (λ q hq => ⟨b[q]'(by omega), by rw [Qb]; exact Q5 (by omega), T.mb _ (Q1 (by omega))⟩) (eH T.rB _ (by omega)) (by omega) λ t2 ht2 f3 f4 => ?_)
          have lb : ∀ q (hq : q < b.size), q < t2 -> rk b[q] < rk a[t1 - 1] := λ q hq qk => by
           have := f3 q qk
           unfold fL at this
           rw [Qb, cU hq] at this
           simpa using this
          have gb : ∀ q (hq : q < b.size), t2 <= q -> q < j' - 1 -> rk a[t1 - 1] < rk b[q] := λ q hq qk q2 => by
           have := f4 q qk q2
           unfold fL at this
           rw [Qb, cU hq] at this
           have ds := T.dis _ (Q1 hI) _ (Q1 hq)
           simp at this
           omega
          dsimp only
          by_cases g2 : j' - 1 - t2 > 0
          · rw [if_pos g2]
            have m3 : Mh rk a.toList b.toList ((out' ++ (a.extract t1 i').reverse).push b[j' - 1] ++ (b.extract t2 (j' - 1)).reverse).toList.reverse (t1) t2 := T.midB m2 (by omega) (by omega) (by omega) (by omega) gb
            by_cases e6 : t2 = 1
            · rw [if_pos (by simpa using e6)]
              subst e6
              exact wpS_pure ⟨sg2, .inl ⟨_, _, rfl, T.firstB m3 hb first⟩⟩
            rw [if_neg (by simpa using e6)]
            by_cases e7 : t2 = 0
            · rw [if_pos (by simpa using e7)]
              exact wpS_pure ⟨sg2, .inl ⟨_, _, rfl, T.doneH m3 (.inr e7)⟩⟩
            rw [if_neg (by simpa using e7)]
            have hI2 : t1 - 1 < a.size := by omega
            refine wpS_bind (ak hI2 ?_)
            have m5 : Mh rk a.toList b.toList (((out' ++ (a.extract t1 i').reverse).push b[j' - 1] ++ (b.extract t2 (j' - 1)).reverse).push a[t1 - 1]).toList.reverse (t1 - 1) (t2) := T.popA (by rw [w9 (by omega)]; exact m3) hI2 (by omega) (by omega) (lb (t2 - 1) (by omega) (by omega))
            by_cases e5 : t1 - 1 = 0
            · rw [if_pos (by simpa using e5)]
              exact wpS_pure ⟨sg2, .inl ⟨_, _, rfl, T.doneH m5 (.inl e5)⟩⟩
            · rw [if_neg (by simpa using e5)]
              split
              · exact wpS_pure ⟨sg2, .inr ⟨_, _, _, _, _, _, rfl, m5, by omega, by omega, by omega, by omega, by omega⟩⟩
              · exact wpS_pure ⟨sg2, _, _, _, _, _, _, rfl, m5, by omega, by omega, by omega, by omega, by omega⟩
          · rw [if_neg g2]
            have hI2 : t1 - 1 < a.size := by omega
            refine wpS_bind (ak hI2 ?_)
            have m5 : Mh rk a.toList b.toList (((out' ++ (a.extract t1 i').reverse).push b[j' - 1]).push a[t1 - 1]).toList.reverse (t1 - 1) (j' - 1) := T.popA (by rw [w9 (by omega)]; exact m2) hI2 (by omega) (by omega) (lb (j' - 1 - 1) (by omega) (by omega))
            by_cases e5 : t1 - 1 = 0
            · rw [if_pos (by simpa using e5)]
              exact wpS_pure ⟨sg2, .inl ⟨_, _, rfl, T.doneH m5 (.inl e5)⟩⟩
            · rw [if_neg (by simpa using e5)]
              split
              · exact wpS_pure ⟨sg2, .inr ⟨_, _, _, _, _, _, rfl, m5, by omega, by omega, by omega, by omega, by omega⟩⟩
              · exact wpS_pure ⟨sg2, _, _, _, _, _, _, rfl, m5, by omega, by omega, by omega, by omega, by omega⟩
        · rw [if_neg g]
          have hI : i' - 1 < a.size := by omega
          refine wpS_bind (ak hj2 ?_)
          have m2 : Mh rk a.toList b.toList ((out').push b[j' - 1]).toList.reverse (i') (j' - 1) := T.popB (by rw [w9 (by omega)]; exact m') hj2 (by omega) (by omega) (la (i' - 1) (by omega) (by omega))
          by_cases e4 : j' - 1 = 1
          · rw [if_pos (by simpa using e4)]
            generalize b[j' - 1] = z at m2 ⊢
            rw [e4] at m2 ⊢
            exact wpS_pure ⟨sg2, .inl ⟨_, _, rfl, T.firstB m2 hb first⟩⟩
          rw [if_neg (by simpa using e4)]
          refine wpS_bind (ak hI ?_)
          refine wpS_bind (bf (left := true) C (sg2.k.trans hk) (T.ma _ (Q1 hI)) (λ q hq => ⟨b[q]'(by omega), by rw [Qb]; exact Q5 (by omega), T.mb _ (Q1 (by omega))⟩) (eH T.rB _ (by omega)) (by omega) λ t2 ht2 f3 f4 => ?_)
          have lb : ∀ q (hq : q < b.size), q < t2 -> rk b[q] < rk a[i' - 1] := λ q hq qk => by
           have := f3 q qk
           unfold fL at this
           rw [Qb, cU hq] at this
           simpa using this
          have gb : ∀ q (hq : q < b.size), t2 <= q -> q < j' - 1 -> rk a[i' - 1] < rk b[q] := λ q hq qk q2 => by
           have := f4 q qk q2
           unfold fL at this
           rw [Qb, cU hq] at this
           have ds := T.dis _ (Q1 hI) _ (Q1 hq)
           simp at this
           omega
          dsimp only
          by_cases g2 : j' - 1 - t2 > 0
          · rw [if_pos g2]
            have m3 : Mh rk a.toList b.toList ((out').push b[j' - 1] ++ (b.extract t2 (j' - 1)).reverse).toList.reverse (i') t2 := T.midB m2 (by omega) (by omega) (by omega) (by omega) gb
            by_cases e6 : t2 = 1
            · rw [if_pos (by simpa using e6)]
              subst e6
              exact wpS_pure ⟨sg2, .inl ⟨_, _, rfl, T.firstB m3 hb first⟩⟩
            rw [if_neg (by simpa using e6)]
            by_cases e7 : t2 = 0
            · rw [if_pos (by simpa using e7)]
              exact wpS_pure ⟨sg2, .inl ⟨_, _, rfl, T.doneH m3 (.inr e7)⟩⟩
            rw [if_neg (by simpa using e7)]
            have hI2 : i' - 1 < a.size := by omega
            refine wpS_bind (ak hI2 ?_)
            have m5 : Mh rk a.toList b.toList (((out').push b[j' - 1] ++ (b.extract t2 (j' - 1)).reverse).push a[i' - 1]).toList.reverse (i' - 1) (t2) := T.popA (by rw [w9 (by omega)]; exact m3) hI2 (by omega) (by omega) (lb (t2 - 1) (by omega) (by omega))
            by_cases e5 : i' - 1 = 0
            · rw [if_pos (by simpa using e5)]
              exact wpS_pure ⟨sg2, .inl ⟨_, _, rfl, T.doneH m5 (.inl e5)⟩⟩
            · rw [if_neg (by simpa using e5)]
              split
              · exact wpS_pure ⟨sg2, .inr ⟨_, _, _, _, _, _, rfl, m5, by omega, by omega, by omega, by omega, by omega⟩⟩
              · exact wpS_pure ⟨sg2, _, _, _, _, _, _, rfl, m5, by omega, by omega, by omega, by omega, by omega⟩
          · rw [if_neg g2]
            have hI2 : i' - 1 < a.size := by omega
            refine wpS_bind (ak hI2 ?_)
            have m5 : Mh rk a.toList b.toList (((out').push b[j' - 1]).push a[i' - 1]).toList.reverse (i' - 1) (j' - 1) := T.popA (by rw [w9 (by omega)]; exact m2) hI2 (by omega) (by omega) (lb (j' - 1 - 1) (by omega) (by omega))
            by_cases e5 : i' - 1 = 0
            · rw [if_pos (by simpa using e5)]
              exact wpS_pure ⟨sg2, .inl ⟨_, _, rfl, T.doneH m5 (.inl e5)⟩⟩
            · rw [if_neg (by simpa using e5)]
              split
              · exact wpS_pure ⟨sg2, .inr ⟨_, _, _, _, _, _, rfl, m5, by omega, by omega, by omega, by omega, by omega⟩⟩
              · exact wpS_pure ⟨sg2, _, _, _, _, _, _, rfl, m5, by omega, by omega, by omega, by omega, by omega⟩
end
section
variable {prog : Program} {w : World} {A : Around} {E : Value -> Shared -> Prop} {s : Shared} {κ : SortKind} {a0 : Array Keyed} {rk : Keyed -> Nat}
theorem xP (sa : Nat) : ∀ (l : List Keyed) (n : Nat) (xs : Array Keyed), sa + n + l.length <= xs.size -> ((l.zipIdx n).foldl (λ a (q : Keyed × Nat) => a.setIfInBounds (sa + q.2) q.1) xs).toList = xs.toList.take (sa + n) ++ l ++ xs.toList.drop (sa + n + l.length)
 | [], n, xs, h => by simp
 | x :: l, n, xs, h => by
  rw [zC] at h
  rw [List.zipIdx_cons, List.foldl_cons]
  have hs : (xs.setIfInBounds (sa + n) x).size = xs.size := Array.size_setIfInBounds
  rw [xP sa l (n + 1) _ (by rw [hs]; omega)]
  rw [Array.toList_setIfInBounds]
  have hn : sa + n < xs.toList.length := by rw [Q6]; omega
  have e1 : (xs.toList.set (sa + n) x).take (sa + (n + 1)) = xs.toList.take (sa + n) ++ [x] := by
   rw [show sa + (n + 1) = sa + n + 1 by omega, Ev (by rw [wa]; exact hn), List.take_set_of_le (Q2 _), List.getElem_set_self]
  have e2 : (xs.toList.set (sa + n) x).drop (sa + (n + 1) + l.length) = xs.toList.drop (sa + n + (x :: l).length) := by
   rw [List.drop_set_of_lt (by omega), zC]
   congr 1
   omega
  rw [e1, e2]
  simp
theorem lw {xs : Array Keyed} {lo n : Nat} (u : Up rk xs lo n) (h : lo + n <= xs.size) : cg rk (xs.extract lo (lo + n)).toList := by
 rw [pY]
 refine El.mpr λ i j hi hj hij => ?_
 rw [vC, DD, Q6] at hi hj
 have := u i j hij (by omega)
 rw [cU (by omega), cU (by omega)] at this
 simpa using this
theorem Cf {M : Model} {st st' : SortSt} {Q : PUnit -> SortSt -> Prop} (h : Q ⟨⟩ st') : wpS M A E s (set st' : StateT SortSt Sem PUnit) Q st := by
 unfold wpS
 rw [StateT.run_set]
 exact wP ⟨rfl, h⟩
theorem Au {xs : Array Keyed} {n1 n2 : Nat} (u1 : Up rk xs 0 n1) (u2 : Up rk xs n1 n2) (hn : n1 + n2 = xs.size) (h1 : 0 < n1) (h2 : 0 < n2) (c : K rk xs (n1 - 1) < K rk xs n1) : cg rk xs.toList := by
 have le1 : ∀ i, i < n1 -> K rk xs i <= K rk xs (n1 - 1) := λ i hi => by
  by_cases e : i = n1 - 1
  · rw [e]; exact Q2 _
  · have := u1 i (n1 - 1) (by omega) (by omega)
    rw [Qb, Qb] at this
    omega
 have le2 : ∀ i, n1 <= i -> i < xs.size -> K rk xs n1 <= K rk xs i := λ i hi hx => by
  by_cases e : i = n1
  · rw [e]; exact Q2 _
  · have := u2 0 (i - n1) (by omega) (by omega)
    rw [Nat.add_zero, show n1 + (i - n1) = i by omega] at this
    omega
 refine El.mpr λ i j hi hj hij => ?_
 rw [Q6] at hi hj
 have : K rk xs i < K rk xs j := by
  by_cases a1 : j < n1
  · have := u1 i j hij a1
    rwa [Qb, Qb] at this
  · by_cases a2 : i < n1
    · have := le1 i a2
      have := le2 j (by omega) hj
      omega
    · have := u2 (i - n1) (j - n1) (by omega) (by omega)
      rwa [show n1 + (i - n1) = i by omega, show n1 + (j - n1) = j by omega] at this
 rw [cU hi, cU hj] at this
 simpa using this
theorem Cg {st : SortSt} {n1 n2 p1 p2 : Nat} {Q : Bool -> SortSt -> Prop} (C : Ct prog w A E s κ a0 rk) (B : Bs κ a0 st) (hp : pendingOf st = #[(0, n1, p1), (n1, n2, p2)]) (h1 : 0 < n1) (h2 : 0 < n2) (hn : n1 + n2 = a0.size) (u1 : Up rk (arrOf st) 0 n1) (u2 : Up rk (arrOf st) n1 n2)
 (h : ∀ st', Bs κ a0 st' -> cg rk (arrOf st').toList -> (pendingOf st').size = 1 -> Q true st') : wpS (model prog w) A E s (mergeAt' 0) Q st := by
 have hz := B.size
 have hall : ∀ (m : Nat) (hm : m < (arrOf st).size), (arrOf st)[m] ∈ a0 := λ m hm => B.mem (Q1 hm)
 obtain ⟨κ', xs, pd, mg, fl⟩ := st
 have hp : pd = #[(0, n1, p1), (n1, n2, p2)] := hp
 subst hp
 have hz : xs.size = a0.size := hz
 have u1 : Up rk xs 0 n1 := u1
 have u2 : Up rk xs n1 n2 := u2
 have hall : ∀ (m : Nat) (hm : m < xs.size), xs[m] ∈ a0 := hall
 have nd : ∀ (i j : Nat), i < xs.size -> j < xs.size -> i ≠ j -> K rk xs i ≠ K rk xs j := λ i j hi hj hij => B.ne C (by omega) (by omega) hij
 have kin : κ' = κ := B.kind
 have fa : fl = none := B.failed
 have pe : xs.Perm a0 := B.perm
 unfold mergeAt'
 refine wpS_bind (wpS_get ?_)
 refine wpS_bind (Cf ?_)
 have hsb : n1 < xs.size := by omega
 refine wpS_bind (ak (a := xs) hsb ?_)
 have pd1 : ((#[(0, n1, p1), (n1, n2, p2)] : Array (Nat × Nat × Nat)).setIfInBounds 0 (0, n1 + n2, p1)).eraseIdxIfInBounds (0 + 1) = #[(0, n1 + n2, p1)] := by
  apply Array.toList_inj.mp
  simp [Array.eraseIdxIfInBounds]
 rw [pd1]
 have Bp : Bs κ a0 (SortSt.mk' κ' xs #[(0, n1 + n2, p1)] mg fl) := ⟨pe, fa, kin⟩
 refine wpS_bind (bf (left := false) (arr := xs) C kin (hall n1 hsb) (λ q hq => ⟨xs[0 + q]'(by omega), Q5 (by omega), hall _ (by omega)⟩) u1 h1 λ k hk f1 f2 => ?_)
 have lk : ∀ q, q < k -> K rk xs q < K rk xs n1 := λ q hq => by
  have := f1 q hq
  unfold fL at this
  rw [Qb] at this
  have ne := nd q n1 (by omega) hsb (by omega)
  rw [cU hsb] at ne ⊢
  simp at this
  omega
 have gk : ∀ q, k <= q -> q < n1 -> K rk xs n1 < K rk xs q := λ q hq hq2 => by
  have := f2 q hq hq2
  unfold fL at this
  rw [Qb] at this
  rw [cU hsb]
  simpa using this
 dsimp only
 by_cases e1 : n1 - k = 0
 · rw [if_pos (by simpa using e1)]
   exact wpS_pure (h _ Bp (show cg rk xs.toList from Au u1 u2 (by omega) h1 h2 (lk (n1 - 1) (by omega))) rfl)
 rw [if_neg (by simpa using e1)]
 have hl : 0 + k + (n1 - k) - 1 < xs.size := by omega
 have hle : 0 + k + (n1 - k) - 1 = n1 - 1 := by omega
 refine wpS_bind (ak (a := xs) hl ?_)
 refine wpS_bind (bf (left := true) (arr := xs) C kin (hall _ hl) (λ q hq => ⟨xs[n1 + q]'(by omega), Q5 (by omega), hall _ (by omega)⟩) u2 (by omega) λ m hm f3 f4 => ?_)
 have kl : rk xs[0 + k + (n1 - k) - 1] = K rk xs (n1 - 1) := by rw [<- cU (rk := rk) hl, hle]
 have lm : ∀ q, q < m -> K rk xs (n1 + q) < K rk xs (n1 - 1) := λ q hq => by
  have := f3 q hq
  unfold fL at this
  rw [kl] at this
  simpa using this
 have gm : ∀ q, m <= q -> q < n2 -> K rk xs (n1 - 1) < K rk xs (n1 + q) := λ q hq hq2 => by
  have := f4 q hq hq2
  unfold fL at this
  rw [kl] at this
  have ne := nd (n1 - 1) (n1 + q) (by omega) (by omega) (by omega)
  simp at this
  omega
 dsimp only
 by_cases e2 : m = 0
 · rw [if_pos (by simpa using e2)]
   have := gm 0 (by omega) h2
   rw [Nat.add_zero] at this
   exact wpS_pure (h _ Bp (show cg rk xs.toList from Au u1 u2 (by omega) h1 h2 this) rfl)
 rw [if_neg (by simpa using e2)]
 simp only [Qb]
 have memA : ∀ x, x ∈ xs.extract k n1 -> ∃ q, ∃ hq : q < xs.size, k <= q /\ q < n1 /\ x = xs[q] := λ x hx => by
  rw [<- yg, ir] at hx
  exact oU hx (by omega)
 have memB : ∀ x, x ∈ xs.extract n1 (n1 + m) -> ∃ q, ∃ hq : q < xs.size, n1 <= q /\ q < n1 + m /\ x = xs[q] := λ x hx => by
  rw [<- yg, ir] at hx
  exact oU hx (by omega)
 have uA : Up rk xs k (n1 - k) := λ i j hij hj => by
  have := u1 (k + i) (k + j) (by omega) (by omega)
  rwa [Qb, Qb] at this
 have uB : Up rk xs n1 m := λ i j hij hj => u2 i j hij (by omega)
 have sA : (xs.extract k n1).size = n1 - k := by rw [Array.size_extract]; omega
 have sB : (xs.extract n1 (n1 + m)).size = m := by rw [Array.size_extract]; omega
 have T : Two rk a0 (xs.extract k n1) (xs.extract n1 (n1 + m)) := by
  refine ⟨?_, lw uB (by omega), λ x hx => ?_, λ x hx => ?_, λ x hx y hy => ?_⟩
  · have := lw uA (by omega)
    rwa [show k + (n1 - k) = n1 by omega] at this
  · obtain ⟨q, hq, _, _, rfl⟩ := memA x hx
    exact hall q hq
  · obtain ⟨q, hq, _, _, rfl⟩ := memB x hx
    exact hall q hq
  · obtain ⟨q, hq, q1, q2, rfl⟩ := memA x hx
    obtain ⟨p, hp', r1, r2, rfl⟩ := memB y hy
    have := nd q p hq hp' (by omega)
    rwa [cU hq, cU hp'] at this
 have atA : ∀ q (hq : q < (xs.extract k n1).size), rk (xs.extract k n1)[q] = K rk xs (k + q) := λ q hq => by
  rw [cU (show k + q < xs.size by omega)]
  simp
 have atB : ∀ q (hq : q < (xs.extract n1 (n1 + m)).size), rk (xs.extract n1 (n1 + m))[q] = K rk xs (n1 + q) := λ q hq => by
  rw [cU (show n1 + q < xs.size by omega)]
  simp
 have hlast : ∀ q, n1 <= q -> q < n1 + m -> K rk xs q < K rk xs (n1 - 1) := λ q q1 q2 => by
  have := lm (q - n1) (by omega)
  rwa [show n1 + (q - n1) = q by omega] at this
 have le1 : ∀ q, q < n1 -> K rk xs q <= K rk xs (n1 - 1) := λ q hq => by
  by_cases e : q = n1 - 1
  · rw [e]; exact Q2 _
  · have := u1 q (n1 - 1) (by omega) (by omega)
    rw [Qb, Qb] at this
    omega
 have le2 : ∀ q, n1 <= q -> q < xs.size -> K rk xs n1 <= K rk xs q := λ q hq hx => by
  by_cases e : q = n1
  · rw [e]; exact Q2 _
  · have := u2 0 (q - n1) (by omega) (by omega)
    rw [Nat.add_zero, show n1 + (q - n1) = q by omega] at this
    omega
 have fin : ∀ (r : Array Keyed) (st' : SortSt), SG (SortSt.mk' κ' xs #[(0, n1 + n2, p1)] mg fl) st' -> j7 rk (xs.extract k n1).toList (xs.extract n1 (n1 + m)).toList r.toList ->
  Q (failedOf (SortSt.mk' (kindOf st') (List.foldl (λ a (x : Keyed × Nat) => a.setIfInBounds (k + x.2) x.1) (arrOf st') r.toList.zipIdx) (pendingOf st') (gallopOf st') (failedOf st'))).isNone (SortSt.mk' (kindOf st') (List.foldl (λ a (x : Keyed × Nat) => a.setIfInBounds (k + x.2) x.1) (arrOf st') r.toList.zipIdx) (pendingOf st') (gallopOf st') (failedOf st')) := by
  intro r st' sg fi
  have e1 : arrOf st' = xs := sg.a
  have e2 : failedOf st' = none := sg.f.trans fa
  have e3 : pendingOf st' = #[(0, n1 + n2, p1)] := sg.p
  have e4 : kindOf st' = κ := sg.k.trans kin
  have rl : r.toList.length = n1 - k + m := by
   rw [fi.1.length_eq, zQ, Q6, Q6, sA, sB]
  have sa := xP k r.toList 0 xs (by rw [rl]; omega)
  rw [rl, Nat.add_zero, show k + (n1 - k + m) = n1 + m by omega] at sa
  rw [e1]
  generalize hys : List.foldl (λ a (x : Keyed × Nat) => a.setIfInBounds (k + x.2) x.1) xs r.toList.zipIdx = ys
  have sa : ys.toList = xs.toList.take k ++ r.toList ++ xs.toList.drop (n1 + m) := by rw [<- hys]; exact sa
  have key : Bs κ a0 (SortSt.mk' (kindOf st') ys (pendingOf st') (gallopOf st') (failedOf st')) := by
   refine ⟨?_, e2, e4⟩
   refine Array.Perm.trans (show ys.Perm xs from ?_) pe
   refine DB.mpr ?_
   rw [sa]
   have L : xs.toList = xs.toList.take k ++ ((xs.extract k n1).toList ++ (xs.extract n1 (n1 + m)).toList) ++ xs.toList.drop (n1 + m) := by
    rw [ir, ir, show n1 + m - n1 = m by omega]
    have d1 : xs.toList.drop n1 = (xs.toList.drop n1).take m ++ xs.toList.drop (n1 + m) := by rw [<- List.drop_drop]; exact (Ba m _).symm
    have d2 : xs.toList.drop k = (xs.toList.drop k).take (n1 - k) ++ xs.toList.drop n1 := by
     have : xs.toList.drop n1 = (xs.toList.drop k).drop (n1 - k) := by rw [List.drop_drop]; congr 1; omega
     rw [this]
     exact (Ba _ _).symm
    rw [yq, yq, <- d1, <- d2, Ba]
   conv => rhs; rw [L]
   exact (List.Perm.append_left _ fi.1).append_right _
  have up : cg rk ys.toList := by
   rw [sa]
   have inR : ∀ x ∈ r.toList, ∃ q, ∃ hq : q < xs.size, k <= q /\ q < n1 + m /\ x = xs[q] := λ x hx => by
    rcases xY.mp (fi.1.mem_iff.mp hx) with hx | hx
    · obtain ⟨q, hq, q1, q2, e⟩ := memA x (yg.mp hx)
      exact ⟨q, hq, q1, by omega, e⟩
    · obtain ⟨q, hq, q1, q2, e⟩ := memB x (yg.mp hx)
      exact ⟨q, hq, by omega, q2, e⟩
   have inT : ∀ x ∈ xs.toList.take k, ∃ q, ∃ hq : q < xs.size, q < k /\ x = xs[q] := λ x hx => by
    obtain ⟨q, hq, e⟩ := Bh hx
    rw [vC, Q6] at hq
    refine ⟨q, by omega, by omega, ?_⟩
    rw [<- e]
    simp
   have G3 : ∀ x ∈ xs.toList.drop (n1 + m), ∃ q, ∃ hq : q < xs.size, n1 + m <= q /\ x = xs[q] := λ x hx => by
    obtain ⟨q, hq, e⟩ := Bh hx
    rw [DD, Q6] at hq
    refine ⟨n1 + m + q, by omega, by omega, ?_⟩
    rw [<- e]
    simp
   have r1 : cg rk (xs.toList.take k) := by
    have u : Up rk xs 0 k := λ i j hij hj => u1 i j hij (by omega)
    have := lw u (by omega)
    rw [Qb, iW] at this
    exact this
   have r3 : cg rk (xs.toList.drop (n1 + m)) := by
    have u : Up rk xs (n1 + m) (n2 - m) := λ i j hij hj => by
     have := u2 (m + i) (m + j) (by omega) (by omega)
     rwa [show n1 + (m + i) = n1 + m + i by omega, show n1 + (m + j) = n1 + m + j by omega] at this
    have := lw u (by omega)
    rw [show n1 + m + (n2 - m) = xs.size by omega, j8] at this
    exact this
   unfold cg
   rw [Bb, Bb]
   refine ⟨⟨r1, fi.2, λ x hx y hy => ?_⟩, r3, λ x hx y hy => ?_⟩
   · obtain ⟨q, hq, q1, rfl⟩ := inT x hx
     obtain ⟨p, hp', p1, p2, rfl⟩ := inR y hy
     have a1 := lk q q1
     rw [cU hq] at a1
     by_cases z : p < n1
     · have a2 := gk p p1 z
       rw [cU hp'] at a2
       omega
     · have a2 := le2 p (by omega) hp'
       rw [cU hp'] at a2
       omega
   · obtain ⟨p, hp', p1, rfl⟩ := G3 y hy
     have g1 := gm (p - n1) (by omega) (by omega)
     rw [show n1 + (p - n1) = p by omega, cU hp'] at g1
     rcases xY.mp hx with hx | hx
     · obtain ⟨q, hq, q1, rfl⟩ := inT x hx
       have a1 := le1 q (by omega)
       rw [cU hq] at a1
       omega
     · obtain ⟨q, hq, q1, q2, rfl⟩ := inR x hx
       by_cases z : q < n1
       · have a1 := le1 q z
         rw [cU hq] at a1
         omega
       · have a1 := hlast q (by omega) q2
         rw [cU hq] at a1
         omega
  show Q (failedOf st').isNone _
  rw [e2]
  have q := h _ key up (by show (pendingOf st').size = 1; rw [e3]; rfl)
  rw [e2] at q
  exact q
 have hA0 : 0 < (xs.extract k n1).size := by omega
 have hB0 : 0 < (xs.extract n1 (n1 + m)).size := by omega
 by_cases c : n1 - k <= m
 · rw [if_pos c]
   refine wpS_bind (Cd C T kin hA0 hB0 ?_ (λ y hy i hi e => ?_) λ r st' sg fi => ?_)
   · rw [atB 0 hB0, atA 0 hA0, Nat.add_zero, Nat.add_zero]
     exact gk k (Q2 _) (by omega)
   · obtain ⟨q, hq, q1, q2, rfl⟩ := memB y hy
     rw [atA i hi, show k + i = n1 - 1 by omega, <- cU (rk := rk) hq]
     exact hlast q q1 q2
   · exact wpS_bind (wpS_modify (wpS_bind (wpS_get (wpS_pure (fin r st' sg fi)))))
 · rw [if_neg c]
   refine wpS_bind (Ce C T kin hA0 hB0 (λ y hy => ?_) ?_ λ r st' sg fi => ?_)
   · obtain ⟨q, hq, q1, q2, rfl⟩ := memA y hy
     rw [atB 0 hB0, Nat.add_zero, <- cU (rk := rk) hq]
     exact gk q q1 q2
   · rw [atB _ (by omega), atA _ (by omega), show k + ((xs.extract k n1).size - 1) = n1 - 1 by omega]
     exact hlast _ (by omega) (by omega)
   · exact wpS_bind (wpS_modify (wpS_bind (wpS_get (wpS_pure (fin r st' sg fi)))))
end
section
variable {prog : Program} {w : World} {A : Around} {E : Value -> Shared -> Prop} {s : Shared} {κ : SortKind} {a0 : Array Keyed} {rk : Keyed -> Nat}
theorem E6 {xs : Array Keyed} (u : Up rk xs 0 xs.size) : cg rk xs.toList := by
 have := lw u (by omega)
 rw [Qb, iW, List.take_of_length_le (by simp)] at this
 exact this
theorem Ch {n : Nat} (h1 : 64 <= n) (h2 : n < 128) : minRun' n n 0 = n / 2 + n % 2 := by
 obtain ⟨f, hf⟩ : ∃ f, n = f + 2 := ⟨n - 2, by omega⟩
 have : minRun' (f + 1 + 1) n 0 = n / 2 + n % 2 := by
  rw [minRun'_succ, if_neg (by omega), minRun'_succ, if_pos (by omega)]
  omega
 rwa [<- hf] at this
theorem Up.old {xs ys : Array Keyed} {lo n m : Nat} (u : Up rk xs lo n) (o : Old m xs ys) (h : lo + n <= m) : Up rk ys lo n := λ i j hij hj => by
 rw [iq (o (lo + i) (by omega)), iq (o (lo + j) (by omega))]
 exact u i j hij hj
def Ends (κ : SortKind) (a0 : Array Keyed) (rk : Keyed -> Nat) (st : SortSt) : Prop := Bs κ a0 st /\ ((Up rk (arrOf st) 0 a0.size /\ pendingOf st = #[(0, a0.size, 0)]) \/ ∃ n1 p1, 0 < n1 /\ n1 < a0.size /\ Up rk (arrOf st) 0 n1 /\ Up rk (arrOf st) n1 (a0.size - n1) /\ pendingOf st = #[(0, n1, p1), (n1, a0.size - n1, 0)])
theorem Av {st : SortSt} {Q : Unit -> SortSt -> Prop} (C : Ct prog w A E s κ a0 rk) (B : Bs κ a0 st) (hp : pendingOf st = #[]) (h64 : 64 <= a0.size) (h128 : a0.size < 128)
 (h : ∀ st', Bs κ a0 st' -> cg rk (arrOf st').toList -> Q () st') : wpS (model prog w) A E s sortRuns' Q st := by
 rw [sortRuns'_eq]
 refine wpS_bind (wpS_get ?_)
 dsimp only
 simp only [B.size, Ch h64 h128]
 refine wpS_bind (wpS_mono (wpS_forRange
  (I := λ x c st' => (x = 0 /\ c = (none, 0) /\ Bs κ a0 st' /\ pendingOf st' = #[]) \/ (x = 1 /\ ∃ n1, c = (none, n1) /\ a0.size / 2 + a0.size % 2 <= n1 /\ n1 <= a0.size /\ Bs κ a0 st' /\ Up rk (arrOf st') 0 n1 /\ pendingOf st' = #[(0, n1, 0)]) \/ (x = 2 /\ c = (none, a0.size) /\ Ends κ a0 rk st'))
  (Q := λ c st' => c = (none, a0.size) /\ Ends κ a0 rk st') ?step ?fin (.inl ⟨rfl, rfl, B, hp⟩)) ?post)
 case fin =>
  rintro c st' (⟨hx, _⟩ | ⟨hx, _⟩ | ⟨hx, _⟩)
  · omega
  · omega
  · omega
 case step =>
  rintro x c st' _ hx (⟨rfl, rfl, B', hp'⟩ | ⟨rfl, n1, rfl, hn1, hn2, B', u', hp'⟩ | ⟨rfl, rfl, en⟩)
  · dsimp only
    rw [if_neg (by omega)]
    simp only [Nat.sub_zero, Qb]
    refine wpS_bind (rQ C (by omega) (by omega) B' λ m st2 hm1 hm2 B2 u2 o2 p2 => ?_)
    dsimp only
    by_cases hlt : m < a0.size / 2 + a0.size % 2
    · rw [if_pos hlt]
      refine wpS_bind (wpS_lift (wpAny_rule ⟨rfl, ?_⟩))
      refine wpS_bind (xL C (by omega) (by omega) B2 u2 λ st3 B3 u3 o3 p3 => ?_)
      simp only [wb, zN, if_false]
      refine wpS_bind (wpS_get ?_)
      have hb : (pendingOf st3).back? = none := by rw [p3, p2, hp']; rfl
      rw [hb]
      dsimp only
      refine wpS_bind (wpS_modify (wpS_pure (.inr (.inl ⟨by first | trivial | omega, _, rfl, by omega, by omega, ⟨B3.perm, B3.failed, B3.kind⟩, u3, ?_⟩))))
      show (pendingOf st3).push _ = _
      rw [p3, p2, hp']
      rfl
    · rw [if_neg hlt]
      refine wpS_bind (wpS_get ?_)
      have hb : (pendingOf st2).back? = none := by rw [p2, hp']; rfl
      rw [hb]
      dsimp only
      refine wpS_bind (wpS_modify (wpS_pure (.inr (.inl ⟨by first | trivial | omega, _, rfl, by omega, by omega, ⟨B2.perm, B2.failed, B2.kind⟩, u2, ?_⟩))))
      show (pendingOf st2).push _ = _
      rw [p2, hp']
      rfl
  · dsimp only
    by_cases e : n1 >= a0.size
    · rw [if_pos e]
      have e' : n1 = a0.size := by omega
      subst e'
      exact wpS_pure ⟨rfl, B', .inl ⟨u', hp'⟩⟩
    · rw [if_neg e]
      refine wpS_bind (rQ C (by omega) (by omega) B' λ m st2 hm1 hm2 B2 u2 o2 p2 => ?_)
      dsimp only
      by_cases hlt : m < a0.size / 2 + a0.size % 2
      · rw [if_pos hlt]
        refine wpS_bind (wpS_lift (wpAny_rule ⟨rfl, ?_⟩))
        refine wpS_bind (xL C (by omega) (by omega) B2 u2 λ st3 B3 u3 o3 p3 => ?_)
        simp only [wb, zN, if_false]
        refine wpS_bind (wpS_get ?_)
        have p4 : pendingOf st3 = #[(0, n1, 0)] := by rw [p3, p2, hp']
        have hb : (pendingOf st3).back? = some (0, n1, 0) := by rw [p4]; rfl
        rw [hb]
        dsimp only
        refine wpS_bind (wpS_mono (wpS_forRange (I := λ y c s3 => c = (none, ()) /\ s3 = st3) (Q := λ c s3 => c = (none, ()) /\ s3 = st3) ?ia (λ _ _ q => q) ⟨rfl, rfl⟩) ?ic)
        case ia =>
         rintro y c s3 _ _ ⟨rfl, rfl⟩
         refine wpS_bind (wpS_get ?_)
         rw [if_neg (by rw [p4]; simp)]
         exact wpS_pure ⟨rfl, rfl⟩
        case ic =>
         rintro c s3 ⟨rfl, rfl⟩
         dsimp only
         have ze : min (a0.size - n1) (a0.size / 2 + a0.size % 2) = a0.size - n1 := by omega
         refine wpS_bind (wpS_modify (wpS_bind (wpS_modify (wpS_pure (.inr (.inr ⟨by first | trivial | omega, ?_, ?_⟩))))))
         · rw [ze, show n1 + (a0.size - n1) = a0.size by omega]
         · refine ⟨⟨B3.perm, B3.failed, B3.kind⟩, .inr ⟨n1, power' a0.size (2 * 0 + n1) (2 * 0 + n1 + n1 + (min (a0.size - n1) (a0.size / 2 + a0.size % 2))) a0.size, by omega, by omega, u'.old (o2.trans o3) (by omega), ?_, ?_⟩⟩
           · rw [<- ze]
             exact u3
           · show Array.push (Array.modify (pendingOf s3) _ _) _ = _
             rw [p4, ze]
             rfl
      · rw [if_neg hlt]
        refine wpS_bind (wpS_get ?_)
        have p4 : pendingOf st2 = #[(0, n1, 0)] := by rw [p2, hp']
        have hb : (pendingOf st2).back? = some (0, n1, 0) := by rw [p4]; rfl
        rw [hb]
        dsimp only
        refine wpS_bind (wpS_mono (wpS_forRange (I := λ y c s3 => c = (none, ()) /\ s3 = st2) (Q := λ c s3 => c = (none, ()) /\ s3 = st2) ?ia (λ _ _ q => q) ⟨rfl, rfl⟩) ?ic)
        case ia =>
         rintro y c s3 _ _ ⟨rfl, rfl⟩
         refine wpS_bind (wpS_get ?_)
         rw [if_neg (by rw [p4]; simp)]
         exact wpS_pure ⟨rfl, rfl⟩
        case ic =>
         rintro c s3 ⟨rfl, rfl⟩
         dsimp only
         have ze : m = a0.size - n1 := by omega
         refine wpS_bind (wpS_modify (wpS_bind (wpS_modify (wpS_pure (.inr (.inr ⟨by first | trivial | omega, ?_, ?_⟩))))))
         · rw [ze, show n1 + (a0.size - n1) = a0.size by omega]
         · refine ⟨⟨B2.perm, B2.failed, B2.kind⟩, .inr ⟨n1, power' a0.size (2 * 0 + n1) (2 * 0 + n1 + n1 + m) a0.size, by omega, by omega, u'.old o2 (by omega), ?_, ?_⟩⟩
           · rw [<- ze]
             exact u2
           · show Array.push (Array.modify (pendingOf s3) _ _) _ = _
             rw [p4, ze]
             rfl
  · dsimp only
    rw [if_pos (Q2 _)]
    exact wpS_pure ⟨rfl, en⟩
 case post =>
  rintro c st' ⟨rfl, en⟩
  dsimp only
  refine wpS_bind (wpS_mono (wpS_forRange (I := λ y c st'' => c = (none, ()) /\ ((y = 0 /\ st'' = st') \/ (Bs κ a0 st'' /\ cg rk (arrOf st'').toList /\ (pendingOf st'').size = 1))) (Q := λ c st'' => c = (none, ()) /\ Bs κ a0 st'' /\ cg rk (arrOf st'').toList) ?step2 ?fin2 ⟨rfl, .inl ⟨rfl, rfl⟩⟩) ?post2)
  case fin2 =>
   rintro c st'' ⟨rfl, ⟨hy, _⟩ | ⟨b1, b2, b3⟩⟩
   · omega
   · exact ⟨rfl, b1, b2⟩
  case post2 =>
   rintro c st'' ⟨rfl, b1, b2⟩
   exact wpS_pure (h _ b1 b2)
  case step2 =>
   rintro y c st'' _ hy ⟨rfl, ⟨rfl, rfl⟩ | ⟨b1, b2, b3⟩⟩
   · refine wpS_bind (wpS_get ?_)
     obtain ⟨b1, ⟨u, p⟩ | ⟨n1, p1, a1, a2, a3, a4, p⟩⟩ := en
     · rw [if_pos (by rw [p]; exact Q2 1)]
       refine wpS_pure ⟨rfl, b1, E6 ?_⟩
       rw [b1.size]
       exact u
     · rw [if_neg (by rw [p]; simp)]
       have z : ∀ (c : Bool) (i : Nat), c = false -> (if c = true then i - 1 else i) = i := λ c i e => by rw [e]; rfl
       have e : (pendingOf st'').size - 2 = 0 := by rw [p]; rfl
       simp only [e, zT, gt_iff_lt, if_false, Option.any_none, zN]
       refine wpS_bind (Cg C b1 p a1 (by omega) (by omega) a3 a4 λ st4 B4 r4 p4 => ?_)
       simp only [wb, zN, if_false]
       exact wpS_pure ⟨rfl, .inr ⟨B4, r4, p4⟩⟩
   · refine wpS_bind (wpS_get ?_)
     rw [if_pos (Nat.le_of_eq b3)]
     exact wpS_pure ⟨rfl, b1, b2⟩
end
end SB
namespace L2
open PySem PySem.Spec PyProof.Rows PySem.W
theorem uS {α : Type} {p q : α -> Bool} : ∀ {l : List α}, (∀ x ∈ l, p x = true -> q x = true) -> (∃ a ∈ l, q a = true /\ p a = false) -> l.countP p < l.countP q
 | [], _, h => by obtain ⟨a, ha, _⟩ := h; cases ha
 | x :: l, h, hx => by
  have le : l.countP p <= l.countP q := List.countP_mono_left λ y hy => h y (nv _ hy)
  obtain ⟨a, ha, h1, h2⟩ := hx
  rw [List.countP_cons, List.countP_cons]
  rcases qS.mp ha with rfl | ha
  · rw [h1, h2]
    simp
    omega
  · have := uS (λ y hy => h y (nv _ hy)) ⟨a, ha, h1, h2⟩
    have hx := h x oW
    cases hp : p x with
    | true => rw [hx hp]; simp; omega
    | false => cases hq : q x <;> simp <;> omega
theorem Aw {vs : List Value} {a b : List Int} (h1 : IntsAre vs a) (h2 : IntsAre vs b) : a = b := by
 induction h1 generalizing b with
 | nil => cases h2; rfl
 | cons n t _ ih =>
  cases h2 with
  | cons _ _ h2 => rw [ih h2]
noncomputable def qX (vs : List Value) (ks : List (List Int)) (v : Value) : List Int := @dite _ (∃ i, vs[i]? = some v) (Classical.propDecidable _) (λ h => ks.getD (Classical.choose h) []) (λ _ => [])
theorem Ci {vs : List Value} {ks : List (List Int)} (nd : vs.Nodup) {i : Nat} (h : i < vs.length) : qX vs ks vs[i] = ks.getD i [] := by
 unfold qX
 have e : ∃ j, vs[j]? = some vs[i] := ⟨i, fI h⟩
 rw [dif_pos e]
 have q := Classical.choose_spec e
 obtain ⟨hj, q⟩ := yf.mp q
 have : Classical.choose e = i := (DE nd).mp q
 rw [this]
noncomputable def uT (ks : List (List Int)) (k : List Int) : Nat := ks.countP λ x => dR x k
theorem oV {ks : List (List Int)} {a b : List Int} (ha : a ∈ ks) (hb : b ∈ ks) : dR a b = decide (uT ks a < uT ks b) := by
 have up : ∀ {a b : List Int}, a ∈ ks -> dR a b = true -> uT ks a < uT ks b := λ {a b} ha h => uS (λ x _ hx => lj _ _ _ hx h) ⟨a, ha, h, DL.iV a⟩
 cases h : dR a b with
 | true => rw [decide_eq_true (up ha h)]
 | false =>
  symm
  rw [decide_eq_false_iff_not]
  by_cases e : a = b
  · rw [e]; exact zT _
  · have := up hb (lq _ _ e h)
    omega
theorem Ax {ks : List (List Int)} {a b : List Int} (ha : a ∈ ks) (hb : b ∈ ks) (h : uT ks a = uT ks b) : a = b := by
 apply Decidable.byContradiction
 intro e
 have h1 := oV ha hb
 rw [h, decide_eq_false (zT _)] at h1
 have h2 := oV hb ha
 rw [h, decide_eq_false (zT _), lq _ _ e h1] at h2
 cases h2
section
variable {prog : Program} {w : World} {A : Around} {E : Value -> Shared -> Prop} {s : Shared}
theorem yS {D : Addr} {c : Nat} {vs : List Value} {ks : List (List Int)} {Q : Value -> Shared -> Prop} (hD : s.heap.get? D = some (listOf vs.toArray c)) (ht : Paired (TpI s.heap) vs ks) (hnd : ks.Nodup) (hpos : ∀ k ∈ ks, k ≠ []) (h64 : 64 <= vs.length) (h128 : vs.length < 128)
 (k : ∀ h' c' (r : List Value) (f : Value -> List Int), (∀ b o, b ≠ D -> s.heap.get? b = some o -> h'.get? b = some o) -> h'.get? D = some (listOf r.toArray c') -> r.Perm vs -> vs.map f = ks -> (r.map f).Pairwise (λ x y => dR x y = true) -> Q .none { s with heap := h' }) :
 wpAny (model prog w) A (call (.builtin "list.sort") [.ref D]) Q E s := by
 have hlen : vs.length = ks.length := Paired.length ht
 refine wpAny_call_entry slot_list_sort ⟨_, hD, rfl⟩ entry_list_sort ?_ (args_list_sort _)
 rw [list_sort_plain]
 have ha : D < s.heap.objs.size := fG hD
 refine wB (listItems_at hD rfl ?_)
 refine wB (listUpdate_at hD rfl ?_ (hsz := by rw [zM, sizeLine_eq]; omega))
 obtain ⟨e1, ho1⟩ : ∃ e1, (s.heap.update D (Obj.mapSeq λ _ => #[])).get? D = some (seqObj "list" #[] e1) := ⟨_, get?_update_seq hD (λ _ => #[])⟩
 have kk : ∀ b o, b ≠ D -> s.heap.get? b = some o -> (s.heap.update D (Obj.mapSeq λ _ => #[])).get? b = some o := λ b o nb e => (tR _ _ (Ne.symm nb)).trans e
 generalize s.heap.update D (Obj.mapSeq λ _ => #[]) = G0 at ho1 kk
 refine wB (seqEpoch_at ho1 rfl ?_)
 refine wB (wpAny_newTuple ?_ (by rw [List.toList_toArray, sizeLine_eq]; omega))
 refine wB (wpAny_newList ?_)
 refine wpAny_holding ?_
 have ho2 := gy (seqObj "list" #[] 0) (gy (seqObj "tuple" vs.toArray 0) ho1)
 have k2 : ∀ b o, b ≠ D -> s.heap.get? b = some o -> ((G0.push (seqObj "tuple" vs.toArray 0)).push (seqObj "list" #[] 0)).get? b = some o := λ b o nb e => gy _ (gy _ (kk b o nb e))
 show wpAny (model prog w) _ _ _ _ { s with heap := (G0.push (seqObj "tuple" vs.toArray 0)).push (seqObj "list" #[] 0) }
 generalize (G0.push (seqObj "tuple" vs.toArray 0)).push (seqObj "list" #[] 0) = G at ho2 k2
 have h2' : ¬ vs.toArray.size < 2 := by rw [zM]; omega
 rw [if_neg h2', if_neg h2']
 have tup : ∀ {v : Value} {kk : List Int}, TpI s.heap v kk -> TpI G v kk := λ q => by
  obtain ⟨a, o, arr, n, e1, e2, e3, e4, e5⟩ := q
  exact ⟨a, o, arr, n, e1, k2 a o (λ z => by rw [z, hD] at e2; cases e2; exact absurd (Value.type.inj e3) (by decide)) e2, e3, e4, e5⟩
 have ht' : Paired (TpI G) vs ks := Paired.mapP ht λ a b q => tup q
 obtain ⟨fs, t1, t2, t3⟩ := TpI.firsts ht' hpos
 refine wB (kat_kind (s := { s with heap := G }) (T := .type "int") t1 (by omega) (λ v hv => by obtain ⟨n, t, rfl⟩ := t3 v hv; exact Looks.of_pure rfl) rfl ?_)
 have vnd : vs.Nodup := by
  refine El.mpr λ i j hi hj hij e => ?_
  have p1 := pR (x := Value.none) (y := []) i ht' hi
  have p2 := pR (x := Value.none) (y := []) j ht' hj
  rw [jX, fI hi, jX, fI (show i < ks.length by omega)] at p1
  rw [jX, fI hj, jX, fI (show j < ks.length by omega)] at p2
  obtain ⟨a1, o1, r1, n1, x1, x2, x3, x4, x5⟩ := p1
  obtain ⟨a2, o2, r2, n2, y1, y2, y3, y4, y5⟩ := p2
  have x1 : vs[i] = .ref a1 := x1
  have y1 : vs[j] = .ref a2 := y1
  rw [e, y1] at x1
  cases x1
  rw [x2] at y2
  cases y2
  rw [x4] at y4
  cases y4
  have : ks[i] = ks[j] := Aw x5 y5
  have := (DE hnd).mp this
  omega
 have zp : (vs.toArray.zip vs.toArray).toList = vs.map λ v => (v, v) := by
  rw [Array.toList_zip]
  apply List.ext_getElem
  · simp
  · intro i h1 h2
    simp
 have zs : (vs.toArray.zip vs.toArray).size = vs.length := by simp
 have mem : ∀ x : Keyed, x ∈ vs.toArray.zip vs.toArray -> ∃ i, ∃ h : i < vs.length, x = (vs[i], vs[i]) := λ x hx => by
  rw [<- yg, zp] at hx
  obtain ⟨v, hv, rfl⟩ := Qc.mp hx
  obtain ⟨i, h, rfl⟩ := Bh hv
  exact ⟨i, h, rfl⟩
 have kf : ∀ i (h : i < vs.length), qX vs ks vs[i] = ks[i]'(by omega) := λ i h => by
  rw [Ci vnd h, jX, fI (show i < ks.length by omega)]
  rfl
 have C : SB.Ct prog w A.in1 E { s with heap := G } (tuples' (Value.type "int" != Value.type "tuple")) (vs.toArray.zip vs.toArray) (λ x => uT ks (qX vs ks x.1)) := by
  refine ⟨λ x y st Q0 hk hx hy q => ?_, λ x hx y hy e => ?_, ?_⟩
  · obtain ⟨i, hi, rfl⟩ := mem x hx
    obtain ⟨j, hj, rfl⟩ := mem y hy
    have p1 := pR (x := Value.none) (y := []) i ht' hi
    have p2 := pR (x := Value.none) (y := []) j ht' hj
    rw [jX, fI hi, jX, fI (show i < ks.length by omega)] at p1
    rw [jX, fI hj, jX, fI (show j < ks.length by omega)] at p2
    obtain ⟨a1, o1, r1, n1, x1, x2, x3, x4, x5⟩ := p1
    obtain ⟨a2, o2, r2, n2, y1, y2, y3, y4, y5⟩ := p2
    have x1 : vs[i] = .ref a1 := x1
    have y1 : vs[j] = .ref a2 := y1
    have x5 : IntsAre r1.toList ks[i] := x5
    have y5 : IntsAre r2.toList ks[j] := y5
    dsimp only at q
    rw [kf i hi, kf j hj, <- oV (tM _) (tM _)] at q
    rw [lt'_eq]
    refine wpS_bind (wpS_get ?_)
    rw [hk]
    dsimp only
    rw [x1, y1]
    refine wpS_bind (wpS_lift (wpAny_attempt (kat_lt (s := { s with heap := G }) x2 x4 y2 y4 (nc x5 y5 0 ⟨rfl, ?_⟩))))
    have z1 : r1.size = ks[i].length := by rw [<- Q6]; exact x5.length
    have z2 : r2.size = ks[j].length := by rw [<- Q6]; exact y5.length
    rw [z1, z2, sj]
    exact wpS_pure q
  · obtain ⟨i, hi, rfl⟩ := mem x hx
    obtain ⟨j, hj, rfl⟩ := mem y hy
    dsimp only at e
    rw [kf i hi, kf j hj] at e
    have e := (DE hnd).mp (Ax (tM _) (tM _) e)
    subst e
    rfl
  · rw [zp]
    exact List.Pairwise.map _ (λ a b h e => h (congrArg (·.1) e)) vnd
 have B0 : SB.Bs (tuples' (Value.type "int" != Value.type "tuple")) (vs.toArray.zip vs.toArray) (SortSt.mk' (tuples' (Value.type "int" != Value.type "tuple")) (vs.toArray.zip vs.toArray) #[] 7 none) := ⟨Array.Perm.refl _, rfl, rfl⟩
 have run := SB.Av (Q := λ _ st' => SB.Bs (tuples' (Value.type "int" != Value.type "tuple")) (vs.toArray.zip vs.toArray) st' /\ SB.cg (λ x => uT ks (qX vs ks x.1)) (arrOf st').toList) C B0 rfl (by rw [zs]; exact h64) (by rw [zs]; exact h128) λ st' b r => ⟨b, r⟩
 refine wB (wpAny_mono run ?_ λ _ _ e => e)
 rintro ⟨⟨⟩, st'⟩ s' ⟨rfl, B', ri⟩
 dsimp only
 have pv : ((arrOf st').map (·.2)).toList.Perm vs := by
  rw [Array.toList_map]
  refine ((DB.mp B'.perm).map _).trans ?_
  rw [zp, zO]
  exact List.Perm.of_eq (List.map_id vs)
 have hf := B'.failed
 have fst_snd : (arrOf st').toList.map (λ x => qX vs ks x.1) = ((arrOf st').map (·.2)).toList.map (qX vs ks) := by
  rw [Array.toList_map, zO]
  apply yo
  intro x hx
  obtain ⟨i, hi, rfl⟩ := mem x (B'.mem (yg.mp hx))
  rfl
 have keysIn : ∀ x ∈ (arrOf st').toList, qX vs ks x.1 ∈ ks := λ x hx => by
  obtain ⟨i, hi, rfl⟩ := mem x (B'.mem (yg.mp hx))
  show qX vs ks vs[i] ∈ ks
  rw [kf i hi]
  exact tM _
 generalize (arrOf st').map (·.2) = r at pv fst_snd
 have sz : r.size = vs.length := by rw [<- Q6]; exact pv.length_eq
 refine wB (seqEpoch_at ho2 rfl ?_)
 refine wB (listUpdate_at ho2 rfl ?_ (hsz2 := by rw [sz, sizeLine_eq]; omega))
 rw [hf]
 simp only [bne_self_eq_false, zN, if_false]
 refine wP ⟨_, rfl, k _ _ r.toList (qX vs ks) (λ b o nb e => (tR _ _ (Ne.symm nb)).trans (k2 b o nb e)) (get?_update_seq ho2 (λ _ => r)) pv ?_ ?_⟩
 · apply List.ext_getElem
   · rw [zJ]; exact hlen
   · intro i h1 h2
     rw [List.getElem_map]
     exact kf i (by simpa using h1)
 · rw [<- fst_snd, List.pairwise_map]
   exact ri.imp_of_mem λ {x y} hx hy h => by
    rw [oV (keysIn x hx) (keysIn y hy)]
    exact decide_eq_true h
end
noncomputable def E7 : Value -> Addr
 | .ref a => a
 | _ => 0
def Ay : List V -> Hp -> VK -> Prop := λ xs H Q => ∃ (a : Addr) (as : List Addr) (ks : List (List Int)), xs = [.ref a] /\ H a = some (.lst (as.map V.ref)) /\ as.length = ks.length /\ (∀ i, i < ks.length -> H (as.getD i 0) = some (.tup ((ks.getD i []).map V.int))) /\ ks.Nodup /\ (∀ k ∈ ks, k ≠ []) /\ 64 <= ks.length /\ ks.length < 128 /\
 ∀ p (cs : List Addr), H p = none -> cs.length = ks.length -> (∀ i, i < ks.length -> H (cs.getD i 0) = some (.tup (((DL.d4 ks).getD i []).map V.int))) -> Q (.ref p) (cZ H p (.lst (cs.map V.ref)))
theorem wA {X : Cx} : dq X (.builtin "sorted") Ay := by
 intro pins s σ H xs us Q I rv h
 obtain ⟨a, as, ks, rfl, ha, hal, htp, ksnd, hpos, h64, h128, q⟩ := h
 obtain ⟨u, rfl, ru⟩ := nS rv
 cases (show u = Value.ref a from ru)
 obtain ⟨z, its, n, rl, ll, el⟩ := I.lstM ha
 have ei := sq rl
 subst ei
 refine Calls.call_function_entry kind_sorted plain_sorted entry_sorted (args_sorted1 _) ?_
 unfold Builtin.«sorted»
 refine wB (m := checkCount "sorted" 1 1 _) (wP ?_)
 refine wB (collect_list ⟨_, el, rfl, _, rfl⟩ ?_ (by rw [zJ]; exact jZ (by omega)))
 refine wB (wpAny_newList ?_ (by rw [zJ]; exact jZ (by omega)))
 have hsz : ((s.heap.push (seqObj "list" #[] 0)).update s.heap.objs.size (Obj.mapSeq (· ++ (as.map Value.ref).toArray))).objs.size = s.heap.objs.size + 1 := by rw [Heap.size_update, size_push']
 generalize hT : (s.heap.push (seqObj "list" #[] 0)).update s.heap.objs.size (Obj.mapSeq (· ++ (as.map Value.ref).toArray)) = tp at hsz
 have kT : ∀ b o, s.heap.get? b = some o -> tp.get? b = some o := λ b o e => by
  rw [<- hT, tR _ _ (xX (fG e))]
  exact gy _ e
 have kN : ∀ b o, s.heap.get? b = some o -> (tp.push (seqObj "list" (as.map Value.ref).toArray 0)).get? b = some o := λ b o e => gy _ (kT b o e)
 have nD : (tp.push (seqObj "list" (as.map Value.ref).toArray 0)).get? tp.objs.size = some (listOf (as.map Value.ref).toArray 0) := jm _ rfl
 have Dgt : s.heap.objs.size < tp.objs.size := by rw [hsz]; exact DC _
 generalize hDv : tp.objs.size = D at nD Dgt
 generalize hh' : tp.push (seqObj "list" (as.map Value.ref).toArray 0) = h' at kN nD
 have Dnew : s.heap.get? D = none := Heap.get?_none_of_le (xW Dgt)
 have gA : ∀ i, i < as.length -> (as.map Value.ref).getD i .none = .ref (as.getD i 0) := λ i ia => by
  rw [jX, zK, fI ia, jX, fI ia]
  rfl
 have ht : Paired (TpI h') (as.map Value.ref) ks := rP (x := Value.none) (y := []) (by rw [zJ]; exact hal) λ i hi => by
  have hi' : i < ks.length := by rw [zJ] at hi; omega
  have tr := htp i hi'
  obtain ⟨_, it2, r2, ⟨o, e1, e2, n2, e3⟩, _⟩ := (show ObjOk X.prog X.w H s.heap _ (.tup _) from I.hok _ _ tr)
  rw [gA i (by omega)]
  refine ⟨_, o, _, n2, rfl, kN _ o e1, e2, e3, ?_⟩
  rw [List.toList_toArray]
  exact im r2
 refine wB (wpAny_holding ?_)
 refine yS (s := { s with heap := h' }) (D := D) (c := 0) nD ht ksnd hpos (by rw [zJ]; omega) (by rw [zJ]; omega) λ h2' c2 r f kp hD2 pe fk up => wP ?_
 obtain ⟨cs, rfl⟩ : ∃ cs : List Addr, r = cs.map Value.ref := by
  refine ⟨r.map E7, ?_⟩
  rw [zO]
  refine ((yo λ v hv => ?_).trans (List.map_id _)).symm
  obtain ⟨b, _, rfl⟩ := Qc.mp (pe.mem_iff.mp hv)
  rfl
 have cl : cs.length = ks.length := by
  have := pe.length_eq
  rw [zJ, zJ] at this
  omega
 have sk : (cs.map Value.ref).map f = DL.d4 ks := DL.pS ksnd (by rw [<- fk]; exact pe.map f) up
 have kp3 : ∀ b o, s.heap.get? b = some o -> h2'.get? b = some o := λ b o e => kp b o (λ y => by rw [y, Dnew] at e; cases e) (kN b o e)
 have cp : ∀ b ∈ cs, b ∈ as := λ b hb => by
  have : Value.ref b ∈ as.map Value.ref := pe.mem_iff.mp (zP hb)
  obtain ⟨b', hb', e⟩ := Qc.mp this
  cases e
  exact hb'
 refine ⟨_, rfl, .ref D, _, I.laid (t' := s.toks) (a := D) (o := .lst (cs.map V.ref)) kp3 (xW Dgt) ⟨by rw [zJ, cl]; exact jZ (by omega), _, c2, nE _, hD2⟩, rfl, q D cs (I.hok.fresh (xW Dgt)) cl λ i hi => ?_⟩
 have hi' : i < cs.length := by omega
 obtain ⟨j, hj, ej⟩ := Bh (cp cs[i] (tM hi'))
 have hk := htp j (by omega)
 rw [jX, fI hj, jX, fI (show j < ks.length by omega)] at hk
 have fj : f (.ref as[j]) = ks[j]'(by omega) := by
  have e1 : ((as.map Value.ref).map f)[j]? = some (f (.ref as[j])) := by rw [zK, zK, fI hj]; rfl
  rw [fk, fI (show j < ks.length by omega)] at e1
  exact (zV e1).symm
 have si : (DL.d4 ks).getD i [] = f (.ref cs[i]) := by
  rw [<- sk, jX, zK, zK, fI hi']
  rfl
 rw [si, <- ej, fj, jX, fI hi', <- ej]
 exact hk
def xQ : List V -> Hp -> VK -> Prop := λ xs H Q => vt xs H Q \/ Ay xs H Q
theorem ng {X : Cx} : dq X (.builtin "sorted") xQ := λ pins s σ H xs us Q I rv h => h.elim (vv pins s σ H xs us Q I rv) (wA pins s σ H xs us Q I rv)
end L2
namespace DL
open PySem L2
section
variable {K : Fg}
noncomputable def gY : List PyData -> Option PyData
 | [.list ds] => (vw ds).bind λ ks => if (ks.all (λ k => !k.isEmpty) && decide (ks.length < 128) && decide ks.Nodup) = true then some (.list ((d4 ks).map λ k => .tuple (k.map .int))) else none
 | _ => none
theorem rR : pC K xQ gY := λ F H xs ds d Q s ar e k => by
 have e0 := e
 unfold gY at e
 split at e
 · rename_i es
   obtain ⟨ks, e1, e2⟩ := bind_some e
   split at e2
   · rename_i c
     cases e2
     simp only [Qa, decide_eq_true_eq, tN] at c
     obtain ⟨⟨c1, c3⟩, c4⟩ := c
     by_cases g : ks.length < 64
     · refine .inl (Am F H xs [.list es] _ Q s ar ?_ k)
       rw [vx]
       rw [e1, zD, if_pos]
       simp only [Qa, decide_eq_true_eq, tN]
       exact ⟨⟨c1, g⟩, c4⟩
     · refine .inr ?_
       obtain ⟨x, r, rfl, ⟨a, ys, rfl, h1, h2⟩, hr⟩ := ar
       rw [show r = [] from hr]
       obtain ⟨as, rfl, l, q⟩ := pW h2 (nF e1)
       refine ⟨a, as, ks, rfl, s _ _ h1, l, λ i hi => s _ _ (q i hi), c4, (λ k hk y => absurd (c1 k hk) (by rw [y]; decide)), by omega, c3, λ p cs hp hcl hcs => ?_⟩
       have len : (d4 ks).length = ks.length := (List.mergeSort_perm ks Ak).length_eq
       have allT : ∀ b ∈ cs, ∃ xs, H b = some (.tup xs) := λ b hb => by
        obtain ⟨i, hi, rfl⟩ := Bh hb
        have := hcs i (by omega)
        rw [jX, fI hi] at this
        exact ⟨_, this⟩
       obtain ⟨F1, g1, f1⟩ := Grow.tups s cs allT
       have g2 := g1.trans (Grow.new (p := p) (o := .lst (cs.map V.ref)) g1.s hp)
       refine k (.ref p) _ _ g2 ⟨p, _, rfl, ae, ?_⟩
       refine (pT (F := F1) (by rw [len]; exact hcl) λ i hi => ?_).same (bU (g1.s.free hp) _)
       have mem : cs.getD i 0 ∈ cs := by
        rw [jX, fI (by omega)]
        exact tM _
       rw [f1 _ mem, hcs i (by omega)]
   · cases e2
 · cases e
end
end DL
namespace L2
open PySem PySem.Spec PyProof.Rows
section
variable {prog : Program} {w : World} {A : Around} {E : Value -> Shared -> Prop} {s : Shared}
theorem uU {l : Addr} {vs : List Value} {Q : List Value -> Shared -> Prop} (hl : IsTup s.heap l vs.toArray)
 (h : Q vs { s with heap := (s.heap.push (seqObj "list" #[] 0)).update s.heap.objs.size (Obj.mapSeq (· ++ vs.toArray)) }) (hsz : vs.length <= sizeLine) :
 wpAny (model prog w) A (collect (.ref l)) Q E s := by
 obtain ⟨o, ho, hc, n, hd⟩ := id hl
 unfold collect
 refine wB (wpAny_runValue (codeAny_builtin entry_proto_collect' ?_))
 show wpAny _ _ (do again (.builtin "list.__iadd__" ⟨[<- newList [], .ref l], []⟩)) _ _ s
 refine wB (wpAny_newList (wP ⟨Code.quiet_builtin _ (by decide +kernel), codeAny_builtin entry_list_iadd' ?_⟩))
 show wpAny _ _ (Builtin.List.listExtendWith (.ref s.heap.objs.size) (.ref l) (.ref s.heap.objs.size)) _ _ { s with heap := s.heap.push (seqObj "list" #[] 0) }
 unfold Builtin.List.listExtendWith
 have ho' : (s.heap.push (seqObj "list" #[] 0)).get? l = some o := gy _ ho
 refine wB (wpAny_typeOf (T := "tuple") ⟨o, ho', hc⟩ ?_)
 have ht : (Value.type "tuple" == Value.type "tuple") = true := by rfl
 rw [if_pos (by rw [ht]; simp)]
 refine wB (listItems_at ho' hd ?_)
 refine wB (listItems_at (xs := #[]) (n := 0) (jm _ rfl) rfl ?_)
 rw [if_neg (by simp)]
 refine wB (listUpdate_at (xs := #[]) (n := 0) (jm _ rfl) rfl ?_ (zU _) (by show (#[] ++ vs.toArray).size <= sizeLine + 1; simp only [Array.size_append, zM, zH]; omega))
 refine wP ?_
 show wpAny (model prog w) A (do
  let o <- load s.heap.objs.size
  match o.data with
  | .seq xs _ => pure xs.toList
  | _ => unsupported "internal:collect") Q E { s with heap := (s.heap.push (seqObj "list" #[] 0)).update s.heap.objs.size (Obj.mapSeq (· ++ vs.toArray)) }
 refine wB (wpAny_load (get?_update_seq (jm _ rfl) _) ?_)
 show wpAny _ _ (pure ((#[] : Array Value) ++ vs.toArray).toList) Q E _
 rw [show ((#[] : Array Value) ++ vs.toArray).toList = vs by simp]
 exact wP h
theorem wC {l : Addr} {vs : List Value} {ns : List Int} {Q : Value -> Shared -> Prop} (hl : IsTup s.heap l vs.toArray) (hI : IntsAre vs ns) (h64 : vs.length < 64)
 (h : ∀ (out : Array Value) (ns' : List Int), IntsAre out.toList ns' -> ns'.Perm ns -> ns'.Pairwise (· <= ·) -> Q (.ref (s.heap.objs.size + 1)) { s with heap := sortedAll s.heap vs out }) :
 wpAny (model prog w) A (call (.builtin "sorted") [.ref l]) Q E s := by
 refine Calls.call_function_entry kind_sorted plain_sorted entry_sorted (args_sorted1 _) ?_
 unfold Builtin.«sorted»
 refine wB (m := checkCount "sorted" 1 1 _) (wP ?_)
 refine wB (uU hl ?_ (jZ (by omega)))
 refine wB (wpAny_newList ?_ (jZ (by omega)))
 have hsz : ((s.heap.push (seqObj "list" #[] 0)).update s.heap.objs.size (Obj.mapSeq (· ++ vs.toArray))).objs.size = s.heap.objs.size + 1 := by
  rw [Heap.size_update, size_push']
 have hoL : (((s.heap.push (seqObj "list" #[] 0)).update s.heap.objs.size (Obj.mapSeq (· ++ vs.toArray))).push (seqObj "list" vs.toArray 0)).get? (s.heap.objs.size + 1) = some (seqObj "list" vs.toArray 0) := by
  rw [<- hsz]; exact jm _ rfl
 show wpAny _ _ _ _ _ { s with heap := ((s.heap.push (seqObj "list" #[] 0)).update s.heap.objs.size (Obj.mapSeq (· ++ vs.toArray))).push (seqObj "list" vs.toArray 0) }
 rw [hsz]
 refine wB (wpAny_holding (wpAny_call_entry slot_list_sort ⟨_, hoL, rfl⟩ entry_list_sort (list_sort_tree hoL hI h64 λ out ns' a1 a2 a3 => ⟨_, rfl, ?_⟩) (args_list_sort _)))
 exact wP ⟨_, rfl, h out ns' a1 a2 a3⟩
end
def wD (K : Fg) : List V -> Hp -> VK -> Prop := λ xs H Q => ∃ (a : Addr) (ns : List Int), xs = [.ref a] /\ SqT K H a (ns.map V.int) /\ ns.length < 64 /\ ∀ (p : Addr) (ms : List Int), H p = none -> ms.Perm ns -> ms.Pairwise (· <= ·) -> Q (.ref p) (cZ H p (.lst (ms.map V.int)))
theorem wE {X : Cx} : dq X (.builtin "sorted") (wD X.K) := by
 intro pins s σ H xs us Q I rv h
 obtain ⟨a, ns, rfl, ha, h64, q⟩ := h
 obtain ⟨u, rfl, ru⟩ := nS rv
 cases (show u = Value.ref a from ru)
 obtain ⟨its, r, ht, hz⟩ := I.tuple ha
 have hi : IntsAre its ns := im r
 refine wC ht hi (by rw [<- r.length, zJ]; exact h64) λ out ms a1 a2 a3 => ?_
 obtain ⟨e, he⟩ := sortedAll_at s.heap its out
 have hv : Vals (ms.map V.int) out.toList := ls a1
 have hz : (ms.map V.int).length <= sizeLine := by rw [zJ, a2.length_eq]; exact jZ (by omega)
 have Hn : H (s.heap.objs.size + 1) = none := I.hok.fresh (Nat.le_succ _)
 exact ⟨.ref (s.heap.objs.size + 1), _, I.laid (t' := s.toks) (a := s.heap.objs.size + 1) (o := .lst (ms.map V.int)) (λ b o q => sortedAll_old q) (Nat.le_succ _) ⟨hz, out.toList, e, hv, by simpa [seqObj] using he⟩, rfl, q _ ms Hn a2 a3⟩
theorem Az {X : Cx} (K : Fg) (h : X.K = K := by rfl) : dq X (.builtin "sorted") (wD K) := h ▸ wE
end L2
namespace DL
open PySem L2
section
variable {K : Fg}
noncomputable def E8 (ns : List Int) : List Int := ns.mergeSort λ a b => decide (a <= b)
theorem BA (ns : List Int) : (E8 ns).Perm ns := List.mergeSort_perm ..
theorem E9 (ns : List Int) : (E8 ns).Pairwise (· <= ·) := (List.pairwise_mergeSort (le := λ a b : Int => decide (a <= b)) (λ a b c h1 h2 => by simp only [decide_eq_true_eq] at *; omega) (λ a b => by simp only [Bool.or_eq_true, decide_eq_true_eq]; omega) ns).imp λ h => of_decide_eq_true h
theorem D7 {ns ms : List Int} (p : ms.Perm ns) (s : ms.Pairwise (· <= ·)) : ms = E8 ns :=
 (p.trans (BA ns).symm).eq_of_pairwise (le := λ a b => a <= b) (λ a b _ _ h1 h2 => by omega) s (E9 ns)
noncomputable def pZ : List PyData -> Option PyData
 | [.tuple es] => (jK es).bind λ ns => if ns.length < 64 then some (.list ((E8 ns).map .int)) else none
 | _ => none
theorem BB : pC K (wD K) pZ := λ F H xs ds d Q s ar e k => by
 unfold pZ at e
 split at e
 · rename_i es
   obtain ⟨ns, e2, e⟩ := bind_some e
   split at e
   · rename_i c
     cases e
     obtain ⟨x, r, rfl, hx, hr⟩ := ar
     rw [show r = [] from hr]
     obtain ⟨p, xs, rfl, q, ax⟩ := hx
     rw [fQ e2] at ax
     have ex := Are.ints.mp ax
     subst ex
     refine ⟨p, ns, rfl, ?_, c, λ t ms ht hp hs => ?_⟩
     · first | exact q.same s | exact q.mono s | exact SqT.of (s _ _ q)
     rw [D7 hp hs]
     have g2 := Grow.new (p := t) (o := .lst ((E8 ns).map V.int)) s ht
     exact k (.ref t) _ _ g2 ⟨t, _, rfl, ae, Are.ints.mpr rfl⟩
   · cases e
 · cases e
end
end DL
namespace L2
open PySem PySem.Spec PyProof.Rows
theorem yT (l : Addr) (v : Value) (n : Nat) (d : Option Addr) (sl : Array (Option Value)) (u : Tok) :
 Meets (Builtin.«tuple.__mul__» ⟨[.ref l, .int 6 u], []⟩) (λ _ R s => s.heap.get? l = some { cls := .type "tuple", dict := d, data := .seq #[v] n, slots := sl } /\ R (.ok (.ret (.ref s.heap.objs.size))) { s with heap := s.heap.push { cls := .type "tuple", data := .seq #[v, v, v, v, v, v] } }) :=
 .of_wp λ prog w A R s h => by
  obtain ⟨hp, g, d, tk, os⟩ := s; obtain ⟨hl, h⟩ := h
  wp_walk
  exact ⟨_, rfl, h⟩
section
variable {X : Cx}
def BC : R2 := λ x y H Q => ∃ a z k, x = .ref a /\ H a = some (.tup [z]) /\ y = .int k /\ 0 <= k /\ k <= 6 /\ ∀ p H', Same H H' -> H' p = some (.tup (List.replicate k.toNat z)) -> Q (.ref p) H'
theorem Cj : OpR X (binaryOp .Mult) BC := by
 intro pins s σ H x y v u Q I rx ry h
 obtain ⟨a, z, k, rfl, ha, rfl, h0, h6, q⟩ := h
 by_cases h5 : k <= 5
 · exact C9 pins s σ H _ _ v u Q I rx ry ⟨a, z, k, rfl, ha, rfl, h0, h5, q⟩
 have k6 : k = 6 := by omega
 subst k6
 cases rx
 obtain ⟨t, rfl⟩ := ry
 obtain ⟨its, r, ht, hz⟩ := I.tuple (SqT.of ha)
 obtain ⟨w, rfl, rw'⟩ := nS r
 obtain ⟨⟨cls, d, data, sl⟩, ho, hcl, n, hd⟩ := id ht
 simp only at hcl hd
 subst hcl hd
 refine wpAny_binaryOp_repeat_ref (T := "tuple") (U := "int") (by decide) ⟨_, ho, rfl⟩ (λ s' => typeIs_int s' 6 t) j6 F.fills_int_mul F.slot_int_rmul pU F.slot_int_index.lookup
  (call_meets F.slot_int_rmul (typeIs_int s 6 t) F.entry_int_rmul (F.args_int_rmul_2 _ _) (lr 6 t a #[w] n d sl) ⟨ho, rfl, ⟨_, ho, rfl⟩, ?_⟩)
 have hv : Vals [z, z, z, z, z, z] [w, w, w, w, w, w] := .cons rw' (.cons rw' (.cons rw' (.cons rw' (.cons rw' (.cons rw' .nil)))))
 exact call_meets F.slot_tuple_mul ⟨_, ho, rfl⟩ F.entry_tuple_mul (F.args_tuple_mul_2 _ _) (yT a w n d sl t) ⟨ho, .ref s.heap.objs.size, _, I.laid (t' := s.toks) (o := .tup [z, z, z, z, z, z]) (λ b ob q => gy _ q) (Q2 _) ⟨jZ (by show 6 <= 1000; decide), _, hv, IsTup.new _ _, _, jm _ rfl, rfl⟩, rfl, q _ _ (bU (I.hok.fresh (Q2 _)) _) ae⟩
end
end L2
namespace DL
open PySem L2
section
variable {K : Fg}
noncomputable def uV (a b : PyData) : Option PyData := match a, b with
 | .tuple [d], .int k => if 0 <= k /\ k <= 6 then some (.tuple (List.replicate k.toNat d)) else none
 | _, _ => none
theorem Ck : tO K BC uV := λ F H x y dx dy d Q s hx hy e k => by
 unfold uV at e
 split at e
 · rename_i d0 i
   split at e
   · rename_i c
     cases e
     obtain ⟨a, xs, rfl, h1, z, r, rfl, iz, hr⟩ := hx
     rw [show r = [] from hr] at h1
     refine ⟨a, z, i, rfl, s _ _ h1, hy, c.1, c.2, λ p H' hs hp => ?_⟩
     obtain ⟨F', g, hf⟩ := Al (s.trans hs) hp
     have g2 := (yO s hs).trans g
     exact k (.ref p) H' F' g2 ⟨p, _, rfl, hf, (kL iz _).same g2.f⟩
   · cases e
 · cases e
end
end DL
namespace GX
open PySem L2 DL
noncomputable def nh : aP -> Option DFlow := (ac (d2 oB (d2 oB (d2 fC (aB 0) (dC (.int 48271))) (aB 1)) (aB 2)))
noncomputable def rS : aP -> Option DFlow := (ac (d2 oB (d2 oB (d2 fC (aB 0) (dC (.int 48271))) (aB 1)) (aB 2)))
theorem sr : rS = nh := rfl
noncomputable def aq : List PyData -> Option PyData := bQ 3 rS
noncomputable def iu : aP -> Option DFlow := (ac (dC (.int 0)))
noncomputable def iw : aP -> Option DFlow := aN (eA (dB (d2 Eo (aB 1) (ai cz (aA (aB 0) aH)))) (ac (d2 bS (aB 0) (aB 1))) av) iu
noncomputable def p0 : aP -> Option DFlow := (aN (eA (dB (d2 Eo (aB 1) (ai cz (aA (aB 0) aH)))) (ac (d2 bS (aB 0) (aB 1))) av) (ac (dC (.int 0))))
theorem kM : p0 = iw := rfl
noncomputable def aX : List PyData -> Option PyData := bQ 2 p0
noncomputable def lx : aP -> Option DFlow := (ac (d2 bS (aB 2) (aF 3 aq (aA (aF 2 aX (aA (aB 0) (aA (aB 1) aH))) (aA (dC (.int 9973)) (aA (aB 3) aH))))))
noncomputable def ly : aP -> Option DFlow := aN (eA (dB (d2 Ep (ai cz (aA (aB 0) aH)) (dC (.int 63)))) (af 3 (dC (.int 13))) av) lx
noncomputable def lz : aP -> Option DFlow := aN (af 3 (dC (.int 9))) ly
noncomputable def mB : aP -> Option DFlow := aN (af 2 (az (bd (uJ [.tuple [.int 2, .int 3], .tuple [.int 3, .int 2], .tuple [.int 3, .int 3], .tuple [.int 2, .int 4], .tuple [.int 4, .int 2], .tuple [.int 1, .int 5], .tuple [.int 2, .int 5], .tuple [.int 3, .int 4], .tuple [.int 4, .int 3], .tuple [.int 5, .int 2], .tuple [.int 2, .int 8], .tuple [.int 1, .int 1], .tuple [.int 2, .int 2]])))) lz
noncomputable def p6 : aP -> Option DFlow := (aN (af 2 (az (bd (uJ [.tuple [.int 2, .int 3], .tuple [.int 3, .int 2], .tuple [.int 3, .int 3], .tuple [.int 2, .int 4], .tuple [.int 4, .int 2], .tuple [.int 1, .int 5], .tuple [.int 2, .int 5], .tuple [.int 3, .int 4], .tuple [.int 4, .int 3], .tuple [.int 5, .int 2], .tuple [.int 2, .int 8], .tuple [.int 1, .int 1], .tuple [.int 2, .int 2]])))) (aN (af 3 (dC (.int 9))) (aN (eA (dB (d2 Ep (ai cz (aA (aB 0) aH)) (dC (.int 63)))) (af 3 (dC (.int 13))) av) (ac (d2 bS (aB 2) (aF 3 aq (aA (aF 2 aX (aA (aB 0) (aA (aB 1) aH))) (aA (dC (.int 9973)) (aA (aB 3) aH)))))))))
theorem qY : p6 = mB := rfl
noncomputable def dG : List PyData -> Option PyData := bQ 4 p6
noncomputable def mC : aP -> Option DFlow := (j3 2 (ac (ai lX (aA (aB 2) aH))))
noncomputable def mD : aP -> Option DFlow := aN (cf (bp (aA (d2 bS (aB 0) (dC (.int 0))) aH)) (gN 3) (cE 2 (aF 3 aq (aA (d2 bL (d2 bL (aB 1) (d2 fC (d2 fC (dC (.int 31)) (aB 3)) (aB 3))) (d2 fC (dC (.int 7)) (aB 3))) (aA (dC (.int 9967)) (aA (d2 bS (aB 0) (dC (.int 1))) aH)))))) mC
noncomputable def mE : aP -> Option DFlow := aN (cL 2 (bd aH)) mD
noncomputable def p7 : aP -> Option DFlow := (aN (cL 2 (bd aH)) (aN (cf (bp (aA (d2 bS (aB 0) (dC (.int 0))) aH)) (gN 3) (cE 2 (aF 3 aq (aA (d2 bL (d2 bL (aB 1) (d2 fC (d2 fC (dC (.int 31)) (aB 3)) (aB 3))) (d2 fC (dC (.int 7)) (aB 3))) (aA (dC (.int 9967)) (aA (d2 bS (aB 0) (dC (.int 1))) aH)))))) (j3 2 (ac (ai lX (aA (aB 2) aH))))))
theorem qZ : p7 = mE := rfl
noncomputable def cH : List PyData -> Option PyData := bQ 4 p7
noncomputable def j9 : aP -> Option DFlow := (ac (bh (aA (aB 2) (aA (aB 7) aH))))
noncomputable def ja : aP -> Option DFlow := aN (j3 3 (cf (bB (aB 3)) (gN 8) (eA (dB (lY false 4 (aB 8))) (aN (dS 4 (aB 8)) (af 7 (d2 bL (aB 7) (dC (.int 1))))) av))) j9
noncomputable def jb : aP -> Option DFlow := aN (af 7 (dC (.int 0))) ja
noncomputable def jc : aP -> Option DFlow := aN (cf (CK (aA (aB 0) (aA (aB 1) aH))) (gT 2 (gC (gN 5) (gC (gN 6) gZ))) (eA (dB (d2 jW (aB 5) (aB 6))) (af 2 (d2 bL (aB 2) (dC (.int 1)))) (aN (cE 3 (aB 5)) (cE 4 (aB 6))))) jb
noncomputable def jd : aP -> Option DFlow := aN (cL 4 (bd aH)) jc
noncomputable def je : aP -> Option DFlow := aN (cL 3 (bd aH)) jd
noncomputable def jf : aP -> Option DFlow := aN (af 2 (dC (.int 0))) je
noncomputable def mF : aP -> Option DFlow := (aN (af 2 (dC (.int 0))) (aN (cL 3 (bd aH)) (aN (cL 4 (bd aH)) (aN (cf (CK (aA (aB 0) (aA (aB 1) aH))) (gT 2 (gC (gN 5) (gC (gN 6) gZ))) (eA (dB (d2 jW (aB 5) (aB 6))) (af 2 (d2 bL (aB 2) (dC (.int 1)))) (aN (cE 3 (aB 5)) (cE 4 (aB 6))))) (aN (af 7 (dC (.int 0))) (aN (j3 3 (cf (bB (aB 3)) (gN 8) (eA (dB (lY false 4 (aB 8))) (aN (dS 4 (aB 8)) (af 7 (d2 bL (aB 7) (dC (.int 1))))) av))) (ac (bh (aA (aB 2) (aA (aB 7) aH))))))))))
theorem oD : mF = jf := rfl
noncomputable def bM : List PyData -> Option PyData := bQ 9 mF
noncomputable def mG : aP -> Option DFlow := (tu 4)
noncomputable def mH : aP -> Option DFlow := aN (cf (bp (aA (aF 3 aq (aA (aF 2 aX (aA (aB 0) (aA (d2 bL (aB 1) (dC (.int 1))) aH))) (aA (dC (.int 9949)) (aA (dC (.int 5)) aH)))) aH)) (gN 5) (aN (af 6 (d2 bL (aF 2 aX (aA (aB 0) (aA (d2 bL (d2 bL (aB 1) (dC (.int 2))) (aB 5)) aH))) (d2 fC (d2 fC (dC (.int 13)) (aB 5)) (aB 5)))) (aN (af 7 (aF 2 cH (aA (aB 2) (aA (aB 6) aH)))) (aN (af 8 (aF 2 bM (aA (aB 3) (aA (aB 7) aH)))) (aN (eA (dB (d2 jW (aF 3 aq (aA (aB 6) (aA (dC (.int 9941)) (aA (dC (.int 7)) aH)))) (dC (.int 1)))) (af 8 (bh (aA (aF 3 aq (aA (aB 6) (aA (dC (.int 9931)) (aA (d2 bL (d2 bS (aB 2) (dC (.int 0))) (dC (.int 1))) aH)))) (aA (aF 3 aq (aA (aB 6) (aA (dC (.int 9929)) (aA (d2 bL (d2 bS (aB 2) (dC (.int 0))) (dC (.int 1))) aH)))) aH)))) av) (cE 4 (bh (aA (aB 7) (aA (aB 8) aH))))))))) mG
noncomputable def mI : aP -> Option DFlow := aN (cL 4 (bd aH)) mH
noncomputable def mJ : aP -> Option DFlow := aN (af 3 (aF 2 cH (aA (aB 2) (aA (aF 2 aX (aA (aB 0) (aA (aB 1) aH))) aH)))) mI
noncomputable def p8 : aP -> Option DFlow := (aN (af 3 (aF 2 cH (aA (aB 2) (aA (aF 2 aX (aA (aB 0) (aA (aB 1) aH))) aH)))) (aN (cL 4 (bd aH)) (aN (cf (bp (aA (aF 3 aq (aA (aF 2 aX (aA (aB 0) (aA (d2 bL (aB 1) (dC (.int 1))) aH))) (aA (dC (.int 9949)) (aA (dC (.int 5)) aH)))) aH)) (gN 5) (aN (af 6 (d2 bL (aF 2 aX (aA (aB 0) (aA (d2 bL (d2 bL (aB 1) (dC (.int 2))) (aB 5)) aH))) (d2 fC (d2 fC (dC (.int 13)) (aB 5)) (aB 5)))) (aN (af 7 (aF 2 cH (aA (aB 2) (aA (aB 6) aH)))) (aN (af 8 (aF 2 bM (aA (aB 3) (aA (aB 7) aH)))) (aN (eA (dB (d2 jW (aF 3 aq (aA (aB 6) (aA (dC (.int 9941)) (aA (dC (.int 7)) aH)))) (dC (.int 1)))) (af 8 (bh (aA (aF 3 aq (aA (aB 6) (aA (dC (.int 9931)) (aA (d2 bL (d2 bS (aB 2) (dC (.int 0))) (dC (.int 1))) aH)))) (aA (aF 3 aq (aA (aB 6) (aA (dC (.int 9929)) (aA (d2 bL (d2 bS (aB 2) (dC (.int 0))) (dC (.int 1))) aH)))) aH)))) av) (cE 4 (bh (aA (aB 7) (aA (aB 8) aH))))))))) (tu 4))))
theorem qa : p8 = mJ := rfl
noncomputable def d6 : List PyData -> Option (List PyData) := EQ 9 p8
noncomputable def kO : aP -> Option DFlow := (ac (ai lX (aA (az (ag 1 [] (bB (ai gY (aA (aB 2) aH))) (gN 0) cR (d2 bS (aB 0) (dC (.int 1))))) aH)))
noncomputable def kP : aP -> Option DFlow := aN (af 2 (az (ag 1 [("_law_cell_here", 0)] (bp (aA (aB 1) aH)) (gN 0) cR (bh (aA (aF 3 aq (aA (d2 bL (d2 bL (aB 1) (d2 fC (d2 fC (dC (.int 29)) (aB 0)) (aB 0))) (d2 fC (dC (.int 3)) (aB 0))) (aA (dC (.int 9907)) (aA (dC (.int 997)) aH)))) (aA (aB 0) aH)))))) kO
noncomputable def nk : aP -> Option DFlow := (aN (af 2 (az (ag 1 [("_law_cell_here", 0)] (bp (aA (aB 1) aH)) (gN 0) cR (bh (aA (aF 3 aq (aA (d2 bL (d2 bL (aB 1) (d2 fC (d2 fC (dC (.int 29)) (aB 0)) (aB 0))) (d2 fC (dC (.int 3)) (aB 0))) (aA (dC (.int 9907)) (aA (dC (.int 997)) aH)))) (aA (aB 0) aH)))))) (ac (ai lX (aA (az (ag 1 [] (bB (ai gY (aA (aB 2) aH))) (gN 0) cR (d2 bS (aB 0) (dC (.int 1))))) aH))))
theorem p9 : nk = kP := rfl
noncomputable def cV : List PyData -> Option PyData := bQ 3 nk
noncomputable def ku : aP -> Option DFlow := (ac (cQ (fR "tuple" (aB 0)) (d2 jW (ai cz (aA (aB 0) aH)) (dC (.int 2)))))
noncomputable def uW : aP -> Option DFlow := (ac (cQ (fR "tuple" (aB 0)) (d2 jW (ai cz (aA (aB 0) aH)) (dC (.int 2)))))
theorem nl : uW = ku := rfl
noncomputable def dM : List PyData -> Option PyData := bQ 1 uW
noncomputable def cA : aP -> Option DFlow := (ac (cQ (fR "int" (aB 0)) (cQ (pD (fR "bool" (aB 0))) (ko ER ER (aB 1) (aB 0) (aB 2)))))
noncomputable def hV : aP -> Option DFlow := (ac (cQ (fR "int" (aB 0)) (cQ (pD (fR "bool" (aB 0))) (ko ER ER (aB 1) (aB 0) (aB 2)))))
theorem cW : hV = cA := rfl
noncomputable def aT : List PyData -> Option PyData := bQ 3 hV
noncomputable def oE : aP -> Option DFlow := (aN (af 2 (dC (.int 1))) (aN (cf (bp (aA (aB 0) aH)) (gN 3) (oA 2 fC (aB 1))) (ac (aB 2))))
noncomputable def eI : List PyData -> Option PyData := bQ 4 oE
noncomputable def BD : aP -> Option DFlow := (aN (eA (bx (dJ (aF 1 dM (aA (aB 0) aH)))) (ac (dC (.bool false))) av) (aN (eA (kG (bx (dJ (aF 3 aT (aA (d2 bS (aB 0) (dC (.int 0))) (aA (dC (.int 1)) (aA (dC (.int 5)) aH)))))) (bx (dJ (aF 3 aT (aA (d2 bS (aB 0) (dC (.int 1))) (aA (dC (.int 1)) (aA (dC (.int 8)) aH))))))) (ac (dC (.bool false))) av) (ac (d2 ER (aF 2 eI (aA (d2 bS (aB 0) (dC (.int 0))) (aA (d2 bS (aB 0) (dC (.int 1))) aH))) (dC (.int 300))))))
noncomputable def mK : List PyData -> Option PyData := bQ 1 BD
noncomputable def qb : aP -> Option DFlow := (aN (eA (bx (dJ (aF 1 mK (aA (aB 0) aH)))) fP av) (ac (aB 0)))
noncomputable def bH : List PyData -> Option PyData := bQ 1 qb
noncomputable def pb : aP -> Option DFlow := (ac (ai oC (aA (az (ag 1 [("game", 0)] (bB (aB 1)) (gN 0) cR (aF 3 aT (aA (aB 0) (aA (dC (.int 0)) (aA (d2 qV (d2 bS (aB 1) (dC (.int 1))) (dC (.int 1))) aH)))))) aH)))
noncomputable def pc : aP -> Option DFlow := aN (eA (kG (bx (dJ (fR "tuple" (aB 1)))) (dB (d2 tP (ai cz (aA (aB 1) aH)) (d2 bS (aB 0) (dC (.int 0)))))) (ac (dC (.bool false))) av) pb
noncomputable def uX : aP -> Option DFlow := (aN (eA (kG (bx (dJ (fR "tuple" (aB 1)))) (dB (d2 tP (ai cz (aA (aB 1) aH)) (d2 bS (aB 0) (dC (.int 0)))))) (ac (dC (.bool false))) av) (ac (ai oC (aA (az (ag 1 [("game", 0)] (bB (aB 1)) (gN 0) cR (aF 3 aT (aA (aB 0) (aA (dC (.int 0)) (aA (d2 qV (d2 bS (aB 1) (dC (.int 1))) (dC (.int 1))) aH)))))) aH))))
theorem uY : uX = pc := rfl
noncomputable def gu : List PyData -> Option PyData := bQ 2 uX
noncomputable def mL : aP -> Option DFlow := (ac (cQ (aF 1 dM (aA (aB 1) aH)) (ai oC (aA (az (ag 1 [("game", 0)] (bB (aB 1)) (gN 0) cR (aF 3 aT (aA (aB 0) (aA (dC (.int 0)) (aA (d2 bS (aB 1) (dC (.int 0))) aH)))))) aH))))
noncomputable def pf : aP -> Option DFlow := (ac (cQ (aF 1 dM (aA (aB 1) aH)) (ai oC (aA (az (ag 1 [("game", 0)] (bB (aB 1)) (gN 0) cR (aF 3 aT (aA (aB 0) (aA (dC (.int 0)) (aA (d2 bS (aB 1) (dC (.int 0))) aH)))))) aH))))
theorem qc : pf = mL := rfl
noncomputable def eK : List PyData -> Option PyData := bQ 2 pf
noncomputable def rT : aP -> Option DFlow := (ac (cQ (aF 1 dM (aA (aB 1) aH)) (cQ (aF 2 gu (aA (aB 0) (aA (d2 bS (aB 1) (dC (.int 0))) aH))) (aF 2 eK (aA (aB 0) (aA (d2 bS (aB 1) (dC (.int 1))) aH))))))
noncomputable def xR : aP -> Option DFlow := (ac (cQ (aF 1 dM (aA (aB 1) aH)) (cQ (aF 2 gu (aA (aB 0) (aA (d2 bS (aB 1) (dC (.int 0))) aH))) (aF 2 eK (aA (aB 0) (aA (d2 bS (aB 1) (dC (.int 1))) aH))))))
theorem wF : xR = rT := rfl
noncomputable def g0 : List PyData -> Option PyData := bQ 2 xR
noncomputable def jM : aP -> Option DFlow := (ac (aB 1))
noncomputable def jN : aP -> Option DFlow := aN (cf (Bd (aA (aB 1) aH)) (gT 2 (gC (gN 3) (gC (gN 4) gZ))) (eA (bx (dJ (pP 2 "is_ask" 2 g0 (aA (aB 0) (aA (aB 4) aH))))) fP av)) jM
noncomputable def jO : aP -> Option DFlow := aN (eA (kG (bx (dJ (fR "list" (aB 1)))) (dB (d2 Ep (ai cz (aA (aB 1) aH)) (dC (.int 8))))) fP av) jN
noncomputable def kQ : aP -> Option DFlow := (aN (eA (kG (bx (dJ (fR "list" (aB 1)))) (dB (d2 Ep (ai cz (aA (aB 1) aH)) (dC (.int 8))))) fP av) (aN (cf (Bd (aA (aB 1) aH)) (gT 2 (gC (gN 3) (gC (gN 4) gZ))) (eA (bx (dJ (pP 2 "is_ask" 2 g0 (aA (aB 0) (aA (aB 4) aH))))) fP av)) (ac (aB 1))))
theorem nG : kQ = jO := rfl
noncomputable def cX : List PyData -> Option PyData := bQ 5 kQ
noncomputable def jP : aP -> Option DFlow := (ac (aF 3 cX (aA (aB 0) (aA (aB 1) (aA (dC (D6 "is_ask")) aH)))))
noncomputable def kR : aP -> Option DFlow := (ac (aF 3 cX (aA (aB 0) (aA (aB 1) (aA (dC (D6 "is_ask")) aH)))))
theorem nH : kR = jP := rfl
noncomputable def bW : List PyData -> Option PyData := bQ 2 kR
noncomputable def d7 : aP -> Option DFlow := (ac (cQ (ai oC (aA (az (ag 1 [("size", 1)] (bB (aB 0)) (gN 0) cR (aF 3 aT (aA (aB 0) (aA (dC (.int 0)) (aA (d2 qV (aB 1) (dC (.int 1))) aH)))))) aH)) (d2 jW (ai pZ (aA (aB 0) aH)) (az (fD (aB 1))))))
noncomputable def d8 : aP -> Option DFlow := aN (eA (kG (bx (dJ (fR "tuple" (aB 0)))) (dB (d2 tP (ai cz (aA (aB 0) aH)) (aB 1)))) (ac (dC (.bool false))) av) d7
noncomputable def rU : aP -> Option DFlow := (aN (eA (kG (bx (dJ (fR "tuple" (aB 0)))) (dB (d2 tP (ai cz (aA (aB 0) aH)) (aB 1)))) (ac (dC (.bool false))) av) (ac (cQ (ai oC (aA (az (ag 1 [("size", 1)] (bB (aB 0)) (gN 0) cR (aF 3 aT (aA (aB 0) (aA (dC (.int 0)) (aA (d2 qV (aB 1) (dC (.int 1))) aH)))))) aH)) (d2 jW (ai pZ (aA (aB 0) aH)) (az (fD (aB 1)))))))
theorem dg : rU = d8 := rfl
noncomputable def bI : List PyData -> Option PyData := bQ 2 rU
noncomputable def fT : aP -> Option DFlow := (ac (aB 0))
noncomputable def fU : aP -> Option DFlow := aN (eA (bx (dJ (aF 2 bI (aA (aB 0) (aA (aB 1) aH))))) fP av) fT
noncomputable def jg : aP -> Option DFlow := (aN (eA (bx (dJ (aF 2 bI (aA (aB 0) (aA (aB 1) aH))))) fP av) (ac (aB 0)))
theorem hW : jg = fU := rfl
noncomputable def bC : List PyData -> Option PyData := bQ 2 jg
noncomputable def jQ : aP -> Option DFlow := (j3 3 (ac (ai lX (aA (aB 3) aH))))
noncomputable def jR : aP -> Option DFlow := aN (cf (Bd (aA (aB 0) aH)) (gT 2 (gC (gN 4) (gC (gN 5) gZ))) (fS 3 (d2 bS (aB 1) (aB 4)) (d2 bS (aB 2) (aB 5)))) jQ
noncomputable def jS : aP -> Option DFlow := aN (cL 3 (dE (aA (aB 0) aH))) jR
noncomputable def kS : aP -> Option DFlow := (aN (cL 3 (dE (aA (aB 0) aH))) (aN (cf (Bd (aA (aB 0) aH)) (gT 2 (gC (gN 4) (gC (gN 5) gZ))) (fS 3 (d2 bS (aB 1) (aB 4)) (d2 bS (aB 2) (aB 5)))) (j3 3 (ac (ai lX (aA (aB 3) aH))))))
theorem nI : kS = jS := rfl
noncomputable def cF : List PyData -> Option PyData := bQ 6 kS
noncomputable def ix : aP -> Option DFlow := (ac (az (ag 1 [("places", 2), ("colours", 3)] (bB (aB 1)) (gN 0) cR (bh (aA (aF 3 cF (aA (d2 bS (aB 0) (dC (.int 0))) (aA (aB 1) (aA (aB 2) aH)))) (aA (d2 bS (aB 0) (dC (.int 1))) aH))))))
noncomputable def iy : aP -> Option DFlow := aN (dL (aF 2 bC (aA (aB 3) (aA (d2 bS (aB 0) (dC (.int 1))) aH)))) ix
noncomputable def jA : aP -> Option DFlow := aN (dL (aF 2 bC (aA (aB 2) (aA (d2 bS (aB 0) (dC (.int 0))) aH)))) iy
noncomputable def jB : aP -> Option DFlow := aN (dL (aF 2 bW (aA (aB 0) (aA (aB 1) aH)))) jA
noncomputable def jC : aP -> Option DFlow := aN (dL (aF 1 bH (aA (aB 0) aH))) jB
noncomputable def uZ : aP -> Option DFlow := (aN (dL (aF 1 bH (aA (aB 0) aH))) (aN (dL (aF 2 bW (aA (aB 0) (aA (aB 1) aH)))) (aN (dL (aF 2 bC (aA (aB 2) (aA (d2 bS (aB 0) (dC (.int 0))) aH)))) (aN (dL (aF 2 bC (aA (aB 3) (aA (d2 bS (aB 0) (dC (.int 1))) aH)))) (ac (az (ag 1 [("places", 2), ("colours", 3)] (bB (aB 1)) (gN 0) cR (bh (aA (aF 3 cF (aA (d2 bS (aB 0) (dC (.int 0))) (aA (aB 1) (aA (aB 2) aH)))) (aA (d2 bS (aB 0) (dC (.int 1))) aH))))))))))
theorem jh : uZ = jC := rfl
noncomputable def fE : List PyData -> Option PyData := bQ 4 uZ
noncomputable def bG : List PyData -> Bool := yE 2 (Ca (bx (dJ (aF 2 bI (aA (aB 0) (aA (aB 1) aH))))) (sY (aA (dC (.str (PySem.Str.ofString "no order: a tuple of all places, or of all colours, each once"))) aH)) G4)
noncomputable def bo : List PyData -> Bool := yE 4 (vj (dL (aF 1 bH (aA (aB 0) aH))) (vj (dL (aF 2 bW (aA (aB 0) (aA (aB 1) aH)))) (oS (rN 2 bG (aA (aB 2) (aA (d2 bS (aB 0) (dC (.int 0))) aH))) (vj (dL (aF 2 bC (aA (aB 2) (aA (d2 bS (aB 0) (dC (.int 0))) aH)))) (rN 2 bG (aA (aB 3) (aA (d2 bS (aB 0) (dC (.int 1))) aH)))))))
noncomputable def bY : List PyData -> Option PyData := rO fE bo
noncomputable def kU : aP -> Option DFlow := (j3 3 (ac (ai lX (aA (aB 3) aH))))
noncomputable def kW : aP -> Option DFlow := aN (cf (bp (aA (ai cz (aA (aB 0) aH)) aH)) (gN 4) (fS 3 (d2 bS (aB 1) (aB 4)) (d2 bS (aB 2) (d2 bS (aB 0) (aB 4))))) kU
noncomputable def kX : aP -> Option DFlow := aN (cL 3 (dE (aA (aB 0) aH))) kW
noncomputable def nq : aP -> Option DFlow := (aN (cL 3 (dE (aA (aB 0) aH))) (aN (cf (bp (aA (ai cz (aA (aB 0) aH)) aH)) (gN 4) (fS 3 (d2 bS (aB 1) (aB 4)) (d2 bS (aB 2) (d2 bS (aB 0) (aB 4))))) (j3 3 (ac (ai lX (aA (aB 3) aH))))))
theorem ph : nq = kX := rfl
noncomputable def bc : List PyData -> Option PyData := bQ 5 nq
noncomputable def kY : aP -> Option DFlow := (ac (aB 1))
noncomputable def kZ : aP -> Option DFlow := aN (cf (bp (aA (d2 bS (aB 0) (dC (.int 0))) aH)) (gN 2) (aN (af 3 (az (bd aH))) (aN (cf (bB (aB 1)) (gN 4) (af 3 (d2 bL (aB 3) (az (ag 1 [("_law_code_here", 4)] (bp (aA (d2 bS (aB 0) (dC (.int 1))) aH)) (gN 0) cR (d2 bL (aB 1) (bh (aA (aB 0) aH)))))))) (af 1 (aB 3))))) kY
noncomputable def ka : aP -> Option DFlow := aN (af 1 (az (bd (aA (bh aH) aH)))) kZ
noncomputable def nr : aP -> Option DFlow := (aN (af 1 (az (bd (aA (bh aH) aH)))) (aN (cf (bp (aA (d2 bS (aB 0) (dC (.int 0))) aH)) (gN 2) (aN (af 3 (az (bd aH))) (aN (cf (bB (aB 1)) (gN 4) (af 3 (d2 bL (aB 3) (az (ag 1 [("_law_code_here", 4)] (bp (aA (d2 bS (aB 0) (dC (.int 1))) aH)) (gN 0) cR (d2 bL (aB 1) (bh (aA (aB 0) aH)))))))) (af 1 (aB 3))))) (ac (aB 1))))
theorem pi : nr = ka := rfl
noncomputable def cG : List PyData -> Option PyData := bQ 5 nr
noncomputable def mM : aP -> Option DFlow := (ac (az (ag 1 [("_law_asks_here", 1)] (bB (aF 1 cG (aA (aB 0) aH))) (gN 0) (bx (dJ (az (ag 1 [("_law_code_here", 0)] (bB (aB 1)) (gN 0) (dB (d2 tP (aF 2 bM (aA (aB 1) (aA (d2 bS (aB 0) (dC (.int 0))) aH))) (d2 bS (aB 0) (dC (.int 1))))) (aB 0))))) (aB 0))))
noncomputable def pj : aP -> Option DFlow := (ac (az (ag 1 [("_law_asks_here", 1)] (bB (aF 1 cG (aA (aB 0) aH))) (gN 0) (bx (dJ (az (ag 1 [("_law_code_here", 0)] (bB (aB 1)) (gN 0) (dB (d2 tP (aF 2 bM (aA (aB 1) (aA (d2 bS (aB 0) (dC (.int 0))) aH))) (d2 bS (aB 0) (dC (.int 1))))) (aB 0))))) (aB 0))))
theorem qd : pj = mM := rfl
noncomputable def cY : List PyData -> Option PyData := bQ 2 pj
noncomputable def mO : aP -> Option DFlow := (ac (bh (aA (aB 2) (aA (d2 qV (aB 3) (aB 2)) aH))))
noncomputable def mP : aP -> Option DFlow := aN (cf (Bd (aA (aB 1) aH)) (gT 2 (gC (gN 5) (gC (gN 6) gZ))) (aN (eA (dB (d2 jW (d2 bS (aB 0) (aB 5)) (aB 6))) (oA 2 nZ (dC (.int 1))) av) (eA (dB (lY false 4 (aB 6))) (aN (dS 4 (aB 6)) (oA 3 nZ (dC (.int 1)))) av))) mO
noncomputable def mQ : aP -> Option DFlow := aN (cL 4 (dE (aA (aB 0) aH))) mP
noncomputable def mR : aP -> Option DFlow := aN (af 3 (dC (.int 0))) mQ
noncomputable def mS : aP -> Option DFlow := aN (af 2 (dC (.int 0))) mR
noncomputable def pp : aP -> Option DFlow := (aN (af 2 (dC (.int 0))) (aN (af 3 (dC (.int 0))) (aN (cL 4 (dE (aA (aB 0) aH))) (aN (cf (Bd (aA (aB 1) aH)) (gT 2 (gC (gN 5) (gC (gN 6) gZ))) (aN (eA (dB (d2 jW (d2 bS (aB 0) (aB 5)) (aB 6))) (oA 2 nZ (dC (.int 1))) av) (eA (dB (lY false 4 (aB 6))) (aN (dS 4 (aB 6)) (oA 3 nZ (dC (.int 1)))) av))) (ac (bh (aA (aB 2) (aA (d2 qV (aB 3) (aB 2)) aH))))))))
theorem qe : pp = mS := rfl
noncomputable def eM : List PyData -> Option PyData := bQ 7 pp
noncomputable def nt : aP -> Option DFlow := (ac (d2 jW (aF 2 eM (aA (aB 0) (aA (d2 bS (aB 1) (dC (.int 0))) aH))) (d2 bS (aB 1) (dC (.int 1)))))
noncomputable def rV : aP -> Option DFlow := (ac (d2 jW (aF 2 eM (aA (aB 0) (aA (d2 bS (aB 1) (dC (.int 0))) aH))) (d2 bS (aB 1) (dC (.int 1)))))
theorem su : rV = nt := rfl
noncomputable def dh : List PyData -> Option PyData := bQ 2 rV
noncomputable def hX : aP -> Option DFlow := (ac (aB 2))
noncomputable def hZ : aP -> Option DFlow := aN (cf (bB (aB 1)) (gN 3) (af 2 (az (ag 1 [("ask", 3)] (bB (aB 2)) (gN 0) (dJ (aF 2 dh (aA (aB 0) (aA (aB 1) aH)))) (aB 0))))) hX
noncomputable def h9 : aP -> Option DFlow := aN (af 2 (aB 0)) hZ
noncomputable def jT : aP -> Option DFlow := (aN (af 2 (aB 0)) (aN (cf (bB (aB 1)) (gN 3) (af 2 (az (ag 1 [("ask", 3)] (bB (aB 2)) (gN 0) (dJ (aF 2 dh (aA (aB 0) (aA (aB 1) aH)))) (aB 0))))) (ac (aB 2))))
theorem kz : jT = h9 := rfl
noncomputable def bw : List PyData -> Option PyData := bQ 4 jT
noncomputable def mT : aP -> Option DFlow := (ac (aB 1))
noncomputable def mU : aP -> Option DFlow := aN (cf (bp (aA (d2 bS (aB 0) (dC (.int 0))) aH)) (gN 2) (aN (cL 3 (bd aH)) (aN (cf (bB (aB 1)) (gN 4) (hG 3 (az (ag 1 [("code", 4)] (bp (aA (d2 bS (aB 0) (dC (.int 1))) aH)) (gN 0) cR (d2 bL (aB 1) (bh (aA (aB 0) aH))))))) (j3 3 (af 1 (aB 3)))))) mT
noncomputable def mV : aP -> Option DFlow := aN (af 1 (az (bd (aA (bh aH) aH)))) mU
noncomputable def mW : aP -> Option DFlow := aN (dL (aF 1 bH (aA (aB 0) aH))) mV
noncomputable def pq : aP -> Option DFlow := (aN (dL (aF 1 bH (aA (aB 0) aH))) (aN (af 1 (az (bd (aA (bh aH) aH)))) (aN (cf (bp (aA (d2 bS (aB 0) (dC (.int 0))) aH)) (gN 2) (aN (cL 3 (bd aH)) (aN (cf (bB (aB 1)) (gN 4) (hG 3 (az (ag 1 [("code", 4)] (bp (aA (d2 bS (aB 0) (dC (.int 1))) aH)) (gN 0) cR (d2 bL (aB 1) (bh (aA (aB 0) aH))))))) (j3 3 (af 1 (aB 3)))))) (ac (aB 1)))))
theorem qf : pq = mW := rfl
noncomputable def eN : List PyData -> Option PyData := bQ 5 pq
noncomputable def mX : aP -> Option DFlow := (ac (aF 2 bw (aA (aF 1 eN (aA (aB 0) aH)) (aA (aB 1) aH))))
noncomputable def mY : aP -> Option DFlow := aN (dL (aF 2 bW (aA (aB 0) (aA (aB 1) aH)))) mX
noncomputable def mZ : aP -> Option DFlow := aN (dL (aF 1 bH (aA (aB 0) aH))) mY
noncomputable def pw : aP -> Option DFlow := (aN (dL (aF 1 bH (aA (aB 0) aH))) (aN (dL (aF 2 bW (aA (aB 0) (aA (aB 1) aH)))) (ac (aF 2 bw (aA (aF 1 eN (aA (aB 0) aH)) (aA (aB 1) aH))))))
theorem qg : pw = mZ := rfl
noncomputable def eO : List PyData -> Option PyData := bQ 2 pw
noncomputable def BE : aP -> Option DFlow := (ac (d2 jW (aF 2 eO (aA (aB 1) (aA (aB 9) aH))) (aB 10)))
noncomputable def pz : aP -> Option DFlow := aN (af 10 (ai gY (aA (az (ag 1 [("_law_places", 3), ("_law_colours", 4)] (bB (aF 2 cY (aA (aB 1) (aA (aB 2) aH)))) (gN 0) cR (aF 3 bc (aA (aB 0) (aA (aB 1) (aA (aB 2) aH)))))) aH))) BE
noncomputable def qA : aP -> Option DFlow := aN (eA (dB (d2 tP (aB 9) (az (ag 2 [("_law_places", 3), ("_law_colours", 4)] (bB (aB 2)) (gT 2 (gC (gN 0) (gC (gN 1) gZ))) cR (bh (aA (aF 3 bc (aA (aB 0) (aA (aB 2) (aA (aB 3) aH)))) (aA (aB 1) aH))))))) (ac (dC (.bool false))) av) pz
noncomputable def nJ : aP -> Option DFlow := aN (af 9 (aF 4 bY (aA (aB 1) (aA (az (dE (aA (aB 2) aH))) (aA (aB 3) (aA (aB 4) aH)))))) qA
noncomputable def jD : aP -> Option DFlow := aN (eA (dB (d2 jW (d2 oB (aF 2 aX (aA (aB 0) (aA (dC (.int 0)) aH))) (dC (.int 4))) (dC (.int 3)))) (aN (cL 5 (bd (aA (aB 3) (aA (aB 4) aH)))) (aN (af 6 (d2 oB (aF 2 aX (aA (aB 0) (aA (dC (.int 1)) aH))) (dC (.int 2)))) (aN (af 7 (qW 5 (aB 6))) (aN (af 8 (az (bd (aA (dC .none) (aA (az (dE (aA (aB 7) aH))) (aA (d2 bL (aB 7) (bh (aA (ai cz (aA (aB 7) aH)) aH))) (aA (Be (aB 7) (kJ (dC (.int 1))) gJ) (aA (d2 bL (Be (aB 7) (kJ (dC (.int 1))) gJ) (bh (aA (ai cz (aA (aB 7) aH)) aH))) (aA (d2 uV (bh (aA (dC (.int 0)) aH)) (d2 bL (ai cz (aA (aB 7) aH)) (dC (.int 1)))) (aA (dC (.str (PySem.Str.ofString "01"))) (aA (bh (aA (dC .none) aH)) aH))))))))))) (aN (fS 5 (aB 6) (d2 bS (d2 bL (aB 8) (az (bd (aA (d2 bL (Be (aB 7) (kJ (dC (.int 1))) gJ) (bh (aA (dC (.str (PySem.Str.ofString "0"))) aH))) aH)))) (d2 oB (aF 2 aX (aA (aB 0) (aA (dC (.int 1)) aH))) (dC (.int 9))))) (ac (d2 jW (aF 4 bY (aA (aB 1) (aA (aB 2) (aA (qW 5 (dC (.int 0))) (aA (qW 5 (dC (.int 1))) aH))))) (az (bd (aA (dC (.bool true)) (aA (dC (.bool true)) aH))))))))))) av) nJ
noncomputable def BF : aP -> Option DFlow := aN (af 4 (aF 2 cV (aA (aF 2 aX (aA (aB 0) (aA (dC (.int 1)) aH))) (aA (d2 bS (aB 1) (dC (.int 1))) aH)))) jD
noncomputable def BG : aP -> Option DFlow := aN (af 3 (aF 2 cV (aA (aF 2 aX (aA (aB 0) (aA (dC (.int 0)) aH))) (aA (d2 bS (aB 1) (dC (.int 0))) aH)))) BF
noncomputable def BH : aP -> Option DFlow := aN (af 2 (az (jw 3 d6 (aA (aB 0) (aA (dC (.int 3)) (aA (aB 1) aH)))))) BG
noncomputable def wG : aP -> Option DFlow := aN (af 1 (aF 2 dG (aA (aB 0) (aA (dC (.int 2)) aH)))) BH
noncomputable def Ea : aP -> Option DFlow := (aN (af 1 (aF 2 dG (aA (aB 0) (aA (dC (.int 2)) aH)))) (aN (af 2 (az (jw 3 d6 (aA (aB 0) (aA (dC (.int 3)) (aA (aB 1) aH)))))) (aN (af 3 (aF 2 cV (aA (aF 2 aX (aA (aB 0) (aA (dC (.int 0)) aH))) (aA (d2 bS (aB 1) (dC (.int 0))) aH)))) (aN (af 4 (aF 2 cV (aA (aF 2 aX (aA (aB 0) (aA (dC (.int 1)) aH))) (aA (d2 bS (aB 1) (dC (.int 1))) aH)))) (aN (eA (dB (d2 jW (d2 oB (aF 2 aX (aA (aB 0) (aA (dC (.int 0)) aH))) (dC (.int 4))) (dC (.int 3)))) (aN (cL 5 (bd (aA (aB 3) (aA (aB 4) aH)))) (aN (af 6 (d2 oB (aF 2 aX (aA (aB 0) (aA (dC (.int 1)) aH))) (dC (.int 2)))) (aN (af 7 (qW 5 (aB 6))) (aN (af 8 (az (bd (aA (dC .none) (aA (az (dE (aA (aB 7) aH))) (aA (d2 bL (aB 7) (bh (aA (ai cz (aA (aB 7) aH)) aH))) (aA (Be (aB 7) (kJ (dC (.int 1))) gJ) (aA (d2 bL (Be (aB 7) (kJ (dC (.int 1))) gJ) (bh (aA (ai cz (aA (aB 7) aH)) aH))) (aA (d2 uV (bh (aA (dC (.int 0)) aH)) (d2 bL (ai cz (aA (aB 7) aH)) (dC (.int 1)))) (aA (dC (.str (PySem.Str.ofString "01"))) (aA (bh (aA (dC .none) aH)) aH))))))))))) (aN (fS 5 (aB 6) (d2 bS (d2 bL (aB 8) (az (bd (aA (d2 bL (Be (aB 7) (kJ (dC (.int 1))) gJ) (bh (aA (dC (.str (PySem.Str.ofString "0"))) aH))) aH)))) (d2 oB (aF 2 aX (aA (aB 0) (aA (dC (.int 1)) aH))) (dC (.int 9))))) (ac (d2 jW (aF 4 bY (aA (aB 1) (aA (aB 2) (aA (qW 5 (dC (.int 0))) (aA (qW 5 (dC (.int 1))) aH))))) (az (bd (aA (dC (.bool true)) (aA (dC (.bool true)) aH))))))))))) av) (aN (af 9 (aF 4 bY (aA (aB 1) (aA (az (dE (aA (aB 2) aH))) (aA (aB 3) (aA (aB 4) aH)))))) (aN (eA (dB (d2 tP (aB 9) (az (ag 2 [("_law_places", 3), ("_law_colours", 4)] (bB (aB 2)) (gT 2 (gC (gN 0) (gC (gN 1) gZ))) cR (bh (aA (aF 3 bc (aA (aB 0) (aA (aB 2) (aA (aB 3) aH)))) (aA (aB 1) aH))))))) (ac (dC (.bool false))) av) (aN (af 10 (ai gY (aA (az (ag 1 [("_law_places", 3), ("_law_colours", 4)] (bB (aF 2 cY (aA (aB 1) (aA (aB 2) aH)))) (gN 0) cR (aF 3 bc (aA (aB 0) (aA (aB 1) (aA (aB 2) aH)))))) aH))) (ac (d2 jW (aF 2 eO (aA (aB 1) (aA (aB 9) aH))) (aB 10)))))))))))
theorem Cm : Ea = wG := rfl
noncomputable def BI : List PyData -> Option PyData := bQ 11 Ea
noncomputable def cB : List (Int × Int) := [(2, 3), (3, 2), (3, 3), (2, 4), (4, 2), (1, 5), (2, 5), (3, 4), (4, 3)]
theorem u0 {p c : Int} (h : (p, c) ∈ cB) : (p = 2 /\ c = 3) \/ (p = 3 /\ c = 2) \/ (p = 3 /\ c = 3) \/ (p = 2 /\ c = 4) \/ (p = 4 /\ c = 2) \/ (p = 1 /\ c = 5) \/ (p = 2 /\ c = 5) \/ (p = 3 /\ c = 4) \/ (p = 4 /\ c = 3) := by
 simpa [cB] using h
theorem dH {p c : Int} (h : (p, c) ∈ cB) : 1 <= p /\ p <= 4 /\ 2 <= c /\ c <= 5 := by
 rcases u0 h with ⟨rfl, rfl⟩ | ⟨rfl, rfl⟩ | ⟨rfl, rfl⟩ | ⟨rfl, rfl⟩ | ⟨rfl, rfl⟩ | ⟨rfl, rfl⟩ | ⟨rfl, rfl⟩ | ⟨rfl, rfl⟩ | ⟨rfl, rfl⟩ <;> decide
noncomputable def gQ (x p m : Int) : Int := x * 48271 % p % m
theorem jE (x : Int) {y : Int} (h : -1000000000000 <= y /\ y <= 1000000000000) : j4 x y = true := by
 unfold j4
 rw [decide_eq_true h.1, decide_eq_true h.2]
 simp
theorem iX {x : Int} (y : Int) (h : -1000000000000 <= x /\ x <= 1000000000000) : j4 x y = true := by
 unfold j4
 rw [decide_eq_true h.1, decide_eq_true h.2]
 simp
theorem sv (x : Int) {p m : Int} (hp : 0 < p) (hm : 0 < m) : aq [.int x, .int p, .int m] = some (.int (gQ x p m)) := by
 have c1 : j4 x 48271 = true := jE x (by omega)
 have c2 : sO (x * 48271) p = true := decide_eq_true hp
 have c3 : sO (x * 48271 % p) m = true := decide_eq_true hm
 simp only [aq, sr, nh, bQ, eY, ac, aB, dC, d2, bn, pJ, sW, zI, zL, zC, zH, Q4, zA, zB, List.replicate, zD, zG, Nat.reduceAdd, Nat.reduceSub, ↓reduceIte, c1, c2, c3, gQ]
theorem qB (x : Int) {p m : Int} (hm : 0 < m) : 0 <= gQ x p m /\ gQ x p m < m := ⟨Int.emod_nonneg _ (by omega), Int.emod_lt_of_pos _ hm⟩
noncomputable def bg (ns : List Int) (k : Nat) : Int := ns.getD k 0
theorem jF (ns : List Int) (k : Nat) : aX [iO ns, .int (k : Nat)] = some (.int (bg ns k)) := by
 by_cases h : k < ns.length
 · have d : decide ((k : Int) < (ns.length : Nat)) = true := decide_eq_true (by omega)
   simp only [aX, kM, iw, iu, bQ, eY, aN, eA, ac, aB, dC, d2, ai, aH, aA, dB, av, bn, cz, D0, zI, zL, zC, zH, Q4, zA, zB, List.replicate, zD, zG, Nat.reduceAdd, Nat.reduceSub, ↓reduceIte, pK, d, CT, pL h, bg]
   rw [jX, fI h]
   rfl
 · have d : decide ((k : Int) < (ns.length : Nat)) = false := decide_eq_false (by omega)
   simp only [aX, kM, iw, iu, bQ, eY, aN, eA, ac, aB, dC, d2, ai, aH, aA, dB, av, bn, cz, D0, zI, zL, zC, zH, Q4, zA, zB, List.replicate, zD, zG, Nat.reduceAdd, Nat.reduceSub, ↓reduceIte, zN, pK, d, bg]
   rw [jX, List.getElem?_eq_none (by omega)]
   rfl
theorem GU {m : Int} (h : 0 <= m /\ m < 9) : m = 0 \/ m = 1 \/ m = 2 \/ m = 3 \/ m = 4 \/ m = 5 \/ m = 6 \/ m = 7 \/ m = 8 := by omega
noncomputable def wH : List PyData := [aM [2, 3], aM [3, 2], aM [3, 3], aM [2, 4], aM [4, 2], aM [1, 5], aM [2, 5], aM [3, 4], aM [4, 3], aM [5, 2], aM [2, 8], aM [1, 1], aM [2, 2]]
theorem dw (n : Nat) (h : n <= 1000 := by decide) : n <= fH := Qf h (by decide)
theorem Cn (ns : List Int) (hl : ns.length <= 63) (k : Nat) : dG [iO ns, .int (k : Nat)] = nW wH (gQ (bg ns k) 9973 9) := by
 have d : decide ((63 : Int) < (ns.length : Nat)) = false := decide_eq_false (by omega)
 have l2 : (2 : Nat) <= fH := dw 2
 have l13 : (13 : Nat) <= fH := dw 13
 simp only [dG, qY, mB, lz, ly, lx, uJ,  bQ, eY, aN, eA, af, ac, aB, dC, d2, ai, aF, aH, aA, bd, az, dB, av, cz, D4, zI, zL, zC, zH, Q7, Qe, zA, zB, zE, zF, List.replicate, zD, zG, Nat.reduceAdd, Nat.reduceSub, ↓reduceIte, zN, l13, pK, d, jF, sv _ (show (0 : Int) < 9973 by decide) (show (0 : Int) < 9 by decide), bS]
 generalize gQ (bg ns k) 9973 9 = m
 show ((nW wH m).map DFlow.rt).bind bn = _
 cases nW wH m <;> rfl
theorem Co (ns : List Int) (hl : ns.length <= 63) (k : Nat) : ∃ p c, dG [iO ns, .int (k : Nat)] = some (aM [p, c]) /\ (p, c) ∈ cB := by
 rw [Cn ns hl k]
 rcases GU (qB (bg ns k) (p := 9973) (show (0 : Int) < 9 by decide)) with h | h | h | h | h | h | h | h | h <;> rw [h]
 · exact ⟨2, 3, rfl, by decide⟩
 · exact ⟨3, 2, rfl, by decide⟩
 · exact ⟨3, 3, rfl, by decide⟩
 · exact ⟨2, 4, rfl, by decide⟩
 · exact ⟨4, 2, rfl, by decide⟩
 · exact ⟨1, 5, rfl, by decide⟩
 · exact ⟨2, 5, rfl, by decide⟩
 · exact ⟨3, 4, rfl, by decide⟩
 · exact ⟨4, 3, rfl, by decide⟩
structure Code (p c : Int) (a : List Int) : Prop where
 len : (a.length : Int) = p
 all : ∀ n ∈ a, 0 <= n /\ n <= c - 1
noncomputable def rW (p c x : Int) : List Int := (List.range p.toNat).map λ i : Nat => gQ (x + 31 * (i : Int) * (i : Int) + 7 * (i : Int)) 9967 c
theorem qC {p c : Int} (h : (p, c) ∈ cB) (x : Int) : Code p c (rW p c x) := by
 have b := dH h
 refine ⟨by simp [rW]; omega, λ n hn => ?_⟩
 obtain ⟨i, _, rfl⟩ := Qc.mp hn
 have := qB (x + 31 * (i : Int) * (i : Int) + 7 * (i : Int)) (p := 9967) (m := c) (by omega)
 omega
theorem Cp {p c : Int} (h : (p, c) ∈ cB) (x : Int) : cH [aM [p, c], .int x] = some (aM (rW p c x)) := by
 have b := dH h
 have m9 : ∀ y, aq [.int y, .int 9967, .int c] = some (.int (gQ y 9967 c)) := λ y => sv y (by decide) (by omega)
 have sm : nA p = true := by
  unfold nA
  rw [decide_eq_true (show -1000000000 <= p by omega), decide_eq_true (show p <= 1000000000 by omega)]; rfl
 have len : ((List.range p.toNat).map λ k : Nat => PyData.int (0 + (k : Int))).length = p.toNat := by simp
 have i0 : bS (.tuple [.int p, .int c]) (.int 0) = some (.int p) := rfl
 have i1 : bS (.tuple [.int p, .int c]) (.int 1) = some (.int c) := rfl
 obtain ⟨δ', e1, v, e2⟩ := cT (fg := (gN 3)) (fb := (cE 2 (aF 3 aq (aA (d2 bL (d2 bL (aB 1) (d2 fC (d2 fC (dC (.int 31)) (aB 3)) (aB 3))) (d2 fC (dC (.int 7)) (aB 3))) (aA (dC (.int 9967)) (aA (d2 bS (aB 0) (dC (.int 1))) aH))))))
  (ds := au 0 p.toNat) (δ := [some (.fz (.tuple [.int p, .int c])), some (.fz (.int x)), some (.ow []), none])
  (λ i δ => ∃ v, δ = [some (.fz (.tuple [.int p, .int c])), some (.fz (.int x)), some (.ow (((List.range i).map λ i : Nat => gQ (x + 31 * (i : Int) * (i : Int) + 7 * (i : Int)) 9967 c).map PyData.int)), v]) ⟨none, rfl⟩ (by
   rintro i hi δ ⟨v, rfl⟩
   have hi' : i < p.toNat := by simpa [au] using hi
   have ei : (au 0 p.toNat)[i] = .int (i : Nat) := by simp [au]
   have q1 : j4 31 (i : Int) = true := iX _ (by omega)
   have q2 : j4 (31 * (i : Int)) (i : Int) = true := jE _ (by omega)
   have q3 : j4 7 (i : Int) = true := iX _ (by omega)
   have q4 : (((List.range i).map λ i : Nat => gQ (x + 31 * (i : Int) * (i : Int) + 7 * (i : Int)) 9967 c).map PyData.int).length < fH := by
    rw [zJ, zJ, Db]
    exact jn (show i < 1000 by omega) (by decide)
   refine ⟨_, [some (.fz (.tuple [.int p, .int c])), some (.fz (.int x)), some (.ow (((List.range (i + 1)).map λ i : Nat => gQ (x + 31 * (i : Int) * (i : Int) + 7 * (i : Int)) 9967 c).map PyData.int)), some (.fz (.int (i : Nat)))], rfl, ?_, _, rfl⟩
   rw [ei]
   simp only [cE, aB, dC, d2, aF, aH, aA, pJ, iI, zC, zH, zA, zB, zE, zF, zD, Nat.reduceAdd, ↓reduceIte, q1, q2, q3, q4, i1, m9]
   rw [List.range_succ, Bc, Bc]
   rfl)
 have len2 : (au 0 p.toNat).length = p.toNat := by simp [au]
 rw [len2] at e2
 subst e2
 have z : (0 : Nat) <= fH := zU _
 simp only [cH, qZ, mE, mD, mC, aM, bQ, eY, aN, cL, ac, j3, cf, aB, dC, d2, ai, aH, aA, bd, bp, DL.frz, bn, lX, zI, zL, zC, zH, Q7, Qe, zA, zB, zE, zF, List.replicate, zD, zG, Nat.reduceAdd, Nat.reduceSub, ↓reduceIte, z, i0, sm, e1]
 rfl
theorem Cq (b : List Int) {i : Nat} (h : i < b.length) : (b.map PyData.int)[i]? = some (.int b[i]) := by rw [zK, fI h]; rfl
theorem Et (a : List Int) {i : Nat} (h : i < a.length) : bS (.tuple (a.map PyData.int)) (.int (i : Nat)) = some (.int a[i]) := by
 show nW (a.map PyData.int) (i : Int) = _
 rw [wx, pL h]; rfl
theorem sw {a b : List Int} (l : a.length = b.length) (lim : a.length <= 100) : eM [aM a, aM b] = some (aM (GC.qQ a b)) := by
 obtain ⟨δ', e1, v1, v2, e2⟩ := cT (fg := (gT 2 (gC (gN 5) (gC (gN 6) gZ)))) (fb := (aN (eA (dB (d2 jW (d2 bS (aB 0) (aB 5)) (aB 6))) (oA 2 nZ (dC (.int 1))) av) (eA (dB (lY false 4 (aB 6))) (aN (dS 4 (aB 6)) (oA 3 nZ (dC (.int 1)))) av))) (ds := fA (b.map PyData.int))
  (δ := [some (.fz (.tuple (a.map PyData.int))), some (.fz (.tuple (b.map PyData.int))), some (.fz (.int 0)), some (.fz (.int 0)), some (.ow (a.map PyData.int)), none, none])
  (λ i δ => ∃ v1 v2, δ = [some (.fz (.tuple (a.map PyData.int))), some (.fz (.tuple (b.map PyData.int))), some (.fz (.int (GC.jt (a.take i) (b.take i) : Nat))), some (.fz (.int (GC.am a (b.take i) : Nat))), some (.ow ((GC.left a (b.take i)).map PyData.int)), v1, v2]) ⟨none, none, rfl⟩ (by
   rintro i hi δ ⟨v1, v2, rfl⟩
   have hi' : i < b.length := by simpa [fA] using hi
   have hia : i < a.length := by omega
   have ed : (fA (b.map PyData.int))[i] = .tuple [.int (i : Nat), .int b[i]] := by
    have := fI hi
    obtain ⟨e, h1, h2⟩ := jv this
    rw [Cq b hi'] at h1
    cases h1
    exact h2
   have et : (a.take i).length = (b.take i).length := by rw [vC, vC]; omega
   have er : GC.jt (a.take (i + 1)) (b.take (i + 1)) = GC.jt (a.take i) (b.take i) + if a[i] = b[i] then 1 else 0 := by rw [GC.cM hia, GC.cM hi', GC.oy _ _ _ _ et]
   have ei : GC.am a (b.take (i + 1)) = GC.am a (b.take i) + if b[i] ∈ GC.left a (b.take i) then 1 else 0 := by rw [GC.cM hi', GC.il]
   have eL : GC.left a (b.take (i + 1)) = if b[i] ∈ GC.left a (b.take i) then (GC.left a (b.take i)).erase b[i] else GC.left a (b.take i) := by rw [GC.cM hi', GC.jr]
   rw [ed]
   refine ⟨_, _, rfl, ?_, some (.fz (.int (i : Nat))), some (.fz (.int b[i])), rfl⟩
   rw [er, ei, eL]
   by_cases c1 : a[i] = b[i] <;> by_cases c2 : b[i] ∈ GC.left a (b.take i)
   · simp only [aN, eA, oA, dS, aB, dC, d2, dB, av, lY, oP, zA, zB, zE, zF, zD, zG, ↓reduceIte, zN, Et a hia, eG, br, if_pos c1, if_pos c2, decide_eq_true c1, decide_eq_true c2]
     rfl
   · simp only [aN, eA, oA, dS, aB, dC, d2, dB, av, lY, oP, zA, zB, zE, zF, zD, Option.bind_none, zG, ↓reduceIte, zN, Et a hia, eG, br, if_pos c1, if_neg c2, decide_eq_true c1, decide_eq_false c2]
     rfl
   · simp only [aN, eA, oA, dS, aB, dC, d2, dB, av, lY, oP, zA, zB, zE, zF, zD, zG, ↓reduceIte, zN, Et a hia, eG, br, if_neg c1, if_pos c2, decide_eq_false c1, decide_eq_true c2]
     rfl
   · simp only [aN, eA, oA, dS, aB, dC, d2, dB, av, lY, oP, zA, zB, zE, zF, zD, Option.bind_none, zG, ↓reduceIte, zN, Et a hia, eG, br, if_neg c1, if_neg c2, decide_eq_false c1, decide_eq_false c2]
     rfl)
 have len2 : (fA (b.map PyData.int)).length = b.length := by simp [fA]
 have e0 : a.take b.length = a := by rw [<- l, Bj]
 rw [len2, Bj, e0] at e2
 subst e2
 have z : (2 : Nat) <= fH := dw 2
 simp only [eM, qe, mS, mR, mQ, mP, mO, aM, bQ, eY, aN, af, cL, ac, cf, aB, dC, d2, aH, aA, bh, iQ, Bd, bn, dE, vd, zI, zL, zC, zH, Q7, Qe, zA, zB, zE, zF, List.replicate, zD, zG, Nat.reduceAdd, Nat.reduceSub, ↓reduceIte, z, e1]
 rfl
theorem kb {a b : List Int} (l : a.length = b.length) (lim : a.length <= 100) : bM [aM a, aM b] = some (aM (GC.ee a b)) := by
 obtain ⟨δ1, e1, v1, v2, e2⟩ := cT (fg := (gT 2 (gC (gN 5) (gC (gN 6) gZ)))) (fb := (eA (dB (d2 jW (aB 5) (aB 6))) (af 2 (d2 bL (aB 2) (dC (.int 1)))) (aN (cE 3 (aB 5)) (cE 4 (aB 6))))) (ds := pG (a.map PyData.int) (b.map PyData.int))
  (δ := [some (.fz (.tuple (a.map PyData.int))), some (.fz (.tuple (b.map PyData.int))), some (.fz (.int 0)), some (.ow []), some (.ow []), none, none, none, none])
  (λ i δ => ∃ v1 v2, δ = [some (.fz (.tuple (a.map PyData.int))), some (.fz (.tuple (b.map PyData.int))), some (.fz (.int (GC.jt (a.take i) (b.take i) : Nat))), some (.ow ((GC.bj (a.take i) (b.take i)).map PyData.int)), some (.ow ((GC.cw (a.take i) (b.take i)).map PyData.int)), v1, v2, none, none]) ⟨none, none, rfl⟩ (by
   rintro i hi δ ⟨v1, v2, rfl⟩
   have hi' : i < b.length := by simpa [pG, l] using hi
   have hia : i < a.length := by omega
   have ed : (pG (a.map PyData.int) (b.map PyData.int))[i] = .tuple [.int a[i], .int b[i]] := by
    have := fI hi
    obtain ⟨x, y, h1, h2, h3⟩ := tw this
    rw [Cq a hia] at h1
    rw [Cq b hi'] at h2
    cases h1
    cases h2
    exact h3
   have et : (a.take i).length = (b.take i).length := by rw [vC, vC]; omega
   have er : GC.jt (a.take (i + 1)) (b.take (i + 1)) = GC.jt (a.take i) (b.take i) + if a[i] = b[i] then 1 else 0 := by rw [GC.cM hia, GC.cM hi', GC.oy _ _ _ _ et]
   have em : GC.bj (a.take (i + 1)) (b.take (i + 1)) = GC.bj (a.take i) (b.take i) ++ if a[i] = b[i] then [] else [a[i]] := by rw [GC.cM hia, GC.cM hi', GC.rC _ _ _ _ et]
   have eT : GC.cw (a.take (i + 1)) (b.take (i + 1)) = GC.cw (a.take i) (b.take i) ++ if a[i] = b[i] then [] else [b[i]] := by rw [GC.cM hia, GC.cM hi', GC.rE _ _ _ _ et]
   have ml := GC.pA (a.take i) (b.take i) et
   have tl := GC.pB (a.take i) (b.take i) et
   have al : (a.take i).length <= 100 := by rw [vC]; omega
   have q1 : ((GC.bj (a.take i) (b.take i)).map PyData.int).length < fH := by rw [zJ]; exact jn (show _ < 1000 by omega) (by decide)
   have q2 : ((GC.cw (a.take i) (b.take i)).map PyData.int).length < fH := by rw [zJ]; exact jn (show _ < 1000 by omega) (by decide)
   rw [ed]
   refine ⟨_, _, rfl, ?_, some (.fz (.int a[i])), some (.fz (.int b[i])), rfl⟩
   rw [er, em, eT]
   by_cases c1 : a[i] = b[i]
   · simp only [aN, eA, af, cE, aB, dC, d2, dB, iI, Q4, zA, zB, zE, zF, zD, zG, ↓reduceIte, eG, if_pos c1, decide_eq_true c1]
     rfl
   · simp only [aN, eA, af, cE, aB, dC, d2, dB, iI, zA, zB, zE, zF, zD, zG, ↓reduceIte, zN, eG, if_neg c1, decide_eq_false c1, q1, q2]
     rw [Bc, Bc]
     rfl)
 have len2 : (pG (a.map PyData.int) (b.map PyData.int)).length = b.length := by simp [pG, l]
 have e0 : a.take b.length = a := by rw [<- l, Bj]
 rw [len2, Bj, e0] at e2
 subst e2
 obtain ⟨δ2, f1, w1, f2⟩ := cT (fg := (gN 8)) (fb := (eA (dB (lY false 4 (aB 8))) (aN (dS 4 (aB 8)) (af 7 (d2 bL (aB 7) (dC (.int 1))))) av)) (ds := (GC.bj a b).map PyData.int)
  (δ := [some (.fz (.tuple (a.map PyData.int))), some (.fz (.tuple (b.map PyData.int))), some (.fz (.int (GC.jt a b : Nat))), some (.fz (.list ((GC.bj a b).map PyData.int))), some (.ow ((GC.cw a b).map PyData.int)), v1, v2, some (.fz (.int 0)), none])
  (λ i δ => ∃ w1, δ = [some (.fz (.tuple (a.map PyData.int))), some (.fz (.tuple (b.map PyData.int))), some (.fz (.int (GC.jt a b : Nat))), some (.fz (.list ((GC.bj a b).map PyData.int))), some (.ow ((GC.left (GC.cw a b) ((GC.bj a b).take i)).map PyData.int)), v1, v2, some (.fz (.int (GC.am (GC.cw a b) ((GC.bj a b).take i) : Nat))), w1]) ⟨none, rfl⟩ (by
   rintro i hi δ ⟨w1, rfl⟩
   have hi' : i < (GC.bj a b).length := by simpa using hi
   have ei : GC.am (GC.cw a b) ((GC.bj a b).take (i + 1)) = GC.am (GC.cw a b) ((GC.bj a b).take i) + if (GC.bj a b)[i] ∈ GC.left (GC.cw a b) ((GC.bj a b).take i) then 1 else 0 := by rw [GC.cM hi', GC.il]
   have eL : GC.left (GC.cw a b) ((GC.bj a b).take (i + 1)) = if (GC.bj a b)[i] ∈ GC.left (GC.cw a b) ((GC.bj a b).take i) then (GC.left (GC.cw a b) ((GC.bj a b).take i)).erase (GC.bj a b)[i] else GC.left (GC.cw a b) ((GC.bj a b).take i) := by rw [GC.cM hi', GC.jr]
   have ed : ((GC.bj a b).map PyData.int)[i] = .int (GC.bj a b)[i] := by simp
   rw [ed]
   refine ⟨_, _, rfl, ?_, some (.fz (.int (GC.bj a b)[i])), rfl⟩
   rw [ei, eL]
   by_cases c2 : (GC.bj a b)[i] ∈ GC.left (GC.cw a b) ((GC.bj a b).take i)
   · simp only [aN, eA, af, dS, aB, dC, d2, dB, av, lY, iI, zA, zB, zE, zF, zD, zG, ↓reduceIte, zN, br, if_pos c2, decide_eq_true c2]
     rfl
   · simp only [aN, eA, af, dS, aB, dC, d2, dB, av, lY, zA, zB, zE, zF, zD, Option.bind_none, ↓reduceIte, zN, br, if_neg c2, decide_eq_false c2]
     rfl)
 rw [zJ, Bj] at f2
 subst f2
 have z : (2 : Nat) <= fH := dw 2
 have z0 : (0 : Nat) <= fH := zU _
 have hl : (a.map PyData.int).length = (b.map PyData.int).length := by simp [l]
 simp only [bM, oD, jf, je, jd, jc, jb, ja, j9, aM, bQ, eY, aN, af, cL, ac, j3, cf, aB, dC, aH, aA, bh, bd, bB, iQ, CK, DL.frz, bn, zI, zL, zC, zH, Q7, Qe, zA, zB, zE, zF, List.replicate, zD, zG, Nat.reduceAdd, Nat.reduceSub, ↓reduceIte, z, z0, hl, e1, f1]
 rfl
theorem nK (n lo hi : Int) : aT [.int n, .int lo, .int hi] = some (.bool (decide (lo <= n) && decide (n <= hi))) := by
 by_cases h : lo <= n
 · simp only [aT, cW, cA, bQ, eY, ac, aB, dB, cQ, pD, bn, fR, A3, A4, D3, ko, zI, zL, zC, zH, Q4, zA, zB, List.replicate, zD, zG, Nat.reduceAdd, Nat.reduceSub, ↓reduceIte, yr, Bool.true_and, decide_eq_true h]
 · simp only [aT, cW, cA, bQ, eY, ac, aB, dB, cQ, pD, bn, fR, A3, A4, D3, ko, zI, zL, zC, zH, Q4, zA, zB, List.replicate, zD, zG, Nat.reduceAdd, Nat.reduceSub, ↓reduceIte, yr, Bool.false_and, decide_eq_false h]
theorem eJ {p c : Int} (h : (p, c) ∈ cB) : bH [aM [p, c]] = some (aM [p, c]) := by
 rcases u0 h with ⟨rfl, rfl⟩ | ⟨rfl, rfl⟩ | ⟨rfl, rfl⟩ | ⟨rfl, rfl⟩ | ⟨rfl, rfl⟩ | ⟨rfl, rfl⟩ | ⟨rfl, rfl⟩ | ⟨rfl, rfl⟩ | ⟨rfl, rfl⟩ <;> rfl
theorem wI {p c : Int} (h : (p, c) ∈ cB) {a : List Int} (ca : Code p c a) : gu [aM [p, c], aM a] = some (.bool true) := by
 have b := dH h
 have i0 : bS (.tuple [.int p, .int c]) (.int 0) = some (.int p) := rfl
 have i1 : bS (.tuple [.int p, .int c]) (.int 1) = some (.int c) := rfl
 have e0 : decide (((a.map PyData.int).length : Int) = p) = true := decide_eq_true (by rw [zJ]; exact ca.len)
 have al := ca.len
 have l1 : (a.map PyData.int).length <= fH := by rw [zJ]; exact Qf (show _ <= 1000 by omega) (by decide)
 have mm : (ag 1 [("game", 0)] (bB (aB 1)) (gN 0) cR (aF 3 aT (aA (aB 0) (aA (dC (.int 0)) (aA (d2 qV (d2 bS (aB 1) (dC (.int 1))) (dC (.int 1))) aH))))) [some (.fz (.tuple [.int p, .int c])), some (.fz (.tuple (a.map PyData.int)))] = some ((a.map PyData.int).map λ _ => .bool true) := by
  refine dF _ rfl l1 λ d hd => ?_
  obtain ⟨n, hn, rfl⟩ := Qc.mp hd
  have q := ca.all n hn
  simp only [aB, dC, d2, aF, aH, aA, fK, cR, gN, vd, zI, zL, zC, zH, Q7, Qe, zA, zB, zE, List.replicate, zD, zG, Nat.reduceAdd, ↓reduceIte, Bool.and_true, i1, nK, decide_eq_true q.1, decide_eq_true q.2]
 have bs : kq ((a.map PyData.int).map λ _ => PyData.bool true) = some ((a.map PyData.int).map λ _ => true) := by
  rw [show ((a.map PyData.int).map λ _ => PyData.bool true) = ((a.map PyData.int).map λ _ => true).map PyData.bool by simp]
  exact gr _
 have al2 : ((a.map PyData.int).map λ _ => true).all id = true := by simp
 simp only [gu, uY, pc, pb, aM, bQ, eY, aN, eA, ac, aB, dC, d2, ai, aH, aA, az, dB, dJ, kF, bx, kG, av, bn, fR, nC, cz, n9, oC, zI, zL, zC, zH, Q4, zA, zB, List.replicate, zD, zG, Nat.reduceAdd, Nat.reduceSub, ↓reduceIte, wb, zN, i0, oO, e0, mm, bs, al2]
theorem BJ {a : List Int} {t : Int} (t0 : 0 <= t) (t1 : t <= a.length) : sQ (a.map PyData.int) (some t) none = (a.drop t.toNat).map PyData.int := by
 have s1 : HT.eS a.length 0 (some t) = t.toNat := by
  show (if t < 0 then (t + (a.length : Int)).toNat else min t.toNat a.length) = t.toNat
  rw [if_neg (by omega)]; omega
 unfold sQ
 rw [zJ, s1, HT.zd, <- List.map_drop, <- List.map_take, List.take_of_length_le (by rw [DD]; omega)]
noncomputable def ext (c : Nat) (a : List Int) : List (List Int) := (List.range c).map λ k : Nat => a ++ [(k : Int)]
noncomputable def aa (c : Nat) : Nat -> List (List Int)
 | 0 => [[]]
 | n + 1 => (aa c n).flatMap (ext c)
noncomputable def bt (p c : Int) : List (List Int) := aa c.toNat p.toNat
noncomputable def cv (cs : List (List Int)) : PyData := .list (cs.map aM)
theorem sx (c : Nat) (a : List Int) : (ext c a).length = c := by simp [ext]
theorem m7 (c : Nat) : ∀ l : List (List Int), (l.flatMap (ext c)).length = l.length * c
 | [] => by simp
 | a :: r => by rw [List.flatMap_cons, zQ, sx, m7 c r, zC, Nat.succ_mul]; omega
theorem fV (c : Nat) : ∀ n, (aa c n).length = c ^ n
 | 0 => rfl
 | n + 1 => by rw [aa, m7, fV c n, Nat.pow_succ]
theorem nL {c n : Nat} (hc : c <= 5) (hn : n <= 4) : c ^ n <= 625 := by
 refine Qf (Nat.pow_le_pow_left hc n) (Qf (Nat.pow_le_pow_right (by decide) hn) (by decide))
theorem jG (c : Nat) : ∀ n a, a ∈ aa c n -> a.length = n /\ ∀ x ∈ a, 0 <= x /\ x < (c : Int)
 | 0, a, h => by
  have : a = [] := by simpa [aa] using h
  subst this
  exact ⟨rfl, λ x hx => by cases hx⟩
 | n + 1, a, h => by
  obtain ⟨b, hb, ha⟩ := List.mem_flatMap.mp h
  obtain ⟨k, hk, rfl⟩ := Qc.mp ha
  have hk' : k < c := by simpa using hk
  obtain ⟨l, q⟩ := jG c n b hb
  refine ⟨by simp [l], λ x hx => ?_⟩
  rcases xY.mp hx with z | z
  · exact q x z
  · have : x = (k : Int) := by simpa using z
    omega
theorem qD {p c : Int} (h : (p, c) ∈ cB) {a : List Int} (ha : a ∈ bt p c) : Code p c a := by
 have b := dH h
 obtain ⟨l, q⟩ := jG _ _ _ ha
 refine ⟨by omega, λ n hn => ?_⟩
 have := q n hn
 omega
theorem rX {p c : Int} (h : (p, c) ∈ cB) : (bt p c).length <= 625 := by
 have b := dH h
 unfold bt
 rw [fV]
 exact nL (by omega) (by omega)
theorem eQ {n : Nat} (h : n <= 1000) : n <= fH := Qf h (by decide)
theorem Cr (a : List Int) (k : Int) (ha : a.length <= 100) : bL (aM a) (.tuple [.int k]) = some (aM (a ++ [k])) := by
 have q : (a.map PyData.int).length + [PyData.int k].length <= fH := by rw [zJ]; exact eQ (by simp; omega)
 unfold aM
 rw [Bc]
 simp only [bL, q, ↓reduceIte]
 rfl
theorem gc (c : Nat) : au 0 c = (List.range c).map λ k : Nat => PyData.int (k : Int) := by
 unfold au
 apply yo
 intro k _
 rw [Int.zero_add]
theorem u6 {nm : Str} {k : Nat} {c : Nat} {a : List Int} {fi : aP -> Option (List PyData)} {δ : aP} (hi : fi δ = some (au 0 c)) (hc : c <= 100) (ha : a.length <= 100) (hk : δ[k]? = some (some (.fz (aM a)))) :
 ag 1 [(nm, k)] fi (gN 0) cR (d2 bL (aB 1) (bh (aA (aB 0) aH))) δ = some ((ext c a).map aM) := by
 rw [dF (λ d => match d with | .int k => aM (a ++ [k]) | d => d) hi (by simp [au]; exact eQ (by omega)) (λ d hd => ?_)]
 · rw [gc, zO, ext, zO]
   rfl
 · rw [gc] at hd
   obtain ⟨m, _, rfl⟩ := Qc.mp hd
   have z : (1 : Nat) <= fH := dw 1
   simp only [aB, d2, aH, aA, bh, fK, cR, gN, zI, zL, zC, zH, Q7, Qe, zA, zB, zE, List.replicate, zD, zG, Nat.reduceAdd, ↓reduceIte, hk, z, Cr a (m : Int) ha]
theorem lA {c : Int} (h0 : 0 <= c) (h1 : c <= 1000) : nA c = true := by
 unfold nA
 rw [decide_eq_true (show -1000000000 <= c by omega), decide_eq_true (show c <= 1000000000 by omega)]; rfl
theorem rY {c : Nat} {l : List (List Int)} {j : Nat} (h : j < l.length) : (l.take (j + 1)).flatMap (ext c) = (l.take j).flatMap (ext c) ++ ext c l[j] := by
 rw [Ev h, List.flatMap_append]
 simp
theorem sy {p c : Int} (h : (p, c) ∈ cB) : eN [aM [p, c]] = some (cv (bt p c)) := by
 have b := dH h
 have i0 : bS (.tuple [.int p, .int c]) (.int 0) = some (.int p) := rfl
 have i1 : bS (.tuple [.int p, .int c]) (.int 1) = some (.int c) := rfl
 have hg : bH [.tuple [.int p, .int c]] = some (.tuple [.int p, .int c]) := eJ h
 have sp := lA (c := p) (by omega) (by omega)
 have sc := lA (c := c) (by omega) (by omega)
 have z : (0 : Nat) <= fH := zU _
 have z1 : (1 : Nat) <= fH := dw 1
 have inner : ∀ (i : Nat), i < p.toNat -> ∀ v4 : Option Sl, ∃ w4, jL ((gN 4)) ((hG 3 (az (ag 1 [("code", 4)] (bp (aA (d2 bS (aB 0) (dC (.int 1))) aH)) (gN 0) cR (d2 bL (aB 1) (bh (aA (aB 0) aH))))))) ((aa c.toNat i).map aM) [some (.fz (.tuple [.int p, .int c])), some (.fz (cv (aa c.toNat i))), some (.fz (.int (i : Nat))), some (.ow []), v4] =
  some (.nx [some (.fz (.tuple [.int p, .int c])), some (.fz (cv (aa c.toNat i))), some (.fz (.int (i : Nat))), some (.ow ((aa c.toNat (i + 1)).map aM)), w4]) := by
  intro i hi v4
  obtain ⟨δ', e1, w4, e2⟩ := cT (fg := (gN 4)) (fb := (hG 3 (az (ag 1 [("code", 4)] (bp (aA (d2 bS (aB 0) (dC (.int 1))) aH)) (gN 0) cR (d2 bL (aB 1) (bh (aA (aB 0) aH))))))) (ds := (aa c.toNat i).map aM) (δ := [some (.fz (.tuple [.int p, .int c])), some (.fz (cv (aa c.toNat i))), some (.fz (.int (i : Nat))), some (.ow []), v4])
   (λ j δ => ∃ w4, δ = [some (.fz (.tuple [.int p, .int c])), some (.fz (cv (aa c.toNat i))), some (.fz (.int (i : Nat))), some (.ow ((((aa c.toNat i).take j).flatMap (ext c.toNat)).map aM)), w4]) ⟨v4, rfl⟩ (by
    rintro j hj δ ⟨w4, rfl⟩
    have hj' : j < (aa c.toNat i).length := by simpa using hj
    have ed : ((aa c.toNat i).map aM)[j] = aM (aa c.toNat i)[j] := by simp
    have hm : (aa c.toNat i)[j] ∈ aa c.toNat i := tM hj'
    have hl := (jG _ _ _ hm).1
    have hz : ((((aa c.toNat i).take j).flatMap (ext c.toNat)).map aM).length + ((ext c.toNat (aa c.toNat i)[j]).map aM).length <= fH := by
     rw [zJ, zJ, m7, sx, vC, fV]
     have q1 : c.toNat ^ i.succ <= 625 := nL (by omega) (by omega)
     rw [fV] at hj'
     have q2 : (j + 1) * c.toNat <= c.toNat ^ i * c.toNat := Nat.mul_le_mul_right _ hj'
     rw [<- Nat.pow_succ] at q2
     have q3 : min j (c.toNat ^ i) = j := Nat.min_eq_left (xW hj')
     rw [q3]
     have q4 : (j + 1) * c.toNat = j * c.toNat + c.toNat := Nat.succ_mul _ _
     exact eQ (by omega)
    rw [ed]
    refine ⟨_, _, rfl, ?_, some (.fz (aM (aa c.toNat i)[j])), rfl⟩
    have cx := u6 (nm := "code") (k := 4) (c := c.toNat) (a := (aa c.toNat i)[j]) (fi := bp (aA (d2 bS (aB 0) (dC (.int 1))) aH)) (δ := [some (.fz (.tuple [.int p, .int c])), some (.fz (cv (aa c.toNat i))), some (.fz (.int (i : Nat))), some (.ow ((((aa c.toNat i).take j).flatMap (ext c.toNat)).map aM)), some (.fz (aM (aa c.toNat i)[j]))])
     (by simp only [aB, dC, d2, aH, aA, bp, zA, zD, ↓reduceIte, i1, sc]) (by omega) (by omega) rfl
    simp only [hG, az, zA, zB, zE, zF, zD, zG, ↓reduceIte, cx, hz]
    rw [rY hj', Bc])
  rw [zJ, Bj] at e2
  subst e2
  exact ⟨w4, e1⟩
 obtain ⟨δ', e1, v2, v3, v4, e2⟩ := cT (fg := (gN 2)) (fb := (aN (cL 3 (bd aH)) (aN (cf (bB (aB 1)) (gN 4) (hG 3 (az (ag 1 [("code", 4)] (bp (aA (d2 bS (aB 0) (dC (.int 1))) aH)) (gN 0) cR (d2 bL (aB 1) (bh (aA (aB 0) aH))))))) (j3 3 (af 1 (aB 3)))))) (ds := au 0 p.toNat) (δ := [some (.fz (.tuple [.int p, .int c])), some (.fz (.list [.tuple []])), none, none, none])
  (λ i δ => ∃ v2 v3 v4, δ = [some (.fz (.tuple [.int p, .int c])), some (.fz (cv (aa c.toNat i))), v2, v3, v4]) ⟨none, none, none, rfl⟩ (by
   rintro i hi δ ⟨v2, v3, v4, rfl⟩
   have hi' : i < p.toNat := by simpa [au] using hi
   have ed : (au 0 p.toNat)[i] = .int (i : Nat) := by simp [au]
   obtain ⟨w4, f1⟩ := inner i hi' v4
   rw [ed]
   refine ⟨_, [some (.fz (.tuple [.int p, .int c])), some (.fz (cv (aa c.toNat (i + 1)))), some (.fz (.int (i : Nat))), some (.fz (cv (aa c.toNat (i + 1)))), w4], rfl, ?_, _, _, _, rfl⟩
   unfold cv at f1 ⊢
   simp only [aN, af, cL, j3, cf, aB, aH, bd, bB, iQ, DL.frz, zH, zA, zB, zE, zF, zD, zG, ↓reduceIte, z, f1])
 have len2 : (au 0 p.toNat).length = p.toNat := by simp [au]
 rw [len2] at e2
 subst e2
 simp only [eN, qf, mW, mV, mU, mT, aM, bQ, eY, aN, af, ac, dL, cf, aB, dC, d2, aF, aH, aA, bh, bd, az, bp, bn, zI, zL, zC, zH, Q7, Qe, zA, zB, zE, zF, List.replicate, zD, zG, Nat.reduceAdd, Nat.reduceSub, ↓reduceIte, hg, z, z1, i0, sp, e1]
 rfl
theorem tB {p c : Int} (h : (p, c) ∈ cB) : cG [aM [p, c]] = some (cv (bt p c)) := by
 have b := dH h
 have i0 : bS (.tuple [.int p, .int c]) (.int 0) = some (.int p) := rfl
 have i1 : bS (.tuple [.int p, .int c]) (.int 1) = some (.int c) := rfl
 have sp := lA (c := p) (by omega) (by omega)
 have sc := lA (c := c) (by omega) (by omega)
 have z : (0 : Nat) <= fH := zU _
 have z1 : (1 : Nat) <= fH := dw 1
 have inner : ∀ (i : Nat), i < p.toNat -> ∀ v4 : Option Sl, ∃ w4, jL ((gN 4)) ((af 3 (d2 bL (aB 3) (az (ag 1 [("_law_code_here", 4)] (bp (aA (d2 bS (aB 0) (dC (.int 1))) aH)) (gN 0) cR (d2 bL (aB 1) (bh (aA (aB 0) aH)))))))) ((aa c.toNat i).map aM) [some (.fz (.tuple [.int p, .int c])), some (.fz (cv (aa c.toNat i))), some (.fz (.int (i : Nat))), some (.fz (.list [])), v4] =
  some (.nx [some (.fz (.tuple [.int p, .int c])), some (.fz (cv (aa c.toNat i))), some (.fz (.int (i : Nat))), some (.fz (cv (aa c.toNat (i + 1)))), w4]) := by
  intro i hi v4
  obtain ⟨δ', e1, w4, e2⟩ := cT (fg := (gN 4)) (fb := (af 3 (d2 bL (aB 3) (az (ag 1 [("_law_code_here", 4)] (bp (aA (d2 bS (aB 0) (dC (.int 1))) aH)) (gN 0) cR (d2 bL (aB 1) (bh (aA (aB 0) aH)))))))) (ds := (aa c.toNat i).map aM) (δ := [some (.fz (.tuple [.int p, .int c])), some (.fz (cv (aa c.toNat i))), some (.fz (.int (i : Nat))), some (.fz (.list [])), v4])
   (λ j δ => ∃ w4, δ = [some (.fz (.tuple [.int p, .int c])), some (.fz (cv (aa c.toNat i))), some (.fz (.int (i : Nat))), some (.fz (.list ((((aa c.toNat i).take j).flatMap (ext c.toNat)).map aM))), w4]) ⟨v4, rfl⟩ (by
    rintro j hj δ ⟨w4, rfl⟩
    have hj' : j < (aa c.toNat i).length := by simpa using hj
    have ed : ((aa c.toNat i).map aM)[j] = aM (aa c.toNat i)[j] := by simp
    have hm : (aa c.toNat i)[j] ∈ aa c.toNat i := tM hj'
    have hl := (jG _ _ _ hm).1
    have hz : ((((aa c.toNat i).take j).flatMap (ext c.toNat)).map aM).length + ((ext c.toNat (aa c.toNat i)[j]).map aM).length <= fH := by
     rw [zJ, zJ, m7, sx, vC, fV]
     have q1 : c.toNat ^ i.succ <= 625 := nL (by omega) (by omega)
     rw [fV] at hj'
     have q2 : (j + 1) * c.toNat <= c.toNat ^ i * c.toNat := Nat.mul_le_mul_right _ hj'
     rw [<- Nat.pow_succ] at q2
     have q3 : min j (c.toNat ^ i) = j := Nat.min_eq_left (xW hj')
     rw [q3]
     have q4 : (j + 1) * c.toNat = j * c.toNat + c.toNat := Nat.succ_mul _ _
     exact eQ (by omega)
    have ad : bL (.list ((((aa c.toNat i).take j).flatMap (ext c.toNat)).map aM)) (.list ((ext c.toNat (aa c.toNat i)[j]).map aM)) = some (.list ((((aa c.toNat i).take (j + 1)).flatMap (ext c.toNat)).map aM)) := by
     rw [rY hj', Bc]
     simp only [bL, hz, ↓reduceIte]
    rw [ed]
    refine ⟨_, _, rfl, ?_, some (.fz (aM (aa c.toNat i)[j])), rfl⟩
    have cx := u6 (nm := "_law_code_here") (k := 4) (c := c.toNat) (a := (aa c.toNat i)[j]) (fi := bp (aA (d2 bS (aB 0) (dC (.int 1))) aH)) (δ := [some (.fz (.tuple [.int p, .int c])), some (.fz (cv (aa c.toNat i))), some (.fz (.int (i : Nat))), some (.fz (.list ((((aa c.toNat i).take j).flatMap (ext c.toNat)).map aM))), some (.fz (aM (aa c.toNat i)[j]))])
     (by simp only [aB, dC, d2, aH, aA, bp, zA, zD, ↓reduceIte, i1, sc]) (by omega) (by omega) rfl
    simp only [af, aB, d2, az, zA, zB, zE, zF, zD, zG, cx, ad])
  rw [zJ, Bj] at e2
  subst e2
  exact ⟨w4, e1⟩
 obtain ⟨δ', e1, v2, v3, v4, e2⟩ := cT (fg := (gN 2)) (fb := (aN (af 3 (az (bd aH))) (aN (cf (bB (aB 1)) (gN 4) (af 3 (d2 bL (aB 3) (az (ag 1 [("_law_code_here", 4)] (bp (aA (d2 bS (aB 0) (dC (.int 1))) aH)) (gN 0) cR (d2 bL (aB 1) (bh (aA (aB 0) aH)))))))) (af 1 (aB 3))))) (ds := au 0 p.toNat) (δ := [some (.fz (.tuple [.int p, .int c])), some (.fz (.list [.tuple []])), none, none, none])
  (λ i δ => ∃ v2 v3 v4, δ = [some (.fz (.tuple [.int p, .int c])), some (.fz (cv (aa c.toNat i))), v2, v3, v4]) ⟨none, none, none, rfl⟩ (by
   rintro i hi δ ⟨v2, v3, v4, rfl⟩
   have hi' : i < p.toNat := by simpa [au] using hi
   have ed : (au 0 p.toNat)[i] = .int (i : Nat) := by simp [au]
   obtain ⟨w4, f1⟩ := inner i hi' v4
   rw [ed]
   refine ⟨_, [some (.fz (.tuple [.int p, .int c])), some (.fz (cv (aa c.toNat (i + 1)))), some (.fz (.int (i : Nat))), some (.fz (cv (aa c.toNat (i + 1)))), w4], rfl, ?_, _, _, _, rfl⟩
   unfold cv at f1 ⊢
   simp only [aN, af, cf, aB, aH, bd, az, bB, iQ, zH, zA, zB, zE, zF, zD, zG, ↓reduceIte, z, f1])
 have len2 : (au 0 p.toNat).length = p.toNat := by simp [au]
 rw [len2] at e2
 subst e2
 simp only [cG, pi, ka, kZ, kY, aM, bQ, eY, aN, af, ac, cf, aB, dC, d2, aH, aA, bh, bd, az, bp, bn, zI, zL, zC, zH, Q7, Qe, zA, zB, zE, zF, List.replicate, zD, zG, Nat.reduceAdd, Nat.reduceSub, ↓reduceIte, z, z1, i0, sp, e1]
 rfl
noncomputable abbrev lI := List Int × List Int
noncomputable def cI (a : lI) : PyData := .tuple [aM a.1, aM a.2]
noncomputable def bq (as : List lI) : PyData := .list (as.map cI)
structure AskOk (p c : Int) (a : lI) : Prop where
 code : Code p c a.1
 two : a.2.length = 2
 b : ∀ n ∈ a.2, 0 <= n /\ n <= p
theorem yU {p c : Int} {x y : List Int} (hx : Code p c x) (hy : Code p c y) : (GC.ee x y).length = 2 /\ ∀ n ∈ GC.ee x y, 0 <= n /\ n <= p := by
 have l1 := hx.len
 have l2 := hy.len
 obtain ⟨e, _⟩ := GC.tm (h := x) (g := y) (by omega)
 refine ⟨rfl, λ n hn => ?_⟩
 have : n = (GC.jt x y : Int) \/ n = (GC.am (GC.cw x y) (GC.bj x y) : Int) := by simpa [GC.ee] using hn
 omega
theorem Cs {p c : Int} (h : (p, c) ∈ cB) (ns : List Int) (k : Nat) : ∃ as : List lI, d6 [iO ns, .int (k : Nat), aM [p, c]] = some (as.map cI) /\ as.length <= 4 /\ ∀ a ∈ as, AskOk p c a := by
 have b := dH h
 have i0 : bS (.tuple [.int p, .int c]) (.int 0) = some (.int p) := rfl
 have z : (0 : Nat) <= fH := zU _
 have z2 : (2 : Nat) <= fH := dw 2
 have cell : ∀ j : Nat, aX [iO ns, .int (j : Nat)] = some (.int (bg ns j)) := jF ns
 have c1 : aX [iO ns, .int ((k : Int) + 1)] = some (.int (bg ns (k + 1))) := cell (k + 1)
 have cd : ∀ x, cH [.tuple [.int p, .int c], .int x] = some (.tuple ((rW p c x).map .int)) := λ x => Cp h x
 have mx : ∀ (x : Int) {q m : Int}, 0 < q -> 0 < m -> aq [.int x, .int q, .int m] = some (.int (gQ x q m)) := λ x q m => sv x
 have m5 := qB (bg ns (k + 1)) (p := 9949) (show (0 : Int) < 5 by decide)
 have s5 := lA (c := gQ (bg ns (k + 1)) 9949 5) (by omega) (by omega)
 generalize hN : gQ (bg ns (k + 1)) 9949 5 = N at m5 s5
 have C0 := qC h (bg ns k)
 generalize hx : rW p c (bg ns k) = x at C0
 obtain ⟨δ', e1, as, v5, v6, v7, v8, e2, al, ao⟩ := cT (fg := (gN 5)) (fb := (aN (af 6 (d2 bL (aF 2 aX (aA (aB 0) (aA (d2 bL (d2 bL (aB 1) (dC (.int 2))) (aB 5)) aH))) (d2 fC (d2 fC (dC (.int 13)) (aB 5)) (aB 5)))) (aN (af 7 (aF 2 cH (aA (aB 2) (aA (aB 6) aH)))) (aN (af 8 (aF 2 bM (aA (aB 3) (aA (aB 7) aH)))) (aN (eA (dB (d2 jW (aF 3 aq (aA (aB 6) (aA (dC (.int 9941)) (aA (dC (.int 7)) aH)))) (dC (.int 1)))) (af 8 (bh (aA (aF 3 aq (aA (aB 6) (aA (dC (.int 9931)) (aA (d2 bL (d2 bS (aB 2) (dC (.int 0))) (dC (.int 1))) aH)))) (aA (aF 3 aq (aA (aB 6) (aA (dC (.int 9929)) (aA (d2 bL (d2 bS (aB 2) (dC (.int 0))) (dC (.int 1))) aH)))) aH)))) av) (cE 4 (bh (aA (aB 7) (aA (aB 8) aH))))))))) (ds := au 0 N.toNat) (δ := [some (.fz (iO ns)), some (.fz (.int (k : Nat))), some (.fz (.tuple [.int p, .int c])), some (.fz (.tuple (x.map .int))), some (.ow []), none, none, none, none])
  (λ i δ => ∃ (as : List lI) (v5 v6 v7 v8 : Option Sl), δ = [some (.fz (iO ns)), some (.fz (.int (k : Nat))), some (.fz (.tuple [.int p, .int c])), some (.fz (.tuple (x.map .int))), some (.ow (as.map cI)), v5, v6, v7, v8] /\ as.length = i /\ ∀ a ∈ as, AskOk p c a) ⟨[], none, none, none, none, rfl, rfl, λ a ha => by cases ha⟩ (by
   rintro i hi δ ⟨as, v5, v6, v7, v8, rfl, al, ao⟩
   have hi' : i < N.toNat := by simpa [au] using hi
   have ed : (au 0 N.toNat)[i] = .int (i : Nat) := by simp [au]
   have ce : aX [iO ns, .int ((k : Int) + 2 + (i : Int))] = some (.int (bg ns (k + 2 + i))) := cell (k + 2 + i)
   have q1 : j4 13 (i : Int) = true := iX _ (by omega)
   have q2 : j4 (13 * (i : Int)) (i : Int) = true := jE _ (by omega)
   have q4 : (as.map cI).length < fH := by rw [zJ]; exact jn (show _ < 1000 by omega) (by decide)
   generalize hs : bg ns (k + 2 + i) + 13 * (i : Int) * (i : Int) = sd
   have C1 := qC h sd
   have cd1 := cd sd
   generalize rW p c sd = y at C1 cd1
   have l1 := C0.len
   have l2 := C1.len
   have an : bM [.tuple (x.map .int), .tuple (y.map .int)] = some (aM (GC.ee x y)) := kb (by omega) (by omega)
   have m1 := mx sd (show (0 : Int) < 9941 by decide) (show (0 : Int) < 7 by decide)
   have m2 := mx sd (show (0 : Int) < 9931 by decide) (show (0 : Int) < p + 1 by omega)
   have m3 := mx sd (show (0 : Int) < 9929 by decide) (show (0 : Int) < p + 1 by omega)
   have step : ∀ t : List Int, t.length = 2 -> (∀ n ∈ t, 0 <= n /\ n <= p) -> ∃ as' : List lI, (as ++ [(y, t)]) = as' /\ as'.length = i + 1 /\ ∀ a ∈ as', AskOk p c a := λ t t1 t2 => ⟨_, rfl, by simp [al], λ a ha => by
    rcases xY.mp ha with q | q
    · exact ao a q
    · have : a = (y, t) := by simpa using q
      subst this
      exact ⟨C1, t1, t2⟩⟩
   rw [ed]
   by_cases hm : gQ sd 9941 7 = 1
   · have e7 : jW (.int (gQ sd 9941 7)) (.int 1) = some (.bool true) := by rw [eG, decide_eq_true hm]
     have b1 := qB sd (p := 9931) (show (0 : Int) < p + 1 by omega)
     have b2 := qB sd (p := 9929) (show (0 : Int) < p + 1 by omega)
     obtain ⟨as', ea, l', o'⟩ := step [gQ sd 9931 (p + 1), gQ sd 9929 (p + 1)] rfl (by
      intro n hn
      have : n = gQ sd 9931 (p + 1) \/ n = gQ sd 9929 (p + 1) := by simpa using hn
      omega)
     refine ⟨_, _, rfl, ?_, as', some (.fz (.int (i : Nat))), some (.fz (.int sd)), some (.fz (.tuple (y.map .int))), some (.fz (.tuple [.int (gQ sd 9931 (p + 1)), .int (gQ sd 9929 (p + 1))])), rfl, l', o'⟩
     simp only [aN, eA, af, cE, aB, dC, d2, aF, aH, aA, bh, dB, av, pJ, iI, zC, zH, zA, zB, zE, zF, zD, zG, Nat.reduceAdd, ↓reduceIte, q1, q2, q4, ce, hs, cd1, an, m1, m2, m3, e7, i0, z2]
     rw [<- ea, Bc]
     rfl
   · have e7 : jW (.int (gQ sd 9941 7)) (.int 1) = some (.bool false) := by rw [eG, decide_eq_false hm]
     obtain ⟨b1, b2⟩ := yU C0 C1
     obtain ⟨as', ea, l', o'⟩ := step (GC.ee x y) b1 b2
     refine ⟨_, _, rfl, ?_, as', some (.fz (.int (i : Nat))), some (.fz (.int sd)), some (.fz (.tuple (y.map .int))), some (.fz (aM (GC.ee x y))), rfl, l', o'⟩
     simp only [aN, eA, af, cE, aB, dC, d2, aF, aH, aA, bh, dB, av, pJ, iI, zC, zH, zA, zB, zE, zF, zD, zG, Nat.reduceAdd, ↓reduceIte, zN, q1, q2, q4, ce, hs, cd1, an, m1, e7, i0, z2]
     rw [<- ea, Bc]
     rfl)
 have len2 : (au 0 N.toNat).length = N.toNat := by simp [au]
 rw [len2] at al
 subst e2
 refine ⟨as, ?_, by omega, ao⟩
 have cx := cd (bg ns k)
 rw [hx] at cx
 have c0 := cell k
 have mN := mx (bg ns (k + 1)) (show (0 : Int) < 9949 by decide) (show (0 : Int) < 5 by decide)
 rw [hN] at mN
 simp only [d6, qa, mJ, mI, mH, mG, aM, EQ, eY, aN, af, cL, tu, cf, aB, dC, d2, aF, aH, aA, bd, bp, iI, zI, zL, zC, zH, Q7, Qe, zA, zB, zE, zF, List.replicate, zD, zG, Nat.reduceAdd, Nat.reduceSub, ↓reduceIte, c0, c1, cx, z, mN, s5, e1]
noncomputable def eR (as : List lI) (x : List Int) : Bool := as.all λ a => decide (GC.qQ x a.1 = a.2)
theorem Fu (a : lI) : bS (cI a) (.int 0) = some (aM a.1) := rfl
theorem Fv (a : lI) : bS (cI a) (.int 1) = some (aM a.2) := rfl
theorem u7 {p c : Int} (h : (p, c) ∈ cB) {x : List Int} (cx : Code p c x) {a : lI} (ha : AskOk p c a) : dh [aM x, cI a] = some (.bool (decide (GC.qQ x a.1 = a.2))) := by
 have b := dH h
 have l1 := cx.len
 have l2 := ha.code.len
 have q := sw (a := x) (b := a.1) (by omega) (by omega)
 simp only [dh, su, nt, bQ, eY, ac, aB, dC, d2, aF, aH, aA, bn, zI, zL, zC, zH, Q4, zA, zB, List.replicate, zD, zG, Nat.reduceAdd, Nat.reduceSub, ↓reduceIte, Fu, Fv, q, A0]
theorem tD {p c : Int} (h : (p, c) ∈ cB) {t : List Int} (t2 : t.length = 2) (tb : ∀ n ∈ t, 0 <= n /\ n <= p) : eK [aM [p, c], aM t] = some (.bool true) := by
 have i0 : bS (.tuple [.int p, .int c]) (.int 0) = some (.int p) := rfl
 have ip : dM [.tuple (t.map .int)] = some (.bool true) := by
  have e : jW (.int ((t.map PyData.int).length : Nat)) (.int 2) = some (.bool true) := by rw [eG, decide_eq_true]; rw [zJ, t2]; rfl
  simp only [dM, nl, ku, bQ, eY, ac, aB, dC, d2, ai, aH, aA, dB, cQ, bn, fR, nC, cz, n9, zI, zL, zC, zH, Q4, zA, List.replicate, zD, zG, Nat.reduceAdd, Nat.reduceSub, ↓reduceIte, e]
 have l1 : (t.map PyData.int).length <= fH := by rw [zJ, t2]; exact dw 2
 have mm : (ag 1 [("game", 0)] (bB (aB 1)) (gN 0) cR (aF 3 aT (aA (aB 0) (aA (dC (.int 0)) (aA (d2 bS (aB 1) (dC (.int 0))) aH))))) [some (.fz (.tuple [.int p, .int c])), some (.fz (.tuple (t.map PyData.int)))] = some ((t.map PyData.int).map λ _ => .bool true) := by
  refine dF _ rfl l1 λ d hd => ?_
  obtain ⟨n, hn, rfl⟩ := Qc.mp hd
  have q := tb n hn
  simp only [aB, dC, d2, aF, aH, aA, fK, cR, gN, zI, zL, zC, zH, Q7, Qe, zA, zB, zE, List.replicate, zD, zG, Nat.reduceAdd, ↓reduceIte, Bool.and_true, i0, nK, decide_eq_true q.1, decide_eq_true q.2]
 have bs : kq ((t.map PyData.int).map λ _ => PyData.bool true) = some ((t.map PyData.int).map λ _ => true) := by
  rw [show ((t.map PyData.int).map λ _ => PyData.bool true) = ((t.map PyData.int).map λ _ => true).map PyData.bool by simp]
  exact gr _
 have al2 : ((t.map PyData.int).map λ _ => true).all id = true := by simp
 simp only [eK, qc, mL, aM, bQ, eY, ac, aB, ai, aF, aH, aA, az, dB, cQ, bn, oC, zI, zL, zC, zH, Q4, zA, zB, List.replicate, zD, zG, Nat.reduceAdd, Nat.reduceSub, ↓reduceIte, ip, mm, bs, al2]
theorem yV {p c : Int} (h : (p, c) ∈ cB) {a : lI} (ha : AskOk p c a) : g0 [aM [p, c], cI a] = some (.bool true) := by
 have ip : dM [cI a] = some (.bool true) := by
  have e : jW (.int ((2 : Nat) : Int)) (.int 2) = some (.bool true) := by rw [eG]; rfl
  simp only [dM, nl, ku, cI, bQ, eY, ac, aB, dC, d2, ai, aH, aA, dB, cQ, bn, fR, nC, cz, n9, zI, zL, zC, zH, Q4, zA, List.replicate, zD, zG, Nat.reduceAdd, Nat.reduceSub, ↓reduceIte, e]
 have q1 := wI h ha.code
 have q2 := tD h ha.two ha.b
 simp only [g0, wF, rT, bQ, eY, ac, aB, dC, d2, aF, aH, aA, dB, cQ, bn, zI, zL, zC, zH, Q4, zA, zB, List.replicate, zD, zG, Nat.reduceAdd, Nat.reduceSub, ↓reduceIte, ip, Fu, Fv, q1, q2]
theorem oF {p c : Int} (h : (p, c) ∈ cB) {as : List lI} (ao : ∀ a ∈ as, AskOk p c a) (al : as.length <= 8) : cX [aM [p, c], bq as, D6 "is_ask"] = some (bq as) := by
 obtain ⟨δ', e1, v2, v3, e2⟩ := cT (fg := (gT 2 (gC (gN 3) (gC (gN 4) gZ)))) (fb := (eA (bx (dJ (pP 2 "is_ask" 2 g0 (aA (aB 0) (aA (aB 4) aH))))) fP av)) (ds := fA (as.map cI)) (δ := [some (.fz (aM [p, c])), some (.fz (.list (as.map cI))), some (.fz (D6 "is_ask")), none, none])
  (λ i δ => ∃ v2 v3, δ = [some (.fz (aM [p, c])), some (.fz (.list (as.map cI))), some (.fz (D6 "is_ask")), v2, v3]) ⟨none, none, rfl⟩ (by
   rintro i hi δ ⟨v2, v3, rfl⟩
   have hi' : i < as.length := by simpa [fA] using hi
   have ed : (fA (as.map cI))[i] = .tuple [.int (i : Nat), cI as[i]] := by
    have := fI hi
    obtain ⟨e, h1, h2⟩ := jv this
    rw [zK, fI hi'] at h1
    cases h1
    exact h2
   have q := yV h (ao _ (tM hi'))
   rw [ed]
   refine ⟨_, _, rfl, ?_, some (.fz (.int (i : Nat))), some (.fz (cI as[i])), rfl⟩
   simp only [eA, aB, aF, aH, aA, dJ, kF, bx, av, fP, zC, zH, zA, zB, zE, zF, zD, zG, Nat.reduceAdd, ↓reduceIte, wb, zN, pP, yF, q])
 subst e2
 have d : decide ((8 : Int) < ((as.map cI).length : Nat)) = false := decide_eq_false (by rw [zJ]; omega)
 simp only [cX, nG, jO, jN, jM, bq, bQ, eY, aN, eA, ac, cf, aB, dC, d2, ai, aH, aA, dB, dJ, kF, bx, kG, iQ, Bd, av, fP, bn, fR, ET, cz, D5, D4, zI, zL, zC, zH, Q7, Qe, zA, zB, List.replicate, zD, zG, Nat.reduceAdd, Nat.reduceSub, ↓reduceIte, wb, zN, d, e1]
theorem gR {p c : Int} (h : (p, c) ∈ cB) {as : List lI} (ao : ∀ a ∈ as, AskOk p c a) (al : as.length <= 8) : bW [aM [p, c], bq as] = some (bq as) := by
 have q := oF h ao al
 simp only [bW, nH, jP, bQ, eY, ac, aB, dC, aF, aH, aA, bn, zI, zL, zC, zH, Q4, zA, zB, List.replicate, zD, zG, Nat.reduceAdd, Nat.reduceSub, ↓reduceIte, q]
theorem jz {cs : List (List Int)} {d : PyData} (h : d ∈ cs.map aM) : ∃ x ∈ cs, d = aM x := by
 obtain ⟨x, hx, e⟩ := Qc.mp h
 exact ⟨x, hx, e.symm⟩
theorem jH {α : Type} (enc : α -> PyData) (f : PyData -> Bool) (q : α -> Bool) : ∀ {l : List α}, (∀ a ∈ l, f (enc a) = q a) -> (l.map enc).filter f = (l.filter q).map enc
 | [], _ => rfl
 | a :: r, h => by
  have ih := jH enc f q (l := r) λ x hx => h x (nv _ hx)
  rw [zI, List.filter_cons, List.filter_cons, h a oW, ih]
  cases q a <;> rfl
noncomputable def cJ (d : PyData) : List Int := @dite _ (∃ x, aM x = d) (Classical.propDecidable _) (λ h => Classical.choose h) (λ _ => [])
theorem bZ (x : List Int) : cJ (aM x) = x := by
 unfold cJ
 have h : ∃ y, aM y = aM x := ⟨x, rfl⟩
 rw [dif_pos h]
 exact uF (Classical.choose_spec h)
theorem tE {l : List PyData} : l.map (λ d => d) = l := List.map_id l
theorem BK {p c : Int} (h : (p, c) ∈ cB) {cs : List (List Int)} (hc : ∀ x ∈ cs, Code p c x) (hl : cs.length <= 1000) {as : List lI} (ao : ∀ a ∈ as, AskOk p c a) :
 bw [cv cs, bq as] = some (cv (cs.filter (eR as))) := by
 obtain ⟨δ', e1, v3, e2⟩ := cT (fg := (gN 3)) (fb := (af 2 (az (ag 1 [("ask", 3)] (bB (aB 2)) (gN 0) (dJ (aF 2 dh (aA (aB 0) (aA (aB 1) aH)))) (aB 0))))) (ds := as.map cI) (δ := [some (.fz (.list (cs.map aM))), some (.fz (.list (as.map cI))), some (.fz (.list (cs.map aM))), none])
  (λ i δ => ∃ v3, δ = [some (.fz (.list (cs.map aM))), some (.fz (.list (as.map cI))), some (.fz (.list ((cs.filter (eR (as.take i))).map aM))), v3]) ⟨none, by
   have : cs.filter (eR (as.take 0)) = cs := List.filter_eq_self.mpr λ a _ => rfl
   rw [this]⟩ (by
   rintro i hi δ ⟨v3, rfl⟩
   have hi' : i < as.length := by simpa using hi
   have ed : (as.map cI)[i] = cI as[i] := by simp
   have oa := ao _ (tM hi')
   rw [ed]
   refine ⟨_, _, rfl, ?_, some (.fz (cI as[i])), rfl⟩
   have cx : (ag 1 [("ask", 3)] (bB (aB 2)) (gN 0) (dJ (aF 2 dh (aA (aB 0) (aA (aB 1) aH)))) (aB 0)) [some (.fz (.list (cs.map aM))), some (.fz (.list (as.map cI))), some (.fz (.list ((cs.filter (eR (as.take i))).map aM))), some (.fz (cI as[i]))] = some ((cs.filter (eR (as.take (i + 1)))).map aM) := by
    rw [iH (ds := (cs.filter (eR (as.take i))).map aM) (λ d => decide (GC.qQ (cJ d) as[i].1 = as[i].2)) (λ d => d) rfl (by
     rw [zJ]; exact Qf (List.length_filter_le _ _) (eQ hl)) (λ d hd => ?_)]
    · rw [tE, jH aM _ (λ x => decide (GC.qQ x as[i].1 = as[i].2)) (λ x _ => by rw [bZ]), List.filter_filter]
      congr 2
      apply List.filter_congr
      intro x _
      rw [Ev hi']
      simp only [eR, List.all_append, List.all_cons, List.all_nil, Bool.and_true]
      rw [Bool.and_comm]
    · obtain ⟨x, hx, rfl⟩ := jz hd
      have q := u7 h (hc x (List.mem_filter.mp hx).1) oa
      rw [bZ]
      cases hd' : decide (GC.qQ x as[i].1 = as[i].2) <;> simp only [aB, aF, aH, aA, dJ, kF, fK, gN, zI, zL, zC, zH, Q7, Qe, zA, zB, zE, List.replicate, zD, zG, Nat.reduceAdd, ↓reduceIte, zN, q, hd']
   simp only [af, az, zE, zF, zG, cx])
 rw [zJ, Bj] at e2
 subst e2
 simp only [bw, kz, h9, hZ, hX, cv, bq, bQ, eY, aN, af, ac, cf, aB, bB, iQ, bn, zI, zL, zC, zH, Q7, Qe, zA, zB, zE, zF, List.replicate, zD, zG, Nat.reduceAdd, Nat.reduceSub, e1]
theorem fW {p c : Int} (h : (p, c) ∈ cB) : ∀ x ∈ bt p c, Code p c x := λ x hx => qD h hx
theorem tF {p c : Int} (h : (p, c) ∈ cB) {as : List lI} (ao : ∀ a ∈ as, AskOk p c a) (al : as.length <= 8) : eO [aM [p, c], bq as] = some (cv ((bt p c).filter (eR as))) := by
 have q1 := eJ h
 have q2 := gR h ao al
 have q3 := sy h
 have q4 := BK h (fW h) (Qf (rX h) (by decide)) ao
 simp only [eO, qg, mZ, mY, mX, bQ, eY, aN, ac, dL, aB, aF, aH, aA, bn, zI, zL, zC, zH, Q4, zA, zB, List.replicate, zD, zG, Nat.reduceAdd, Nat.reduceSub, ↓reduceIte, q1, q2, q3, q4]
theorem Cu {p c : Int} (h : (p, c) ∈ cB) {as : List lI} (ao : ∀ a ∈ as, AskOk p c a) (al : as.length <= 1000) : cY [aM [p, c], bq as] = some (cv ((bt p c).filter (eR as))) := by
 have b := dH h
 have q0 := tB h
 have inner : ∀ x ∈ bt p c, ∀ δ : aP, δ[0]? = some (some (.fz (aM x))) -> δ[1]? = some (some (.fz (.list (as.map cI)))) -> ∃ es, (ag 1 [("_law_code_here", 0)] (bB (aB 1)) (gN 0) (dB (d2 tP (aF 2 bM (aA (aB 1) (aA (d2 bS (aB 0) (dC (.int 0))) aH))) (d2 bS (aB 0) (dC (.int 1))))) (aB 0)) δ = some es /\ es.isEmpty = eR as x := by
  intro x hx δ h0 h1
  have cx := qD h hx
  have f1 : (bB (aB 1)) δ = some (as.map cI) := by simp only [bB, aB, h1, zD, iQ]
  have hk : ∀ a ∈ as, bM [aM x, aM a.1] = some (aM (GC.qQ x a.1)) := λ a ha => by
   have l1 := cx.len
   have l2 := (ao a ha).code.len
   rw [GC.CG (by omega)]
   exact kb (by omega) (by omega)
  refine ⟨_, iH (ds := as.map cI) (λ d => match d with | .tuple [d1, d2] => !PyData.eqv (aM (GC.qQ x (cJ d1))) d2 | _ => true) (λ d => d) f1 (by rw [zJ]; exact eQ al) (λ d hd => ?_), ?_⟩
  · obtain ⟨a, ha, rfl⟩ := Qc.mp hd
    have q := hk a ha
    have e : (match cI a with | .tuple [d1, d2] => !PyData.eqv (aM (GC.qQ x (cJ d1))) d2 | _ => true) = !decide (GC.qQ x a.1 = a.2) := by
     show (!PyData.eqv (aM (GC.qQ x (cJ (aM a.1)))) (aM a.2)) = _
     rw [bZ, lg]
    rw [e]
    cases hd' : decide (GC.qQ x a.1 = a.2) <;> simp only [aB, dC, d2, aF, aH, aA, dB, fK, gN, zI, zL, zC, zH, Q7, Qe, zA, zB, zE, List.replicate, zD, zG, Nat.reduceAdd, ↓reduceIte, wb, yr, zN, h0, Fu, Fv, q, A1, hd']
  · rw [tE, jH cI _ (λ a => !decide (GC.qQ x a.1 = a.2)) (λ a _ => by
     show (!PyData.eqv (aM (GC.qQ x (cJ (aM a.1)))) (aM a.2)) = _
     rw [bZ, lg])]
    rw [Bool.eq_iff_iff, List.isEmpty_iff, List.map_eq_nil_iff, List.filter_eq_nil_iff, eR, tN]
    constructor
    · intro q a ha
      have := q a ha
      simpa using this
    · intro q a ha
      have := q a ha
      simpa using this
 have cx : (ag 1 [("_law_asks_here", 1)] (bB (aF 1 cG (aA (aB 0) aH))) (gN 0) (bx (dJ (az (ag 1 [("_law_code_here", 0)] (bB (aB 1)) (gN 0) (dB (d2 tP (aF 2 bM (aA (aB 1) (aA (d2 bS (aB 0) (dC (.int 0))) aH))) (d2 bS (aB 0) (dC (.int 1))))) (aB 0))))) (aB 0)) [some (.fz (.tuple [.int p, .int c])), some (.fz (.list (as.map cI)))] = some (((bt p c).filter (eR as)).map aM) := by
  have hi : ((bB (aF 1 cG (aA (aB 0) aH)))) [some (.fz (.tuple [.int p, .int c])), some (.fz (.list (as.map cI)))] = some ((bt p c).map aM) := by
   have q0' : cG [.tuple [.int p, .int c]] = some (cv (bt p c)) := q0
   simp only [aB, aF, aH, aA, bB, iQ, zC, zH, zA, zD, Nat.reduceAdd, ↓reduceIte, q0', cv]
  rw [iH (ds := (bt p c).map aM) (λ d => eR as (cJ d)) (λ d => d) hi (by rw [zJ]; exact eQ (Qf (rX h) (by decide))) (λ d hd => ?_)]
  · rw [tE, jH aM _ (eR as) (λ x _ => by rw [bZ])]
  · obtain ⟨x, hx, rfl⟩ := jz hd
    obtain ⟨es, f1, f2⟩ := inner x hx [some (.fz (aM x)), some (.fz (.list (as.map cI)))] rfl rfl
    rw [bZ, <- f2]
    cases hE : es.isEmpty <;> simp only [aB, az, dJ, kF, bx, fK, gN, zI, zL, Q7, Qe, zA, zB, zE, List.replicate, zD, zG, ↓reduceIte, wb, yr, zN, f1, hE]
 simp only [cY, qd, mM, aM, bq, bQ, eY, ac, az, bn, zI, zL, zC, zH, Q4, List.replicate, zD, zG, Nat.reduceAdd, Nat.reduceSub, cx]
 rfl
theorem BL {a b : List (List Int)} (h : cv a = cv b) : a = b := by
 unfold cv at h
 injection h with h
 have : a.map (λ x => cJ (aM x)) = b.map (λ x => cJ (aM x)) := by
  have := congrArg (List.map cJ) h
  rwa [zO, zO] at this
 simpa [bZ] using this
theorem xS (a : List (List Int)) : nb (cv a) = true := sU λ d hd => by
 obtain ⟨x, _, rfl⟩ := jz hd
 exact oN x
theorem xT (a : List (List Int)) : okN 2 (cv a) := pI λ d hd => by
 obtain ⟨x, _, rfl⟩ := jz hd
 exact iT x
theorem BM (a b : List (List Int)) : jW (cv a) (cv b) = some (.bool (decide (a = b))) := by
 rw [sV (xT a).ok (xT b).ok]
 congr 2
 rw [Bool.eq_iff_iff, lf _ _ (xS a) (xS b), decide_eq_true_eq]
 exact ⟨BL, λ h => by rw [h]⟩
theorem Cv (a : lI) : nb (cI a) = true := AY λ d hd => by
 have : d = aM a.1 \/ d = aM a.2 := by simpa using hd
 rcases this with rfl | rfl <;> exact oN _
theorem Cw (a : lI) : okN 2 (cI a) := xD λ d hd => by
 have : d = aM a.1 \/ d = aM a.2 := by simpa using hd
 rcases this with rfl | rfl <;> exact iT _
structure Ord (n : Int) (q : List Int) : Prop where
 len : (q.length : Int) = n
 perm : q.Perm ((List.range n.toNat).map λ i : Nat => (i : Int))
theorem Ord.b {n : Int} {q : List Int} (h : Ord n q) : ∀ x ∈ q, 0 <= x /\ x < n := λ x hx => by
 obtain ⟨i, hi, rfl⟩ := Qc.mp (h.perm.mem_iff.mp hx)
 have := List.mem_range.mp hi
 omega
theorem Ord.nd {n : Int} {q : List Int} (h : Ord n q) : q.Nodup := h.perm.nodup_iff.mpr ((List.nodup_range).map (R := (· ≠ ·)) (S := (· ≠ ·)) _ λ a b e z => e (by exact_mod_cast z))
noncomputable def at_ (q : List Int) (i : Nat) : Nat := (q.getD i 0).toNat
noncomputable def col (C : List Int) (x : Int) : Int := C.getD x.toNat 0
theorem g6 {l : List Int} {i : Nat} (h : i < l.length) : l.getD i 0 = l[i] := by rw [jX, fI h]; rfl
theorem eF {l : List Int} {i : Nat} (h : i < l.length) : l.getD i 0 ∈ l := by rw [g6 h]; exact tM h
theorem u8 {l : List Int} (nd : l.Nodup) {i j : Nat} (hi : i < l.length) (hj : j < l.length) (e : l.getD i 0 = l.getD j 0) : i = j := by
 rw [g6 hi, g6 hj] at e
 exact (DE nd).mp e
theorem qE (l : List Int) : (List.range l.length).map (λ i => l.getD i 0) = l := by
 refine List.ext_getElem (by simp) λ i h1 h2 => ?_
 rw [List.getElem_map, List.getElem_range, g6 h2]
theorem Ord.at_lt {n : Int} {q : List Int} (h : Ord n q) {i : Nat} (hi : (i : Int) < n) : (at_ q i : Int) < n := by
 have := h.b _ (eF (l := q) (i := i) (by have := h.len; omega))
 unfold at_
 omega
theorem Ord.at_inj {n : Int} {q : List Int} (h : Ord n q) {i j : Nat} (hi : (i : Int) < n) (hj : (j : Int) < n) (e : at_ q i = at_ q j) : i = j := by
 have l := h.len
 have b1 := h.b _ (eF (l := q) (i := i) (by omega))
 have b2 := h.b _ (eF (l := q) (i := j) (by omega))
 unfold at_ at e
 exact u8 h.nd (by omega) (by omega) (by omega)
theorem Ord.at_perm {n : Int} {q : List Int} (h : Ord n q) : ((List.range n.toNat).map (at_ q)).Perm (List.range n.toNat) := by
 have l := h.len
 have e : (List.range n.toNat).map (at_ q) = q.map Int.toNat := by
  conv => rhs; rw [<- qE q]
  rw [zO, show q.length = n.toNat by omega]
  rfl
 rw [e]
 refine (h.perm.map Int.toNat).trans ?_
 rw [zO]
 have : (List.range n.toNat).map (Int.toNat ∘ λ i : Nat => (i : Int)) = List.range n.toNat := by
  refine (yo λ i _ => ?_).trans (List.map_id _)
  show ((i : Int)).toNat = i
  omega
 rw [this]
theorem Ord.col_b {n : Int} {q : List Int} (h : Ord n q) {x : Int} (hx : 0 <= x /\ x <= n - 1) : 0 <= col q x /\ col q x <= n - 1 := by
 have l := h.len
 have := h.b _ (eF (l := q) (i := x.toNat) (by omega))
 unfold col
 omega
theorem Ord.col_inj {n : Int} {q : List Int} (h : Ord n q) {x y : Int} (hx : 0 <= x /\ x <= n - 1) (hy : 0 <= y /\ y <= n - 1) (e : col q x = col q y) : x = y := by
 have l := h.len
 have := u8 h.nd (i := x.toNat) (j := y.toNat) (by omega) (by omega) e
 omega
noncomputable def Gb (P C a r : List Int) (i : Nat) : List Int := r.set (at_ P i) (col C (a.getD i 0))
noncomputable def Bg (P C a : List Int) (k : Nat) : List Int := (List.range k).foldl (Gb P C a) a
noncomputable def bN (P C a : List Int) : List Int := Bg P C a a.length
theorem m8 (P C a : List Int) (k : Nat) : Bg P C a (k + 1) = (Bg P C a k).set (at_ P k) (col C (a.getD k 0)) := by
 unfold Bg
 rw [List.range_succ, List.foldl_append]
 rfl
theorem md (P C a : List Int) : ∀ k, (Bg P C a k).length = a.length
 | 0 => rfl
 | k + 1 => by rw [m8, wa, md P C a k]
theorem xU {p : Int} {P C a : List Int} (hP : Ord p P) (la : (a.length : Int) = p) : ∀ k : Nat, (k : Int) <= p -> ∀ i : Nat, i < k -> (Bg P C a k).getD (at_ P i) 0 = col C (a.getD i 0)
 | 0, _, i, hi => absurd hi (zS _)
 | k + 1, hk, i, hi => by
  have b1 := hP.at_lt (i := k) (by omega)
  have b2 := hP.at_lt (i := i) (by omega)
  rw [m8, jX]
  by_cases e : i = k
  · subst e
    rw [List.getElem?_set_self (by rw [md]; omega)]
    rfl
  · rw [List.getElem?_set_ne (λ z => e (hP.at_inj (i := i) (j := k) (by omega) (by omega) z.symm)), <- jX]
    exact xU hP la k (by omega) i (by omega)
theorem gd (P C a : List Int) : (bN P C a).length = a.length := md P C a _
theorem iY {p : Int} {P C a : List Int} (hP : Ord p P) (la : (a.length : Int) = p) {i : Nat} (hi : (i : Int) < p) : (bN P C a).getD (at_ P i) 0 = col C (a.getD i 0) := xU hP la a.length (by omega) i (by omega)
theorem lB {p : Int} {P C a : List Int} (hP : Ord p P) (la : (a.length : Int) = p) : (bN P C a).Perm (a.map (col C)) := by
 have e1 := qE (bN P C a)
 have e2 := qE a
 rw [gd] at e1
 have en : a.length = p.toNat := by omega
 rw [en] at e1 e2
 rw [<- e1]
 conv => rhs; rw [<- e2, zO]
 refine ((hP.at_perm.map λ i => (bN P C a).getD i 0).symm).trans ?_
 rw [zO]
 refine List.Perm.of_eq (yo λ i hi => ?_)
 have := List.mem_range.mp hi
 exact iY hP la (by omega)
theorem qF {p c : Int} {P C a : List Int} (hP : Ord p P) (hC : Ord c C) (ca : Code p c a) : Code p c (bN P C a) := by
 refine ⟨by rw [gd]; exact ca.len, λ n hn => ?_⟩
 obtain ⟨x, hx, rfl⟩ := Qc.mp ((lB hP ca.len).mem_iff.mp hn)
 exact hC.col_b (ca.all x hx)
theorem yW {p c : Int} {P C a b : List Int} (hP : Ord p P) (hC : Ord c C) (ca : Code p c a) (cb : Code p c b) (e : bN P C a = bN P C b) : a = b := by
 have la := ca.len
 have lb := cb.len
 refine List.ext_getElem (by omega) λ i h1 h2 => ?_
 have q1 := iY (C := C) hP la (i := i) (by omega)
 have q2 := iY (C := C) hP lb (i := i) (by omega)
 rw [e, q2] at q1
 have := hC.col_inj (ca.all _ (eF h1)) (cb.all _ (eF h2)) q1.symm
 rwa [g6 h1, g6 h2] at this
theorem nM : ∀ a b : List Int, a.length = b.length -> GC.jt a b = (List.range a.length).countP λ i => decide (a.getD i 0 = b.getD i 0)
 | [], [], _ => rfl
 | [], _ :: _, h => by simp at h
 | _ :: _, [], h => by simp at h
 | x :: a, y :: b, h => by
  have ih := nM a b (by simpa using h)
  show (if x = y then 1 else 0) + GC.jt a b = _
  rw [ih, zC, List.range_succ_eq_map, List.countP_cons, List.countP_map]
  have : (λ i => decide ((x :: a).getD i 0 = (y :: b).getD i 0)) ∘ Nat.succ = λ i => decide (a.getD i 0 = b.getD i 0) := by
   funext i
   show decide ((x :: a).getD (i + 1) 0 = (y :: b).getD (i + 1) 0) = _
   rw [List.getD_cons_succ, List.getD_cons_succ]
  rw [this, Nat.add_comm]
  congr 1
  simp only [List.getD_cons_zero, decide_eq_true_eq]
theorem yX {p c : Int} {P C a b : List Int} (hP : Ord p P) (hC : Ord c C) (ca : Code p c a) (cb : Code p c b) : GC.jt (bN P C a) (bN P C b) = GC.jt a b := by
 have la := ca.len
 have lb := cb.len
 rw [nM _ _ (by rw [gd, gd]; omega), nM a b (by omega), gd, show a.length = p.toNat by omega, <- (hP.at_perm.countP_eq _), List.countP_map]
 refine List.countP_congr λ i hi => ?_
 have hi' := List.mem_range.mp hi
 show decide ((bN P C a).getD (at_ P i) 0 = (bN P C b).getD (at_ P i) 0) = true ↔ _
 rw [iY hP la (by omega), iY hP lb (by omega)]
 simp only [decide_eq_true_eq]
 refine ⟨λ e => hC.col_inj (ca.all _ (eF (by omega))) (cb.all _ (eF (by omega))) e, λ e => by rw [e]⟩
theorem nN {f : Int -> Int} {S : Int -> Prop} (hf : ∀ x y, S x -> S y -> f x = f y -> x = y) : ∀ (g u : List Int), (∀ x ∈ u, S x) -> (∀ x ∈ g, S x) -> GC.am (u.map f) (g.map f) = GC.am u g
 | [], u, _, _ => rfl
 | d :: g, u, hu, hg => by
  have sd := hg d oW
  have m : f d ∈ u.map f ↔ d ∈ u := ⟨λ h => by
   obtain ⟨x, hx, e⟩ := Qc.mp h
   rw [<- hf x d (hu x hx) sd e]
   exact hx, λ h => zP h⟩
  show (if f d ∈ u.map f then GC.am ((u.map f).erase (f d)) (g.map f) + 1 else GC.am (u.map f) (g.map f)) = if d ∈ u then GC.am (u.erase d) g + 1 else GC.am u g
  have hg' : ∀ x ∈ g, S x := λ x hx => hg x (nv _ hx)
  by_cases h : d ∈ u
  · rw [if_pos (m.mpr h), if_pos h]
    have pe : ((u.map f).erase (f d)).Perm ((u.erase d).map f) := by
     have := ((List.perm_cons_erase h).map f).erase (f d)
     rwa [zI, List.erase_cons_head] at this
    rw [GC.gO _ pe, nN hf g (u.erase d) (λ x hx => hu x (List.mem_of_mem_erase hx)) hg']
  · rw [if_neg (λ z => h (m.mp z)), if_neg h, nN hf g u hu hg']
theorem yY {p c : Int} {P C a b : List Int} (hP : Ord p P) (hC : Ord c C) (ca : Code p c a) (cb : Code p c b) : GC.qQ (bN P C a) (bN P C b) = GC.qQ a b := by
 have e : GC.am (bN P C a) (bN P C b) = GC.am a b := by
  rw [GC.gO _ (lB hP ca.len), GC.fO (lB hP cb.len)]
  exact nN (S := λ x => 0 <= x /\ x <= c - 1) (λ x y hx hy e => hC.col_inj hx hy e) b a ca.all cb.all
 unfold GC.qQ
 rw [yX hP hC ca cb, e]
theorem nu {α : Type} [BEq α] [LawfulBEq α] : ∀ {l1 l2 : List α}, l1.Nodup -> (∀ x ∈ l1, x ∈ l2) -> l2.length <= l1.length -> l1.Perm l2
 | [], l2, _, _, h => by rw [List.length_eq_zero_iff.mp (Nat.le_zero.mp h)]
 | a :: l1, l2, nd, sb, h => by
  have hm := sb a oW
  obtain ⟨h1, h2⟩ := List.nodup_cons.mp nd
  have lp : 0 < l2.length := List.length_pos_of_mem hm
  have := nu (l1 := l1) (l2 := l2.erase a) h2 (λ x hx => (List.mem_erase_of_ne (λ z : x = a => h1 (z ▸ hx))).mpr (sb x (nv _ hx))) (by rw [List.length_erase_of_mem hm]; rw [zC] at h; omega)
  exact (this.cons a).trans (List.perm_cons_erase hm).symm
noncomputable def BN : List (List Int) -> Bool
 | [] => true
 | a :: l => l.all (λ b => dR a b) && BN l
theorem u9 : ∀ {l : List (List Int)}, BN l = true -> l.Pairwise λ x y => dR x y = true
 | [], _ => .nil
 | a :: l, h => by
  obtain ⟨h1, h2⟩ := Bool.and_eq_true_iff.mp h
  exact .cons (λ b hb => tN.mp h1 b hb) (u9 h2)
theorem yZ {p c : Int} (h : (p, c) ∈ cB) : (bt p c).Pairwise λ x y => dR x y = true := by
 have : cB.all (λ g => BN (bt g.1 g.2)) = true := by decide +kernel
 exact u9 (tN.mp this (p, c) h)
theorem BO {p c : Int} (h : (p, c) ∈ cB) : (bt p c).length < 128 := by
 have : cB.all (λ g => decide ((bt g.1 g.2).length < 128)) = true := by decide +kernel
 exact of_decide_eq_true (tN.mp this (p, c) h)
theorem Eb {l : List (List Int)} (h : l.Pairwise λ x y => dR x y = true) : l.Nodup := h.imp λ {x y} h e => by rw [e, DL.iV] at h; cases h
theorem qG (c : Nat) : ∀ (n : Nat) (a : List Int), a.length = n -> (∀ x ∈ a, 0 <= x /\ x < (c : Int)) -> a ∈ aa c n
 | 0, a, h, _ => by rw [List.length_eq_zero_iff.mp h]; simp [aa]
 | n + 1, a, h, q => by
  have ne : a ≠ [] := λ z => by rw [z] at h; cases h
  rw [<- List.dropLast_concat_getLast ne]
  refine List.mem_flatMap.mpr ⟨a.dropLast, qG c n _ (by rw [List.length_dropLast, h]; rfl) (λ x hx => q x (List.dropLast_subset _ hx)), Qc.mpr ⟨(a.getLast ne).toNat, ?_, ?_⟩⟩
  · have := q _ (List.getLast_mem ne)
    exact List.mem_range.mpr (by omega)
  · have := q _ (List.getLast_mem ne)
    rw [Int.toNat_of_nonneg this.1]
theorem BP {p c : Int} (h : (p, c) ∈ cB) {a : List Int} (ca : Code p c a) : a ∈ bt p c := by
 have b := dH h
 have l := ca.len
 refine qG _ _ _ (by omega) λ x hx => ?_
 have := ca.all x hx
 omega
noncomputable def qR (P C : List Int) (a : lI) : lI := (bN P C a.1, a.2)
theorem Ec {p c : Int} {P C : List Int} (hP : Ord p P) (hC : Ord c C) {a : lI} (ha : AskOk p c a) : AskOk p c (qR P C a) := ⟨qF hP hC ha.code, ha.two, ha.b⟩
theorem BQ {p c : Int} {P C : List Int} (hP : Ord p P) (hC : Ord c C) {as : List lI} (ao : ∀ a ∈ as, AskOk p c a) {x : List Int} (cx : Code p c x) : eR (as.map (qR P C)) (bN P C x) = eR as x := by
 unfold eR
 rw [List.all_map, Bool.eq_iff_iff, tN, tN]
 have e : ∀ a ∈ as, ((λ a : lI => decide (GC.qQ (bN P C x) a.1 = a.2)) ∘ qR P C) a = decide (GC.qQ x a.1 = a.2) := λ a ha => by
  show decide (GC.qQ (bN P C x) (bN P C a.1) = a.2) = _
  rw [yY hP hC cx (ao a ha).code]
 exact ⟨λ h a ha => by rw [<- e a ha]; exact h a ha, λ h a ha => by rw [e a ha]; exact h a ha⟩
theorem BR {p c : Int} (h : (p, c) ∈ cB) {P C : List Int} (hP : Ord p P) (hC : Ord c C) {as : List lI} (ao : ∀ a ∈ as, AskOk p c a) :
 (((bt p c).filter (eR as)).map (bN P C)).Nodup /\ (bt p c).filter (eR (as.map (qR P C))) = d4 (((bt p c).filter (eR as)).map (bN P C)) := by
 have asc := yZ h
 have nd := Eb asc
 have inj : ∀ {l : List (List Int)}, (∀ x ∈ l, Code p c x) -> l.Nodup -> (l.map (bN P C)).Nodup := λ {l} hl nd => by
  refine List.pairwise_map.mpr (List.Pairwise.imp_of_mem (λ {x y} hx hy e z => e (yW hP hC (hl x hx) (hl y hy) z)) nd)
 have nm := inj (fW h) nd
 have pm : ((bt p c).map (bN P C)).Perm (bt p c) := nu nm (λ y hy => by
  obtain ⟨x, hx, rfl⟩ := Qc.mp hy
  exact BP h (qF hP hC (fW h x hx))) (Nat.le_of_eq (zJ _).symm)
 have fm : ((bt p c).map (bN P C)).filter (eR (as.map (qR P C))) = ((bt p c).filter (eR as)).map (bN P C) := by
  rw [List.filter_map]
  congr 1
  exact List.filter_congr λ x hx => BQ hP hC ao (fW h x hx)
 have nf : (((bt p c).filter (eR as)).map (bN P C)).Nodup := inj (λ x hx => fW h x (List.mem_filter.mp hx).1) (nd.filter _)
 refine ⟨nf, pS nf ?_ (asc.filter _)⟩
 rw [<- fm]
 exact (pm.filter _).symm
theorem ua : ∀ ks : List (List Int), vw (ks.map aM) = some ks
 | [] => rfl
 | k :: r => by
  show (C7 (aM k)).bind (λ k => (vw (r.map aM)).map (k :: ·)) = _
  rw [ua r, show C7 (aM k) = some k from br k]
  rfl
theorem qH {ks : List (List Int)} (h1 : ∀ k ∈ ks, k ≠ []) (h2 : ks.length < 128) (nd : ks.Nodup) : gY [.list (ks.map aM)] = some (cv (d4 ks)) := by
 show ((vw (ks.map aM)).bind λ ks => if (ks.all (λ k => !k.isEmpty) && decide (ks.length < 128) && decide ks.Nodup) = true then some (PyData.list ((d4 ks).map λ k => PyData.tuple (k.map PyData.int))) else none) = _
 rw [ua, zD, if_pos]
 · rfl
 · simp only [Qa, decide_eq_true_eq, tN]
   refine ⟨⟨λ k hk => ?_, h2⟩, nd⟩
   cases k with
   | nil => exact absurd rfl (h1 [] hk)
   | cons _ _ => rfl
noncomputable def me (x m : Int) : List (List Int) := (List.range m.toNat).map λ i : Nat => [gQ (x + 29 * (i : Int) * (i : Int) + 3 * (i : Int)) 9907 997, (i : Int)]
theorem Cy (x m : Int) : (me x m).Nodup := (List.nodup_range).map (R := (· ≠ ·)) (S := (· ≠ ·)) _ λ a b e z => e (by
 injection z with _ z
 injection z with z _
 omega)
theorem uc {m : Int} (h0 : 1 <= m) (h1 : m <= 5) (x : Int) : ∃ q, cV [.int x, .int m] = some (aM q) /\ Ord m q := by
 have sm := lA (c := m) (by omega) (by omega)
 have z2 : (2 : Nat) <= fH := dw 2
 have c0 : (ag 1 [("_law_cell_here", 0)] (bp (aA (aB 1) aH)) (gN 0) cR (bh (aA (aF 3 aq (aA (d2 bL (d2 bL (aB 1) (d2 fC (d2 fC (dC (.int 29)) (aB 0)) (aB 0))) (d2 fC (dC (.int 3)) (aB 0))) (aA (dC (.int 9907)) (aA (dC (.int 997)) aH)))) (aA (aB 0) aH)))) [some (.fz (.int x)), some (.fz (.int m)), none] = some ((me x m).map aM) := by
  have hi : ((bp (aA (aB 1) aH))) [some (.fz (.int x)), some (.fz (.int m)), none] = some (au 0 m.toNat) := by simp only [aB, aH, aA, bp, zA, zB, zD, ↓reduceIte, sm]
  rw [dF (λ d => match d with | .int i => aM [gQ (x + 29 * i * i + 3 * i) 9907 997, i] | d => d) hi (by rw [gc, zJ, Db]; exact eQ (by omega)) (λ d hd => ?_)]
  · rw [gc, zO, me, zO]
    rfl
  · rw [gc] at hd
    obtain ⟨i, hi, rfl⟩ := Qc.mp hd
    have hi' := List.mem_range.mp hi
    have q1 : j4 29 (i : Int) = true := iX _ (by omega)
    have q2 : j4 (29 * (i : Int)) (i : Int) = true := jE _ (by omega)
    have q3 : j4 3 (i : Int) = true := iX _ (by omega)
    have mx := sv (x + 29 * (i : Int) * (i : Int) + 3 * (i : Int)) (show (0 : Int) < 9907 by decide) (show (0 : Int) < 997 by decide)
    simp only [aB, dC, d2, aF, aH, aA, bh, fK, cR, gN, pJ, iI, zI, zL, zC, zH, Q7, Qe, zA, zB, zE, List.replicate, zD, zG, Nat.reduceAdd, ↓reduceIte, q1, q2, q3, mx, z2]
    rfl
 have kl : (me x m).length = m.toNat := by simp [me]
 have so := qH (ks := me x m) (λ k hk => by
  obtain ⟨i, _, rfl⟩ := Qc.mp hk
  simp) (by omega) (Cy x m)
 have pk : (d4 (me x m)).Perm (me x m) := List.mergeSort_perm ..
 have c1 : (ag 1 [] (bB (ai gY (aA (aB 2) aH))) (gN 0) cR (d2 bS (aB 0) (dC (.int 1)))) [some (.fz (.int x)), some (.fz (.int m)), some (.fz (.list ((me x m).map aM)))] = some (((d4 (me x m)).map λ k => k.getD 1 0).map PyData.int) := by
  have hi : ((bB (ai gY (aA (aB 2) aH)))) [some (.fz (.int x)), some (.fz (.int m)), some (.fz (.list ((me x m).map aM)))] = some ((d4 (me x m)).map aM) := by
   simp only [aB, ai, aH, aA, bB, iQ, zA, zB, zD, so, cv]
  rw [dF (λ d => .int ((cJ d).getD 1 0)) hi (by rw [zJ, pk.length_eq]; exact eQ (by omega)) (λ d hd => ?_)]
  · rw [zO, zO]
    congr 1
    exact yo λ k _ => by
     show PyData.int ((cJ (aM k)).getD 1 0) = _
     rw [bZ]
     rfl
  · obtain ⟨k, hk, rfl⟩ := jz hd
    obtain ⟨i, _, rfl⟩ := Qc.mp (pk.mem_iff.mp hk)
    rw [bZ]
    rfl
 refine ⟨(d4 (me x m)).map λ k => k.getD 1 0, ?_, ?_, ?_⟩
 · simp only [cV, p9, kP, kO, bQ, eY, aN, af, ac, ai, aH, aA, az, bn, lX, zI, zL, zC, zH, Q7, Qe, zE, zF, List.replicate, zD, zG, Nat.reduceAdd, Nat.reduceSub, c0, c1]
   rfl
 · rw [zJ, pk.length_eq, kl]; omega
 · refine (pk.map _).trans ?_
   rw [me, zO]
   exact .refl _
noncomputable def Eu (n : Int) : List Int := (List.range n.toNat).map λ i : Nat => (i : Int)
theorem Ed (n : Int) : (Eu n).Pairwise (· <= ·) := List.pairwise_map.mpr (List.pairwise_lt_range.imp λ {a b} h => by omega)
theorem Ord.up {n : Int} {q : List Int} (h : Ord n q) : E8 q = Eu n := (D7 h.perm.symm (Ed n)).symm
theorem BS (a : List Int) : jW (.list (a.map .int)) (.list (a.map .int)) = some (.bool true) := by
 have ok : okN 1 (.list (a.map .int)) := pI λ d hd => by
  obtain ⟨x, _, rfl⟩ := Qc.mp hd
  exact jy _
 have nb' : nb (.list (a.map .int)) = true := sU λ d hd => by
  obtain ⟨x, _, rfl⟩ := Qc.mp hd
  rfl
 rw [sV ok.ok ok.ok, (lf _ _ nb' nb').mpr rfl]
noncomputable def nO (n : Int) : PyData -> Bool
 | .int k => decide (0 <= k) && decide (k <= n - 1)
 | _ => false
noncomputable def rZ : PyData -> Bool
 | .int _ => true
 | .none => true
 | .str _ => true
 | _ => false
theorem Ee (s : Str) : iR (.str s) "int" = false := by simp [iR, yk]
theorem Ef (s : Str) : iR (.str s) "tuple" = false := by simp [iR, yk]
theorem Eg : iR .none "int" = false := by decide
theorem Eh (n : Int) {d : PyData} (h : rZ d = true) : aT [d, .int 0, .int (n - 1)] = some (.bool (nO n d)) := by
 cases d with
 | int k => exact nK k 0 (n - 1)
 | none => simp only [aT, cW, cA, bQ, eY, ac, aB, dB, cQ, pD, bn, fR, ko, zI, zL, zC, zH, Q4, zA, zB, List.replicate, zD, zG, Nat.reduceAdd, Nat.reduceSub, ↓reduceIte, zN, Eg, nO]
 | str s => simp only [aT, cW, cA, bQ, eY, ac, aB, dB, cQ, pD, bn, fR, ko, zI, zL, zC, zH, Q4, zA, zB, List.replicate, zD, zG, Nat.reduceAdd, Nat.reduceSub, ↓reduceIte, zN, Ee, nO]
 | bool _ => cases h
 | list _ => cases h
 | tuple _ => cases h
 | dict _ => cases h
theorem r9 (n : Int) {ds : List PyData} (hl : ds.length <= 1000) (hd : ∀ d ∈ ds, rZ d = true) : (ag 1 [("size", 1)] (bB (aB 0)) (gN 0) cR (aF 3 aT (aA (aB 0) (aA (dC (.int 0)) (aA (d2 qV (aB 1) (dC (.int 1))) aH))))) [some (.fz (.tuple ds)), some (.fz (.int n))] = some ((ds.map (nO n)).map PyData.bool) := by
 rw [dF (λ d => .bool (nO n d)) rfl (eQ hl) (λ d hd' => ?_), zO]
 · rfl
 · have q := Eh n (hd d hd')
   simp only [aB, dC, d2, aF, aH, aA, fK, cR, gN, vd, zI, zL, zC, zH, Q7, Qe, zA, zB, zE, List.replicate, zD, zG, Nat.reduceAdd, ↓reduceIte, q]
theorem ji {n : Int} (hn : n <= 50) {q : List Int} (h : Ord n q) : bI [aM q, .int n] = some (.bool true) := by
 have l := h.len
 have e0 : decide (((q.map PyData.int).length : Int) = n) = true := decide_eq_true (by rw [zJ]; exact l)
 have mm := r9 n (ds := q.map .int) (by rw [zJ]; omega) (λ d hd => by
  obtain ⟨x, _, rfl⟩ := Qc.mp hd
  rfl)
 have al : ((q.map PyData.int).map (nO n)).all id = true := tN.mpr λ b hb => by
  obtain ⟨d, hd, rfl⟩ := Qc.mp hb
  obtain ⟨x, hx, rfl⟩ := Qc.mp hd
  have := h.b x hx
  show (decide (0 <= x) && decide (x <= n - 1)) = true
  rw [decide_eq_true this.1, decide_eq_true (show x <= n - 1 by omega)]
  rfl
 have bm := gr ((q.map PyData.int).map (nO n))
 have so : pZ [.tuple (q.map .int)] = some (.list ((Eu n).map .int)) := by
  show ((jK (q.map .int)).bind λ ns => if ns.length < 64 then some (PyData.list ((E8 ns).map .int)) else none) = _
  rw [br, zD, if_pos (by omega), h.up]
 have rg : au 0 n.toNat = (Eu n).map .int := by rw [gc, Eu, zO]; rfl
 have r1 : decide (0 <= n) = true := decide_eq_true (by omega)
 have r2 : decide (n <= 100000) = true := decide_eq_true (by omega)
 have eq := BS (Eu n)
 simp only [bI, dg, d8, d7, aM, bQ, eY, aN, eA, ac, aB, dC, d2, ai, aH, aA, az, dB, dJ, kF, bx, kG, cQ, av, bn, fR, nC, cz, n9, oC, fD, zI, zL, zC, zH, Q4, zA, zB, List.replicate, zD, zG, Nat.reduceAdd, Nat.reduceSub, ↓reduceIte, wb, Bool.and_true, zN, oO, e0, mm, bm, al, so, rg, r1, r2, eq]
theorem di {n : Int} {ds : List PyData} (hl : ds.length <= 1000) (hd : ∀ d ∈ ds, rZ d = true) (hb : (ds.length : Int) ≠ n \/ ds.all (nO n) = false) : bI [.tuple ds, .int n] = some (.bool false) := by
 by_cases c : (ds.length : Int) = n
 · have e0 : decide ((ds.length : Int) = n) = true := decide_eq_true c
   have al : (ds.map (nO n)).all id = false := by
    rw [List.all_map]
    exact hb.resolve_left λ z => z c
   have mm := r9 n hl hd
   have bm := gr (ds.map (nO n))
   simp only [bI, dg, d8, d7, bQ, eY, aN, eA, ac, aB, dC, d2, ai, aH, aA, az, dB, dJ, kF, bx, kG, cQ, av, bn, fR, nC, cz, n9, oC, fD, zI, zL, zC, zH, Q4, zA, zB, List.replicate, zD, zG, Nat.reduceAdd, Nat.reduceSub, ↓reduceIte, wb, zN, oO, e0, mm, bm, al]
 · have e0 : decide ((ds.length : Int) = n) = false := decide_eq_false c
   simp only [bI, dg, d8, d7, bQ, eY, aN, eA, ac, aB, dC, d2, ai, aH, aA, az, dB, dJ, kF, bx, kG, cQ, av, bn, fR, nC, cz, n9, fD, zI, zL, zC, zH, Q4, zA, zB, List.replicate, zD, zG, Nat.reduceAdd, Nat.reduceSub, ↓reduceIte, wb, yr, zN, oO, e0]
noncomputable def tG (n : Int) (R : List Int) : List PyData := [.none, .list (R.map .int), .tuple (R.map .int ++ [.int n]), .tuple (R.tail.map .int), .tuple (R.tail.map .int ++ [.int n]), .tuple (List.replicate (n + 1).toNat (.int 0)), .str (PySem.Str.ofString "01"), .tuple [.none], .tuple (R.tail.map .int ++ [.str (PySem.Str.ofString "0")])]
theorem BT {n : Int} (h0 : 1 <= n) (h1 : n <= 5) {R : List Int} (h : Ord n R) {d : PyData} (hd : d ∈ tG n R) : bI [d, .int n] = some (.bool false) := by
 have l := h.len
 have intsN : ∀ {l : List Int} {d : PyData}, d ∈ l.map PyData.int -> rZ d = true := λ {l d} hd => by
  obtain ⟨x, _, rfl⟩ := Qc.mp hd
  rfl
 have snocN : ∀ {l : List Int} {e d : PyData}, rZ e = true -> d ∈ l.map PyData.int ++ [e] -> rZ d = true := λ {l e d} he hd => by
  rcases xY.mp hd with q | q
  · exact intsN q
  · rw [yp.mp q]; exact he
 have last : ∀ (l : List PyData) (e : PyData), nO n e = false -> (l ++ [e]).all (nO n) = false := λ l e he => by
  rw [List.all_append, List.all_cons, he]
  simp
 have nn : nO n (.int n) = false := by
  show (decide (0 <= n) && decide (n <= n - 1)) = false
  rw [decide_eq_false (show ¬ n <= n - 1 by omega), Bool.and_false]
 have lt := List.length_tail (l := R)
 simp only [tG, qS, List.not_mem_nil, or_false] at hd
 rcases hd with rfl | rfl | rfl | rfl | rfl | rfl | rfl | rfl | rfl
 · simp only [bI, dg, d8, d7, bQ, eY, aN, eA, ac, aB, dC, d2, ai, aH, aA, az, dB, dJ, kF, bx, kG, cQ, av, bn, fR, A5, cz, fD, zI, zL, zC, zH, Q4, zA, zB, List.replicate, zD, zG, Nat.reduceAdd, Nat.reduceSub, ↓reduceIte, yr, A5]
 · simp only [bI, dg, d8, d7, bQ, eY, aN, eA, ac, aB, dC, d2, ai, aH, aA, az, dB, dJ, kF, bx, kG, cQ, av, bn, fR, EU, cz, D5, fD, zI, zL, zC, zH, Q4, zA, zB, List.replicate, zD, zG, Nat.reduceAdd, Nat.reduceSub, ↓reduceIte, yr]
 · exact di (by rw [zQ, zJ]; simp; omega) (λ d hd => snocN rfl hd) (.inl (by rw [zQ, zJ]; simp; omega))
 · exact di (by rw [zJ]; omega) (λ d hd => intsN hd) (.inl (by rw [zJ]; omega))
 · exact di (by rw [zQ, zJ]; simp; omega) (λ d hd => snocN rfl hd) (.inr (last _ _ nn))
 · exact di (by rw [ym]; omega) (λ d hd => by rw [List.eq_of_mem_replicate hd]; rfl) (.inl (by rw [ym]; omega))
 · simp only [bI, dg, d8, d7, bQ, eY, aN, eA, ac, aB, dC, d2, ai, aH, aA, az, dB, dJ, kF, bx, kG, cQ, av, bn, fR, cz, fD, zI, zL, zC, zH, Q4, zA, zB, List.replicate, zD, zG, Nat.reduceAdd, Nat.reduceSub, ↓reduceIte, yr, Ef]
 · exact di (by simp) (λ d hd => by rw [yp.mp hd]; rfl) (.inr rfl)
 · exact di (by rw [zQ, zJ]; simp; omega) (λ d hd => snocN rfl hd) (.inr (last _ _ rfl))
theorem fX {n : Int} {d : PyData} (h : bI [d, .int n] = some (.bool true)) : bC [d, .int n] = some d := by simp only [bC, hW, fU, fT, bQ, eY, aN, eA, ac, aB, aF, aH, aA, dJ, kF, bx, av, fP, bn, zI, zL, zC, zH, Q4, zA, zB, List.replicate, zD, zG, Nat.reduceAdd, Nat.reduceSub, ↓reduceIte, wb, zN, h]
theorem iZ {n : Int} {d : PyData} (h : bI [d, .int n] = some (.bool false)) : bC [d, .int n] = none /\ bG [d, .int n] = true := by
 constructor
 · simp only [bC, hW, fU, fT, bQ, eY, aN, eA, ac, aB, aF, aH, aA, dJ, kF, bx, av, fP, zI, zL, zC, zH, Q4, zA, zB, List.replicate, zD, Option.bind_none, zG, Nat.reduceAdd, Nat.reduceSub, ↓reduceIte, yr, h]
 · have z : decide (1 <= 1000) = true := rfl
   simp only [bG, yE, Ca, sY, eY, aB, dC, aF, aH, aA, dJ, kF, bx, zI, zL, zC, zH, Q4, zA, zB, List.replicate, zD, zG, Nat.reduceAdd, Nat.reduceSub, ↓reduceIte, yr, h]
   rfl
theorem BU {n : Nat} {i : Int} (h0 : 0 <= i) (h1 : i < n) : vQ n i = some i.toNat := by
 unfold vQ
 rw [if_pos h0, if_pos h1]
theorem tH {l : List Int} {i : Int} (h0 : 0 <= i) (h1 : i < l.length) : bS (.tuple (l.map PyData.int)) (.int i) = some (.int (l.getD i.toNat 0)) := by
 obtain ⟨j, rfl⟩ := Int.eq_ofNat_of_zero_le h0
 have hj : j < l.length := by omega
 rw [show ((j : Int)).toNat = j by omega, g6 hj]
 exact Et l hj
theorem ud (l : List Int) (j : Nat) (v : Int) : (l.map PyData.int).set j (.int v) = (l.set j v).map PyData.int := (List.map_set ..).symm
theorem oG {p c : Int} (hp : p <= 5) {P C a : List Int} (hP : Ord p P) (hC : Ord c C) (ca : Code p c a) : cF [aM a, aM P, aM C] = some (aM (bN P C a)) := by
 have la := ca.len
 obtain ⟨δ', e1, v1, v2, e2⟩ := cT (fg := (gT 2 (gC (gN 4) (gC (gN 5) gZ)))) (fb := (fS 3 (d2 bS (aB 1) (aB 4)) (d2 bS (aB 2) (aB 5)))) (ds := fA (a.map PyData.int))
  (δ := [some (.fz (.tuple (a.map .int))), some (.fz (.tuple (P.map .int))), some (.fz (.tuple (C.map .int))), some (.ow (a.map .int)), none, none])
  (λ i δ => ∃ v1 v2, δ = [some (.fz (.tuple (a.map .int))), some (.fz (.tuple (P.map .int))), some (.fz (.tuple (C.map .int))), some (.ow ((Bg P C a i).map .int)), v1, v2]) ⟨none, none, rfl⟩ (by
   rintro i hi δ ⟨v1, v2, rfl⟩
   have hi' : i < a.length := by simpa [fA] using hi
   have ed : (fA (a.map PyData.int))[i] = .tuple [.int (i : Nat), .int a[i]] := by
    have := fI hi
    obtain ⟨e, h1, h2⟩ := jv this
    rw [Cq a hi'] at h1
    cases h1
    exact h2
   have b1 := ca.all a[i] (tM hi')
   have lP := hP.len
   have lC := hC.len
   have b2 := hP.b _ (eF (l := P) (i := i) (by omega))
   have x1 : bS (.tuple (C.map PyData.int)) (.int a[i]) = some (.int (col C (a.getD i 0))) := by
    rw [tH b1.1 (by omega), g6 hi']
    rfl
   have x2 : bS (.tuple (P.map PyData.int)) (.int (i : Nat)) = some (.int (P.getD i 0)) := by
    rw [tH (by omega) (by omega)]
    rfl
   have x3 : vQ ((Bg P C a i).map PyData.int).length (P.getD i 0) = some (at_ P i) := by
    rw [zJ, md]
    exact BU b2.1 (by omega)
   rw [ed]
   refine ⟨_, _, rfl, ?_, some (.fz (.int (i : Nat))), some (.fz (.int a[i])), rfl⟩
   rw [m8, <- ud]
   simp only [aB, d2, zA, zB, zE, zF, zD, zG, fS, x1, x2, x3])
 have len2 : (fA (a.map PyData.int)).length = a.length := by simp [fA]
 rw [len2] at e2
 subst e2
 simp only [cF, nI, jS, jR, jQ, aM, bQ, eY, aN, cL, ac, j3, cf, aB, ai, aH, aA, iQ, Bd, DL.frz, bn, lX, dE, zI, zL, zC, zH, Q7, Qe, zA, zB, zE, zF, List.replicate, zD, zG, Nat.reduceAdd, Nat.reduceSub, e1]
 rfl
theorem mf {p c : Int} (hp : p <= 5) {P C a : List Int} (hP : Ord p P) (hC : Ord c C) (ca : Code p c a) : bc [aM a, aM P, aM C] = some (aM (bN P C a)) := by
 have la := ca.len
 have sl := lA (c := ((a.map PyData.int).length : Nat)) (by omega) (by rw [zJ]; omega)
 have ln : (((a.map PyData.int).length : Nat) : Int).toNat = a.length := by rw [zJ]; omega
 obtain ⟨δ', e1, v1, e2⟩ := cT (fg := (gN 4)) (fb := (fS 3 (d2 bS (aB 1) (aB 4)) (d2 bS (aB 2) (d2 bS (aB 0) (aB 4))))) (ds := au 0 a.length)
  (δ := [some (.fz (.tuple (a.map .int))), some (.fz (.tuple (P.map .int))), some (.fz (.tuple (C.map .int))), some (.ow (a.map .int)), none])
  (λ i δ => ∃ v1, δ = [some (.fz (.tuple (a.map .int))), some (.fz (.tuple (P.map .int))), some (.fz (.tuple (C.map .int))), some (.ow ((Bg P C a i).map .int)), v1]) ⟨none, rfl⟩ (by
   rintro i hi δ ⟨v1, rfl⟩
   have hi' : i < a.length := by simpa [au] using hi
   have ed : (au 0 a.length)[i] = .int (i : Nat) := by simp [au]
   have b1 := ca.all a[i] (tM hi')
   have lP := hP.len
   have lC := hC.len
   have b2 := hP.b _ (eF (l := P) (i := i) (by omega))
   have x0 : bS (.tuple (a.map PyData.int)) (.int (i : Nat)) = some (.int a[i]) := Et a hi'
   have x1 : bS (.tuple (C.map PyData.int)) (.int a[i]) = some (.int (col C (a.getD i 0))) := by
    rw [tH b1.1 (by omega), g6 hi']
    rfl
   have x2 : bS (.tuple (P.map PyData.int)) (.int (i : Nat)) = some (.int (P.getD i 0)) := by
    rw [tH (by omega) (by omega)]
    rfl
   have x3 : vQ ((Bg P C a i).map PyData.int).length (P.getD i 0) = some (at_ P i) := by
    rw [zJ, md]
    exact BU b2.1 (by omega)
   rw [ed]
   refine ⟨_, _, rfl, ?_, some (.fz (.int (i : Nat))), rfl⟩
   rw [m8, <- ud]
   simp only [aB, d2, zA, zB, zE, zF, zD, zG, fS, x0, x1, x2, x3])
 have len2 : (au 0 a.length).length = a.length := by simp [au]
 rw [len2] at e2
 subst e2
 simp only [bc, ph, kX, kW, kU, aM, bQ, eY, aN, cL, ac, j3, cf, aB, ai, aH, aA, iQ, bp, DL.frz, bn, cz, n9, lX, dE, zI, zL, zC, zH, Q7, Qe, zA, zB, zE, zF, List.replicate, zD, zG, Nat.reduceAdd, Nat.reduceSub, ↓reduceIte, sl, ln, e1]
 rfl
theorem wJ {p c : Int} (h : (p, c) ∈ cB) {P C : List Int} (hP : Ord p P) (hC : Ord c C) {as : List lI} (ao : ∀ a ∈ as, AskOk p c a) (al : as.length <= 8) :
 fE [aM [p, c], bq as, aM P, aM C] = some (bq (as.map (qR P C))) := by
 have b := dH h
 have i0 : bS (aM [p, c]) (.int 0) = some (.int p) := rfl
 have i1 : bS (aM [p, c]) (.int 1) = some (.int c) := rfl
 have q1 := eJ h
 have q2 := gR h ao al
 have q3 := fX (ji (by omega) hP)
 have q4 := fX (ji (by omega) hC)
 have z2 : (2 : Nat) <= fH := dw 2
 have cx : (ag 1 [("places", 2), ("colours", 3)] (bB (aB 1)) (gN 0) cR (bh (aA (aF 3 cF (aA (d2 bS (aB 0) (dC (.int 0))) (aA (aB 1) (aA (aB 2) aH)))) (aA (d2 bS (aB 0) (dC (.int 1))) aH)))) [some (.fz (aM [p, c])), some (.fz (bq as)), some (.fz (aM P)), some (.fz (aM C))] = some ((as.map (qR P C)).map cI) := by
  rw [dF (ds := as.map cI) (λ d => match d with | .tuple [d1, d2] => .tuple [aM (bN P C (cJ d1)), d2] | d => d) rfl (by rw [zJ]; exact eQ (by omega)) (λ d hd => ?_)]
  · rw [zO, zO]
    congr 1
    refine yo λ a _ => ?_
    show PyData.tuple [aM (bN P C (cJ (aM a.1))), aM a.2] = _
    rw [bZ]
    rfl
  · obtain ⟨a, ha, rfl⟩ := Qc.mp hd
    have q := oG (by omega) hP hC (ao a ha).code
    have e : (match cI a with | .tuple [d1, d2] => .tuple [aM (bN P C (cJ d1)), d2] | d => d) = PyData.tuple [aM (bN P C a.1), aM a.2] := by
     show PyData.tuple [aM (bN P C (cJ (aM a.1))), aM a.2] = _
     rw [bZ]
    rw [e]
    simp only [aB, dC, d2, aF, aH, aA, bh, fK, cR, gN, zI, zL, zC, zH, Q7, Qe, zA, zB, zE, List.replicate, zD, zG, Nat.reduceAdd, ↓reduceIte, Fu, Fv, q, z2]
 simp only [fE, jh, jC, jB, jA, iy, ix, bQ, eY, aN, ac, dL, aB, dC, d2, aF, aH, aA, az, bn, zI, zL, zC, zH, Q4, zA, zB, List.replicate, zD, zG, Nat.reduceAdd, Nat.reduceSub, ↓reduceIte, q1, q2, q3, q4, i0, i1, cx]
 rfl
theorem Cz {p c : Int} (h : (p, c) ∈ cB) {P C : List Int} (hP : Ord p P) (hC : Ord c C) {as : List lI} (ao : ∀ a ∈ as, AskOk p c a) (al : as.length <= 8) :
 bY [aM [p, c], bq as, aM P, aM C] = some (bq (as.map (qR P C))) := by
 unfold bY rO
 rw [wJ h hP hC ao al]
theorem xV {p c : Int} (h : (p, c) ∈ cB) {as : List lI} (ao : ∀ a ∈ as, AskOk p c a) (al : as.length <= 8) {eP eC : PyData}
 (hd : bI [eP, .int p] = some (.bool false) \/ (bI [eP, .int p] = some (.bool true) /\ bI [eC, .int c] = some (.bool false))) :
 bY [aM [p, c], bq as, eP, eC] = some (.list [.bool true, .bool true]) := by
 have i0 : bS (aM [p, c]) (.int 0) = some (.int p) := rfl
 have i1 : bS (aM [p, c]) (.int 1) = some (.int c) := rfl
 have q1 := eJ h
 have q2 := gR h ao al
 have e : fE [aM [p, c], bq as, eP, eC] = none /\ bo [aM [p, c], bq as, eP, eC] = true := by
  rcases hd with hd | ⟨hd, he⟩
  · obtain ⟨r1, r2⟩ := iZ hd
    constructor
    · simp only [fE, jh, jC, jB, jA, iy, ix, bQ, eY, aN, ac, dL, aB, dC, d2, aF, aH, aA, az, zI, zL, zC, zH, Q4, zA, zB, List.replicate, zD, Option.bind_none, zG, Option.map_none, Nat.reduceAdd, Nat.reduceSub, ↓reduceIte, q1, q2, r1, i0]
    · simp only [bo, yE, vj, oS, rN, eY, dL, aB, dC, d2, aF, aH, aA, zI, zL, zC, zH, Q4, zA, zB, List.replicate, zD, zG, Option.map_none, Nat.reduceAdd, Nat.reduceSub, ↓reduceIte, Bool.and_true, Bool.or_false, q1, q2, r1, r2, i0, decide_true]
  · have r0 := fX hd
    obtain ⟨r1, r2⟩ := iZ he
    constructor
    · simp only [fE, jh, jC, jB, jA, iy, ix, bQ, eY, aN, ac, dL, aB, dC, d2, aF, aH, aA, az, zI, zL, zC, zH, Q4, zA, zB, List.replicate, zD, Option.bind_none, zG, Option.map_none, Nat.reduceAdd, Nat.reduceSub, ↓reduceIte, q1, q2, r0, r1, i0, i1]
    · simp only [bo, yE, vj, oS, rN, eY, dL, aB, dC, d2, aF, aH, aA, zI, zL, zC, zH, Q4, zA, zB, List.replicate, zD, zG, Nat.reduceAdd, Nat.reduceSub, ↓reduceIte, Bool.and_true, Bool.true_and, Bool.or_true, q1, q2, r0, r2, i0, i1, decide_true]
 unfold bY rO
 rw [e.1, e.2]
 rfl
theorem qh (as : List lI) : tP (bq as) (bq as) = some (.bool false) := by
 have ok : okN 3 (bq as) := pI λ d hd => by
  obtain ⟨x, _, rfl⟩ := Qc.mp hd
  exact Cw x
 have nb' : nb (bq as) = true := sU λ d hd => by
  obtain ⟨x, _, rfl⟩ := Qc.mp hd
  exact Cv x
 rw [vc ok.ok ok.ok, (lf _ _ nb' nb').mpr rfl]
 rfl
theorem BV : jW (.list [.bool true, .bool true]) (.list [.bool true, .bool true]) = some (.bool true) := rfl
theorem GV {R : List Int} (h : 1 <= R.length) : sQ (R.map PyData.int) (some 1) none = R.tail.map PyData.int := by
 rw [BJ (by omega) (by omega), show (1 : Int).toNat = 1 from rfl, List.drop_one]
theorem Ei {n : Int} {R : List Int} {k : Int} (h : 0 <= k /\ k < 9) : ∃ d ∈ tG n R, nW (tG n R) k = some d := by
 obtain ⟨j, rfl⟩ := Int.eq_ofNat_of_zero_le h.1
 have hj : j < (tG n R).length := by show j < 9; omega
 exact ⟨_, tM hj, pL hj⟩
theorem BW {n : Int} (h0 : 1 <= n) (h1 : n <= 5) {R : List Int} (hR : Ord n R) :
 v9 (.tuple (R.map PyData.int)) = some n.toNat /\ bL (.tuple (R.map PyData.int)) (.tuple [.int n]) = some (.tuple (R.map .int ++ [.int n])) /\ sQ (R.map PyData.int) (some 1) none = R.tail.map .int /\ (∀ e, bL (.tuple (R.tail.map PyData.int)) (.tuple [e]) = some (.tuple (R.tail.map .int ++ [e]))) /\ uV (.tuple [.int 0]) (.int (n + 1)) = some (.tuple (List.replicate (n + 1).toNat (.int 0))) := by
 have l := hR.len
 have lt := List.length_tail (l := R)
 refine ⟨by rw [n9, zJ]; congr 1; omega, ?_, GV (by omega), λ e => ?_, ?_⟩
 · have q : (R.map PyData.int).length + [PyData.int n].length <= fH := by rw [zJ]; exact eQ (by simp; omega)
   simp only [bL, q, ↓reduceIte]
 · have q : (R.tail.map PyData.int).length + [e].length <= fH := by rw [zJ]; exact eQ (by simp; omega)
   simp only [bL, q, ↓reduceIte]
 · show (if 0 <= n + 1 /\ n + 1 <= 6 then _ else _) = _
   rw [if_pos ⟨by omega, by omega⟩]
theorem DA {p c : Int} (h : (p, c) ∈ cB) {P C : List Int} (hP : Ord p P) (hC : Ord c C) {as : List lI} (ao : ∀ a ∈ as, AskOk p c a) (al : as.length <= 4) (ns : List Int) (h3 : bg ns 0 % 4 = 3) {B : aP -> Option DFlow} (hB : B = jD) :
 B [some (.fz (iO ns)), some (.fz (aM [p, c])), some (.fz (bq as)), some (.fz (.tuple (P.map .int))), some (.fz (.tuple (C.map .int))), none, none, none, none, none, none] = some (.rt (.bool true)) := by
 have b := dH h
 have c0 : aX [iO ns, .int 0] = some (.int (bg ns 0)) := jF ns 0
 have c1 : aX [iO ns, .int 1] = some (.int (bg ns 1)) := jF ns 1
 have m4 : sO (bg ns 0) 4 = true := rfl
 have m2 : sO (bg ns 1) 2 = true := rfl
 have m9 : sO (bg ns 1) 9 = true := rfl
 have e3 : jW (.int (bg ns 0 % 4)) (.int 3) = some (.bool true) := by rw [eG, decide_eq_true h3]
 have z1 : (1 : Nat) <= fH := dw 1
 have z2 : (2 : Nat) <= fH := dw 2
 have z8 : (8 : Nat) <= fH := dw 8
 have z9 : (9 : Nat) <= fH := dw 9
 have k9 : 0 <= bg ns 1 % 9 /\ bg ns 1 % 9 < 9 := ⟨Int.emod_nonneg _ (by decide), Int.emod_lt_of_pos _ (by decide)⟩
 have k2 : bg ns 1 % 2 = 0 \/ bg ns 1 % 2 = 1 := by omega
 generalize hk : bg ns 1 % 9 = k at k9
 generalize hw : bg ns 1 % 2 = w at k2
 subst hB
 have main : ∀ (n : Int) (R : List Int), 1 <= n -> n <= 5 -> Ord n R -> ∃ d ∈ tG n R, bS (.list (tG n R)) (.int k) = some d := λ n R _ _ _ => Ei k9
 unfold jD
 generalize nJ = B5
 rcases k2 with rfl | rfl
 · obtain ⟨o1, o2, o3, o4, o5⟩ := BW (n := p) (by omega) (by omega) hP
   obtain ⟨d, hd, ed⟩ := main p P (by omega) (by omega) hP
   have to : bY [aM [p, c], bq as, d, .tuple (C.map .int)] = some (.list [.bool true, .bool true]) := xV h ao (by omega) (.inl (BT (by omega) (by omega) hP hd))
   have tn : ((p.toNat : Nat) : Int) = p := by omega
   have i0 : ∀ a b : PyData, bS (.list [a, b]) (.int 0) = some a := λ _ _ => rfl
   have i1 : ∀ a b : PyData, bS (.list [a, b]) (.int 1) = some b := λ _ _ => rfl
   have n0 : vQ 2 0 = some 0 := rfl
   have a8 : ∀ a b c d e f g h i : PyData, bL (.list [a, b, c, d, e, f, g, h]) (.list [i]) = some (.list [a, b, c, d, e, f, g, h, i]) := λ _ _ _ _ _ _ _ _ _ => rfl
   unfold tG at ed
   simp only [aN, eA, af, cL, ac, aB, dC, d2, ai, aF, aH, aA, bh, bd, az, dB, iQ, av, cz, dE, sW, iI, Be, gJ, kJ, Er, qW, yD, zC, zH, zA, zB, zE, zF, zD, zG, Nat.reduceAdd, ↓reduceIte, c0, c1, m4, m2, m9, e3, hw, hk, z1, z2, z8, o1, o2, o3, o4, o5, tn, i0, i1, n0, a8, fS, ed, to, BV, cz]
 · obtain ⟨o1, o2, o3, o4, o5⟩ := BW (n := c) (by omega) (by omega) hC
   obtain ⟨d, hd, ed⟩ := main c C (by omega) (by omega) hC
   have to : bY [aM [p, c], bq as, .tuple (P.map .int), d] = some (.list [.bool true, .bool true]) := xV h ao (by omega) (.inr ⟨ji (by omega) hP, BT (by omega) (by omega) hC hd⟩)
   have tn : ((c.toNat : Nat) : Int) = c := by omega
   have i0 : ∀ a b : PyData, bS (.list [a, b]) (.int 0) = some a := λ _ _ => rfl
   have i1 : ∀ a b : PyData, bS (.list [a, b]) (.int 1) = some b := λ _ _ => rfl
   have n0 : vQ 2 1 = some 1 := rfl
   have a8 : ∀ a b c d e f g h i : PyData, bL (.list [a, b, c, d, e, f, g, h]) (.list [i]) = some (.list [a, b, c, d, e, f, g, h, i]) := λ _ _ _ _ _ _ _ _ _ => rfl
   unfold tG at ed
   simp only [aN, eA, af, cL, ac, aB, dC, d2, ai, aF, aH, aA, bh, bd, az, dB, iQ, av, cz, dE, sW, iI, Be, gJ, kJ, Er, qW, yD, zC, zH, zA, zB, zE, zF, zD, zG, Nat.reduceAdd, ↓reduceIte, c0, c1, m4, m2, m9, e3, hw, hk, z1, z2, z8, o1, o2, o3, o4, o5, tn, i0, i1, n0, a8, fS, ed, to, BV, cz]
theorem BX {p c : Int} (h : (p, c) ∈ cB) {P C : List Int} (hP : Ord p P) (hC : Ord c C) {as : List lI} (ao : ∀ a ∈ as, AskOk p c a) (al : as.length <= 4) (ns : List Int) (h3 : bg ns 0 % 4 ≠ 3) :
 jD [some (.fz (iO ns)), some (.fz (aM [p, c])), some (.fz (bq as)), some (.fz (.tuple (P.map .int))), some (.fz (.tuple (C.map .int))), none, none, none, none, none, none] = some (.rt (.bool true)) := by
 have b := dH h
 have c0 : aX [iO ns, .int 0] = some (.int (bg ns 0)) := jF ns 0
 have m4 : sO (bg ns 0) 4 = true := rfl
 have e3 : jW (.int (bg ns 0 % 4)) (.int 3) = some (.bool false) := by rw [eG, decide_eq_false h3]
 have z2 : (2 : Nat) <= fH := dw 2
 have r4 : jD [some (.fz (iO ns)), some (.fz (aM [p, c])), some (.fz (bq as)), some (.fz (.tuple (P.map .int))), some (.fz (.tuple (C.map .int))), none, none, none, none, none, none] = nJ [some (.fz (iO ns)), some (.fz (aM [p, c])), some (.fz (bq as)), some (.fz (.tuple (P.map .int))), some (.fz (.tuple (C.map .int))), none, none, none, none, none, none] := by
  unfold jD
  generalize nJ = B5
  simp only [aN, eA, af, cL, ac, aB, dC, d2, ai, aF, aH, aA, bh, bd, az, dB, iQ, av, dE, sW, Be, gJ, kJ, Er, qW, yD, zC, zH, zA, zB, zE, zF, zD, Nat.reduceAdd, ↓reduceIte, zN, c0, m4, e3]
 have to : bY [aM [p, c], bq as, .tuple (P.map .int), .tuple (C.map .int)] = some (bq (as.map (qR P C))) := Cz h hP hC ao (by omega)
 have la : (as.map cI).length <= fH := by rw [zJ]; exact eQ (by omega)
 have lo : dE (aA (aB 2) aH) [some (.fz (iO ns)), some (.fz (aM [p, c])), some (.fz (bq as)), some (.fz (.tuple (P.map .int))), some (.fz (.tuple (C.map .int))), none, none, none, none, none, none] = some (as.map cI) := rfl
 have r5 : nJ [some (.fz (iO ns)), some (.fz (aM [p, c])), some (.fz (bq as)), some (.fz (.tuple (P.map .int))), some (.fz (.tuple (C.map .int))), none, none, none, none, none, none] = qA [some (.fz (iO ns)), some (.fz (aM [p, c])), some (.fz (bq as)), some (.fz (.tuple (P.map .int))), some (.fz (.tuple (C.map .int))), none, none, none, none, some (.fz (bq (as.map (qR P C)))), none] := by
  have to' : bY [aM [p, c], .list (as.map cI), .tuple (P.map .int), .tuple (C.map .int)] = some (bq (as.map (qR P C))) := to
  unfold nJ
  generalize qA = B6
  simp only [bq, aN, af, aB, aF, aH, aA, az, iQ, dE, zC, zH, zA, zB, zE, zF, zD, zG, Nat.reduceAdd, ↓reduceIte, to']
 have cx : (ag 2 [("_law_places", 3), ("_law_colours", 4)] (bB (aB 2)) (gT 2 (gC (gN 0) (gC (gN 1) gZ))) cR (bh (aA (aF 3 bc (aA (aB 0) (aA (aB 2) (aA (aB 3) aH)))) (aA (aB 1) aH)))) [some (.fz (iO ns)), some (.fz (aM [p, c])), some (.fz (bq as)), some (.fz (.tuple (P.map .int))), some (.fz (.tuple (C.map .int))), none, none, none, none, some (.fz (bq (as.map (qR P C)))), none] = some ((as.map (qR P C)).map cI) := by
  rw [dF (ds := as.map cI) (λ d => match d with | .tuple [d1, d2] => .tuple [aM (bN P C (cJ d1)), d2] | d => d) rfl la (λ d hd => ?_)]
  · rw [zO, zO]
    congr 1
    refine yo λ a _ => ?_
    show PyData.tuple [aM (bN P C (cJ (aM a.1))), aM a.2] = _
    rw [bZ]
    rfl
  · obtain ⟨a, ha, rfl⟩ := Qc.mp hd
    have q : bc [aM a.1, .tuple (P.map .int), .tuple (C.map .int)] = some (aM (bN P C a.1)) := mf (by omega) hP hC (ao a ha).code
    have e : (match cI a with | .tuple [d1, d2] => .tuple [aM (bN P C (cJ d1)), d2] | d => d) = PyData.tuple [aM (bN P C a.1), aM a.2] := by
     show PyData.tuple [aM (bN P C (cJ (aM a.1))), aM a.2] = _
     rw [bZ]
    rw [e]
    simp only [cI, aB, aF, aH, aA, bh, fK, cR, gN, gT, gZ, gC, zI, zL, zC, zH, Q7, Qe, zA, zB, zE, zF, List.replicate, zD, zG, Nat.reduceAdd, ↓reduceIte, q, z2]
 have ne := qh (as.map (qR P C))
 have r6 : qA [some (.fz (iO ns)), some (.fz (aM [p, c])), some (.fz (bq as)), some (.fz (.tuple (P.map .int))), some (.fz (.tuple (C.map .int))), none, none, none, none, some (.fz (bq (as.map (qR P C)))), none] = pz [some (.fz (iO ns)), some (.fz (aM [p, c])), some (.fz (bq as)), some (.fz (.tuple (P.map .int))), some (.fz (.tuple (C.map .int))), none, none, none, none, some (.fz (bq (as.map (qR P C)))), none] := by
  unfold qA
  generalize pz = B7
  have ne' : tP (bq (as.map (qR P C))) (.list ((as.map (qR P C)).map cI)) = some (.bool false) := ne
  simp only [aN, eA, ac, aB, dC, d2, az, dB, av, zA, zB, zD, zG, ↓reduceIte, zN, cx, ne']
 obtain ⟨nd, srt⟩ := BR h hP hC ao
 have ll : ((bt p c).filter (eR as)).length < 128 := Nat.lt_of_le_of_lt (List.length_filter_le _ _) (BO h)
 have so := qH (ks := ((bt p c).filter (eR as)).map (bN P C)) (λ k hk y => by
  obtain ⟨x, hx, rfl⟩ := Qc.mp hk
  have cx := (fW h x (List.mem_filter.mp hx).1).len
  have := gd P C x
  rw [y] at this
  simp at this
  omega) (by rw [zJ]; exact ll) nd
 have q1 : cY [aM [p, c], bq as] = some (cv ((bt p c).filter (eR as))) := Cu h ao (by omega)
 have ar : ∀ a ∈ as.map (qR P C), AskOk p c a := λ a ha => by
  obtain ⟨x, hx, rfl⟩ := Qc.mp ha
  exact Ec hP hC (ao x hx)
 have q2 := tF h ar (by rw [zJ]; omega)
 rw [srt] at q2
 have cy : (ag 1 [("_law_places", 3), ("_law_colours", 4)] (bB (aF 2 cY (aA (aB 1) (aA (aB 2) aH)))) (gN 0) cR (aF 3 bc (aA (aB 0) (aA (aB 1) (aA (aB 2) aH))))) [some (.fz (iO ns)), some (.fz (aM [p, c])), some (.fz (bq as)), some (.fz (.tuple (P.map .int))), some (.fz (.tuple (C.map .int))), none, none, none, none, some (.fz (bq (as.map (qR P C)))), none] = some ((((bt p c).filter (eR as)).map (bN P C)).map aM) := by
  have hi : ((bB (aF 2 cY (aA (aB 1) (aA (aB 2) aH))))) [some (.fz (iO ns)), some (.fz (aM [p, c])), some (.fz (bq as)), some (.fz (.tuple (P.map .int))), some (.fz (.tuple (C.map .int))), none, none, none, none, some (.fz (bq (as.map (qR P C)))), none] = some (((bt p c).filter (eR as)).map aM) := by
   simp only [aB, aF, aH, aA, bB, iQ, zC, zH, zA, zB, zD, Nat.reduceAdd, ↓reduceIte, q1, cv]
  rw [dF (λ d => aM (bN P C (cJ d))) hi (by rw [zJ]; exact eQ (by omega)) (λ d hd => ?_)]
  · rw [zO, zO]
    congr 1
    exact yo λ x _ => by
     show aM (bN P C (cJ (aM x))) = _
     rw [bZ]
     rfl
  · obtain ⟨x, hx, rfl⟩ := jz hd
    have q : bc [aM x, .tuple (P.map .int), .tuple (C.map .int)] = some (aM (bN P C x)) := mf (by omega) hP hC (fW h x (List.mem_filter.mp hx).1)
    rw [bZ]
    simp only [aB, aF, aH, aA, fK, cR, gN, zI, zL, zC, zH, Q7, Qe, zA, zB, zE, List.replicate, zD, zG, Nat.reduceAdd, ↓reduceIte, q]
 have r7 : pz [some (.fz (iO ns)), some (.fz (aM [p, c])), some (.fz (bq as)), some (.fz (.tuple (P.map .int))), some (.fz (.tuple (C.map .int))), none, none, none, none, some (.fz (bq (as.map (qR P C)))), none] = some (.rt (.bool true)) := by
  have eq : jW (cv (d4 (((bt p c).filter (eR as)).map (bN P C)))) (cv (d4 (((bt p c).filter (eR as)).map (bN P C)))) = some (.bool true) := by rw [BM, decide_eq_true rfl]
  generalize d4 (((bt p c).filter (eR as)).map (bN P C)) = L at so q2 eq
  simp only [pz, BE, aN, af, ac, aB, d2, ai, aF, aH, aA, az, zC, zH, zA, zB, zE, zF, zD, zG, Nat.reduceAdd, ↓reduceIte, cy, so, q2, eq]
 rw [r4, r5, r6, r7]
theorem law_true (ns : List Int) (hl : ns.length <= 63) : BI [iO ns] = some (.bool true) := by
 obtain ⟨p, c, hg, hm⟩ := Co ns hl 2
 have b := dH hm
 obtain ⟨as, ha, al, ao⟩ := Cs hm ns 3
 obtain ⟨P, eP, hP⟩ := uc (m := p) (by omega) (by omega) (bg ns 0)
 obtain ⟨C, eC, hC⟩ := uc (m := c) (by omega) (by omega) (bg ns 1)
 have hg' : dG [iO ns, .int 2] = some (aM [p, c]) := hg
 have ha' : d6 [iO ns, .int 3, aM [p, c]] = some (as.map cI) := ha
 have c0 : aX [iO ns, .int 0] = some (.int (bg ns 0)) := jF ns 0
 have c1 : aX [iO ns, .int 1] = some (.int (bg ns 1)) := jF ns 1
 have i0 : bS (aM [p, c]) (.int 0) = some (.int p) := rfl
 have i1 : bS (aM [p, c]) (.int 1) = some (.int c) := rfl
 have r4 : jD [some (.fz (iO ns)), some (.fz (aM [p, c])), some (.fz (bq as)), some (.fz (.tuple (P.map .int))), some (.fz (.tuple (C.map .int))), none, none, none, none, none, none] = some (.rt (.bool true)) := by
  by_cases h3 : bg ns 0 % 4 = 3
  · exact DA hm hP hC ao al ns h3 rfl
  · exact BX hm hP hC ao al ns h3
 have e : wG [some (.fz (iO ns)), none, none, none, none, none, none, none, none, none, none] = jD [some (.fz (iO ns)), some (.fz (aM [p, c])), some (.fz (bq as)), some (.fz (aM P)), some (.fz (aM C)), none, none, none, none, none, none] := by
  unfold wG BH BG BF
  generalize jD = B4
  simp only [aN, af, aB, dC, d2, aF, jw, aH, aA, az, zC, zH, zA, zB, zE, zF, zD, zG, Nat.reduceAdd, ↓reduceIte, hg', ha', c0, c1, i0, i1, eP, eC]
  rfl
 show (Ea [some (.fz (iO ns)), none, none, none, none, none, none, none, none, none, none]).bind bn = _
 rw [Cm, e, show aM P = .tuple (P.map .int) from rfl, show aM C = .tuple (C.map .int) from rfl, r4]
 rfl
noncomputable def lD (i : Nat) : Stmt := PySem.Challenge.pw_guesscode_k14_other_names.main.body.getD i (.Pass ⟨0, 0, 0, 0⟩)
section
variable {P : Program} {w : World} {K : Fg} {mg : Str -> Option Value} {base : Heap} {f : Addr} {fd : FuncData}
noncomputable abbrev gf : Stmt := lD 33
theorem wK : FnScope ["_law_cell_here", "_law_prime", "_law_many"] ["_law_cell_here", "_law_prime", "_law_many"] (aK gf) := kt
noncomputable abbrev fY : Stmt := lD 32
theorem ue : FnScope ["_law_script", "_law_k"] ["_law_script", "_law_k"] (aK fY) := kt
noncomputable abbrev fZ : Stmt := lD 34
theorem iA : FnScope ["_law_script", "_law_at", "_law_some", "_law_many"] ["_law_script", "_law_at"] (aK fZ) := kt
noncomputable abbrev fh : Stmt := lD 35
theorem jj : FnScope ["_law_game_here", "_law_cell_here", "_law_found", "_law_place"] ["_law_game_here", "_law_cell_here"] (aK fh) := kt
noncomputable abbrev dj : Stmt := lD 37
theorem be : FnScope ["_law_one", "_law_other", "_law_right", "_law_mine", "_law_theirs", "_law_a", "_law_b", "_law_elsewhere", "_law_colour"] ["_law_one", "_law_other"] (aK dj) := kt
noncomputable abbrev fq : Stmt := lD 38
theorem dA : FnScope ["_law_script", "_law_at", "_law_game_here", "_law_hidden", "_law_found", "_law_k", "_law_seed", "_law_guess", "_law_told_here"] ["_law_script", "_law_at", "_law_game_here"] (aK fq) := kt
noncomputable abbrev eU : Stmt := lD 40
theorem mh : FnScope ["_law_cell_here", "_law_many", "_law_keys"] ["_law_cell_here", "_law_many"] (aK eU) := kt
noncomputable abbrev i6 : Stmt := lD 10
theorem y0 : FnScope ["thing"] ["thing"] (aK i6) := kt
noncomputable abbrev bu : Stmt := lD 9
theorem lE : FnScope ["thing", "low", "high"] ["thing", "low", "high"] (aK bu) := kt
noncomputable abbrev cN : Stmt := lD 11
theorem dk : FnScope ["places", "colours", "codes", "place"] ["places", "colours"] (aK cN) := kt
noncomputable abbrev i7 : Stmt := lD 12
theorem y6 : FnScope ["thing"] ["thing"] (aK i7) := kt
noncomputable abbrev dN : Stmt := lD 13
theorem qI : FnScope ["game"] ["game"] (aK dN) := kt
noncomputable abbrev i8 : Stmt := lD 14
theorem y7 : FnScope ["game", "thing"] ["game", "thing"] (aK i8) := kt
noncomputable abbrev ft : Stmt := lD 19
theorem uf : FnScope ["game", "thing"] ["game", "thing"] (aK ft) := kt
noncomputable abbrev kA : Stmt := lD 20
theorem BY : FnScope ["game", "thing"] ["game", "thing"] (aK kA) := kt
noncomputable abbrev dO : Stmt := lD 21
theorem gw : FnScope ["game", "things", "is_one", "at", "thing"] ["game", "things", "is_one"] (aK dO) := kt
noncomputable abbrev dP : Stmt := lD 22
theorem qJ : FnScope ["game", "asks"] ["game", "asks"] (aK dP) := kt
noncomputable abbrev gh : Stmt := lD 27
theorem wL : FnScope ["thing", "size"] ["thing", "size"] (aK gh) := kt
noncomputable abbrev cK : Stmt := lD 28
theorem jU : FnScope ["thing", "size"] ["thing", "size"] (aK cK) := kt
noncomputable abbrev dQ : Stmt := lD 29
theorem fF : FnScope ["code", "places", "colours", "named", "place", "colour"] ["code", "places", "colours"] (aK dQ) := kt
noncomputable abbrev gx : Stmt := lD 30
theorem rc : FnScope ["game", "asks", "places", "colours"] ["game", "asks", "places", "colours"] (aK gx) := kt
noncomputable abbrev fu : Stmt := lD 42
theorem jk : FnScope ["_law_game_here", "_law_asks_here", "_law_places", "_law_colours", "e"] ["_law_game_here", "_law_asks_here", "_law_places", "_law_colours"] (aK fu) := kt
noncomputable abbrev eV : Stmt := lD 41
theorem jI : FnScope ["_law_code_here", "_law_places", "_law_colours", "_law_found", "_law_at"] ["_law_code_here", "_law_places", "_law_colours"] (aK eV) := kt
noncomputable abbrev eW : Stmt := lD 36
theorem dI : FnScope ["_law_game_here", "_law_found", "_law_place", "_law_more", "_law_code_here"] ["_law_game_here"] (aK eW) := kt
noncomputable abbrev gB : Stmt := lD 39
theorem ug : FnScope ["_law_game_here", "_law_asks_here"] ["_law_game_here", "_law_asks_here"] (aK gB) := kt
noncomputable abbrev gD : Stmt := lD 16
theorem dD : FnScope ["hidden", "guess", "right", "shared", "unmatched", "place", "colour"] ["hidden", "guess"] (aK gD) := kt
noncomputable abbrev gi : Stmt := lD 23
theorem wM : FnScope ["code", "ask"] ["code", "ask"] (aK gi) := kt
noncomputable abbrev cO : Stmt := lD 24
theorem dl : FnScope ["codes", "asks", "fitting", "ask"] ["codes", "asks"] (aK cO) := kt
noncomputable abbrev gE : Stmt := lD 15
theorem eX : FnScope ["game", "codes", "place", "longer", "code"] ["game"] (aK gE) := kt
noncomputable abbrev gF : Stmt := lD 25
theorem uh : FnScope ["game", "asks"] ["game", "asks"] (aK gF) := kt
noncomputable abbrev tI : Stmt := lD 43
theorem jl : FnScope ["_law_script", "_law_game_here", "_law_asks_here", "_law_places", "_law_colours", "_law_some", "_law_which", "_law_row", "_law_odd", "_law_found", "_law_due"] ["_law_script"] (aK tI) := kt
abbrev kB (P : Program) (w : World) (K : Fg) (mg : Str -> Option Value) (base : Heap) : Prop := Own P w K mg base 1 "_law_mix" ["_law_cell_here", "_law_prime", "_law_many"] (bz K 3 aq)
abbrev lF (P : Program) (w : World) (K : Fg) (mg : Str -> Option Value) (base : Heap) : Prop := Own P w K mg base 1 "_law_cell" ["_law_script", "_law_k"] (bz K 2 aX)
abbrev wN (P : Program) (w : World) (K : Fg) (mg : Str -> Option Value) (base : Heap) : Prop := Own P w K mg base 2 "_law_game" ["_law_script", "_law_at"] (bz K 2 dG)
abbrev wO (P : Program) (w : World) (K : Fg) (mg : Str -> Option Value) (base : Heap) : Prop := Own P w K mg base 2 "_law_code" ["_law_game_here", "_law_cell_here"] (bz K 2 cH)
abbrev mi (P : Program) (w : World) (K : Fg) (mg : Str -> Option Value) (base : Heap) : Prop := Own P w K mg base 1 "_law_answer" ["_law_one", "_law_other"] (bz K 2 bM)
abbrev wQ (P : Program) (w : World) (K : Fg) (mg : Str -> Option Value) (base : Heap) : Prop := Own P w K mg base 3 "_law_asks" ["_law_script", "_law_at", "_law_game_here"] (FY K 3 d6)
abbrev ui (P : Program) (w : World) (K : Fg) (mg : Str -> Option Value) (base : Heap) : Prop := Own P w K mg base 2 "_law_order" ["_law_cell_here", "_law_many"] (bz K 2 cV)
abbrev qK (P : Program) (w : World) (K : Fg) (mg : Str -> Option Value) (base : Heap) : Prop := Own P w K mg base 1 "is_pair" ["thing"] (bz K 1 dM)
abbrev dU (P : Program) (w : World) (K : Fg) (mg : Str -> Option Value) (base : Heap) : Prop := Own P w K mg base 1 "is_number_within" ["thing", "low", "high"] (bz K 3 aT)
abbrev oH (P : Program) (w : World) (K : Fg) (mg : Str -> Option Value) (base : Heap) : Prop := Own P w K mg base 1 "how_many_codes" ["places", "colours"] (bz K 2 eI)
abbrev BZ (P : Program) (w : World) (K : Fg) (mg : Str -> Option Value) (base : Heap) : Prop := Own P w K mg base 2 "is_game" ["thing"] (bz K 1 mK)
abbrev iJ (P : Program) (w : World) (K : Fg) (mg : Str -> Option Value) (base : Heap) : Prop := Own P w K mg base 3 "checked_game" ["game"] (bz K 1 bH)
abbrev B8 (P : Program) (w : World) (K : Fg) (mg : Str -> Option Value) (base : Heap) : Prop := Own P w K mg base 2 "is_code" ["game", "thing"] (bz K 2 gu)
abbrev wR (P : Program) (w : World) (K : Fg) (mg : Str -> Option Value) (base : Heap) : Prop := Own P w K mg base 2 "is_answer" ["game", "thing"] (bz K 2 eK)
abbrev qi (P : Program) (w : World) (K : Fg) (mg : Str -> Option Value) (base : Heap) : Prop := Own P w K mg base 4 "checked_list" ["game", "things", "is_one"] (bz K 3 cX)
abbrev kc (P : Program) (w : World) (K : Fg) (mg : Str -> Option Value) (base : Heap) : Prop := Own P w K mg base 5 "checked_asks" ["game", "asks"] (bz K 2 bW)
abbrev y8 (P : Program) (w : World) (K : Fg) (mg : Str -> Option Value) (base : Heap) : Prop := Own P w K mg base 2 "is_order" ["thing", "size"] (bz K 2 bI)
abbrev qL (P : Program) (w : World) (K : Fg) (mg : Str -> Option Value) (base : Heap) : Prop := Own P w K mg base 3 "checked_order" ["thing", "size"] (bz K 2 bC)
abbrev qj (P : Program) (w : World) (K : Fg) (mg : Str -> Option Value) (base : Heap) : Prop := Own P w K mg base 1 "renamed_code" ["code", "places", "colours"] (bz K 3 cF)
abbrev B9 (P : Program) (w : World) (K : Fg) (mg : Str -> Option Value) (base : Heap) : Prop := Own P w K mg base 6 "renamed" ["game", "asks", "places", "colours"] (bz K 4 fE)
abbrev wS (P : Program) (w : World) (K : Fg) (mg : Str -> Option Value) (base : Heap) : Prop := Own P w K mg base 7 "_law_told" ["_law_game_here", "_law_asks_here", "_law_places", "_law_colours"] (bz K 4 bY)
abbrev uj (P : Program) (w : World) (K : Fg) (mg : Str -> Option Value) (base : Heap) : Prop := Own P w K mg base 1 "_law_named" ["_law_code_here", "_law_places", "_law_colours"] (bz K 3 bc)
abbrev uk (P : Program) (w : World) (K : Fg) (mg : Str -> Option Value) (base : Heap) : Prop := Own P w K mg base 1 "_law_codes" ["_law_game_here"] (bz K 1 cG)
abbrev wT (P : Program) (w : World) (K : Fg) (mg : Str -> Option Value) (base : Heap) : Prop := Own P w K mg base 2 "_law_left" ["_law_game_here", "_law_asks_here"] (bz K 2 cY)
abbrev wU (P : Program) (w : World) (K : Fg) (mg : Str -> Option Value) (base : Heap) : Prop := Own P w K mg base 1 "answer_of" ["hidden", "guess"] (bz K 2 eM)
abbrev y9 (P : Program) (w : World) (K : Fg) (mg : Str -> Option Value) (base : Heap) : Prop := Own P w K mg base 2 "fits_ask" ["code", "ask"] (bz K 2 dh)
abbrev oI (P : Program) (w : World) (K : Fg) (mg : Str -> Option Value) (base : Heap) : Prop := Own P w K mg base 3 "those_that_fit" ["codes", "asks"] (bz K 2 bw)
abbrev wV (P : Program) (w : World) (K : Fg) (mg : Str -> Option Value) (base : Heap) : Prop := Own P w K mg base 4 "all_codes" ["game"] (bz K 1 eN)
abbrev wW (P : Program) (w : World) (K : Fg) (mg : Str -> Option Value) (base : Heap) : Prop := Own P w K mg base 6 "what_fits" ["game", "asks"] (bz K 2 eO)
theorem wX (F : Fun K "_law_mix" "_law_mix" gf f fd) (B : Bt mg) : FnOk P w K mg base iC 1 f fd ["_law_cell_here", "_law_prime", "_law_many"] (bz K 3 aq) :=
 bK F wK rfl rfl λ cdv A outer s H E hr => have hu := hr.units
  ⟨_, (aR (bA (bi o8 (bi o8 (bi ig (pv 0) aQ) (pv 1)) (pv 2)))), (bJ (aW pH (aW pH (aW iF (aG 0) aO) (aG 1)) (aG 2)))⟩
theorem ul (F : Fun K "_law_cell" "_law_cell" fY f fd) (B : Bt mg) : FnOk P w K mg base iC 1 f fd ["_law_script", "_law_k"] (bz K 2 aX) :=
 bK F ue rfl rfl λ cdv A outer s H E hr => have hu := hr.units
  ⟨_, (aL (fM (dc FH (pv 1) (bF (gI K) (by rfl) B.len PySem.boot_len (aD (pv 0) aI)) (dW _)) (aR (bA (bT (bV K) (pv 0) (pv 1) (λ _ _ => rfl)))) cj) (aR (bA aQ))), (aV (gK (de (aW F6 (aG 1) (ba iG (aE (aG 0) aJ)))) (bJ (aW bb (aG 0) (aG 1))) cn) (bJ aO))⟩
theorem um (F : Fun K "_law_game" "_law_game" fZ f fd) (B : Bt mg) (O_law_mix : kB P w K mg base) (O_law_cell : lF P w K mg base) : FnOk P w K mg base iC 2 f fd ["_law_script", "_law_at"] (bz K 2 dG) :=
 bK F iA rfl rfl λ cdv A outer s H E hr => have hu := hr.units
  ⟨_, (@A6 _ _ _ _ _ (@CV _ 2 _ _ _ _ _ [.tuple [.int 2, .int 3], .tuple [.int 3, .int 2], .tuple [.int 3, .int 3], .tuple [.int 2, .int 4], .tuple [.int 4, .int 2], .tuple [.int 1, .int 5], .tuple [.int 2, .int 5], .tuple [.int 3, .int 4], .tuple [.int 4, .int 3], .tuple [.int 5, .int 2], .tuple [.int 2, .int 8], .tuple [.int 1, .int 1], .tuple [.int 2, .int 2]] iA.nd rfl (by first | exact Or.inl rfl | exact Or.inr rfl) (by rfl) (by rfl) (Or.inl rfl)) (aL (aj (i := 3) iA.nd aQ) (aL (fM (dc DN (bF (gI K) (by rfl) B.len PySem.boot_len (aD (pv 0) aI)) aQ (dW _)) (aR (aj (i := 3) iA.nd aQ)) cj) (aR (bA (bT (bV K) (pv 2) (aY O_law_mix hr (aD (aY O_law_cell hr (aD (pv 0) (aD (pv 1) aI))) (aD aQ (aD (pv 3) aI)))) (λ _ _ => rfl))))))), (aV (bR 2 (bv (eg (@CW _ [.tuple [.int 2, .int 3], .tuple [.int 3, .int 2], .tuple [.int 3, .int 3], .tuple [.int 2, .int 4], .tuple [.int 4, .int 2], .tuple [.int 1, .int 5], .tuple [.int 2, .int 5], .tuple [.int 3, .int 4], .tuple [.int 4, .int 3], .tuple [.int 5, .int 2], .tuple [.int 2, .int 8], .tuple [.int 1, .int 1], .tuple [.int 2, .int 2]] (by rfl))))) (aV (bR 3 aO) (aV (gK (de (aW DW (ba iG (aE (aG 0) aJ)) aO)) (bR 3 aO) cn) (bJ (aW bb (aG 2) (aS (aE (aS (aE (aG 0) (aE (aG 1) aJ))) (aE aO (aE (aG 3) aJ)))))))))⟩
theorem uo (F : Fun K "_law_code" "_law_code" fh f fd) (B : Bt mg) (O_law_mix : kB P w K mg base) : FnOk P w K mg base iC 2 f fd ["_law_game_here", "_law_cell_here"] (bz K 2 cH) :=
 bK F jj rfl rfl λ cdv A outer s H E hr => have hu := hr.units
  ⟨_, (aL (aj (i := 2) jj.nd (dv aI)) (aL (eZ PassesOwn.never rfl (d9 rfl B.range (aD (bT (bV K) (pv 0) aQ (λ _ _ => rfl)) aI)) (bD (i := 3) jj.nd rfl (by first | exact Or.inl rfl | exact Or.inr rfl)) (aR (cD (om PySem.F.plainAttrs_list PySem.F.slot_list_append PySem.F.type_list_append iM (pv 2) (aD (aY O_law_mix hr (aD (bi (cr K) (bi (cr K) (pv 1) (bi ig (bi ig aQ (pv 3)) (pv 3))) (bi ig aQ (pv 3))) (aD aQ (aD (bT (bV K) (pv 0) aQ (λ _ _ => rfl)) aI)))) aI))))) (aR (bA (cq (lR K) (by rfl) B.tuple PyProof.Rows.boot_tuple (aD (pv 2) aI)))))), (aV (gW 2 (eg aJ)) (aV (fB (gX (aE (aW bb (aG 0) aO) aJ)) (bE 3) (ju 2 (aS (aE (aW cu (aW cu (aG 1) (aW iF (aW iF aO (aG 3)) (aG 3))) (aW iF aO (aG 3))) (aE aO (aE (aW bb (aG 0) aO) aJ)))))) (pE 2 (bJ (ba sT (aE (aG 2) aJ))))))⟩
theorem qm (F : Fun K "_law_answer" "_law_answer" dj f fd) (B : Bt mg) : FnOk P w K mg base iC 1 f fd ["_law_one", "_law_other"] (bz K 2 bM) :=
 bK F be rfl rfl λ cdv A outer s H E hr => have hu := hr.units
  ⟨_, (aL (aj (i := 2) be.nd aQ) (aL (aj (i := 3) be.nd (dv aI)) (aL (aj (i := 4) be.nd (dv aI)) (aL (eZ PassesOwn.never rfl (EJ K B.zip (aD (pv 0) (aD (pv 1) aI))) (lS K (eB (bD (i := 5) be.nd rfl (by first | exact Or.inl rfl | exact Or.inr rfl)) (eB (bD (i := 6) be.nd rfl (by first | exact Or.inl rfl | exact Or.inr rfl)) lM))) (aR (fM (dc (ij K hu) (pv 5) (pv 6) (dW _)) (aR (aj (i := 2) be.nd (bi (cr K) (pv 2) aQ))) (aL (cD (om PySem.F.plainAttrs_list PySem.F.slot_list_append PySem.F.type_list_append iM (pv 3) (aD (pv 5) aI))) (aR (cD (om PySem.F.plainAttrs_list PySem.F.slot_list_append PySem.F.type_list_append iM (pv 4) (aD (pv 6) aI)))))))) (aL (aj (i := 7) be.nd aQ) (aL (eZ PassesOwn.never rfl (eh K (pv 3)) (bD (i := 8) be.nd rfl (by first | exact Or.inl rfl | exact Or.inr rfl)) (aR (fM (dc (DT K) (pv 8) (pv 4) (by rfl)) (aL (cD (om PySem.F.plainAttrs_list PySem.F.slot_list_remove PySem.F.type_list_remove qw (pv 4) (aD (pv 8) aI))) (aR (aj (i := 7) be.nd (bi (cr K) (pv 7) aQ)))) cj))) (aR (bA (dX (aD (pv 2) (aD (pv 7) aI))))))))))), (aV (bR 2 aO) (aV (gW 3 (eg aJ)) (aV (gW 4 (eg aJ)) (aV (fB (EO (aE (aG 0) (aE (aG 1) aJ))) (pF (eE (bE 5) (eE (bE 6) lU))) (gK (de (aW lW (aG 5) (aG 6))) (bR 2 (aW cu (aG 2) aO)) (aV (ju 3 (aG 5)) (ju 4 (aG 6))))) (aV (bR 7 aO) (aV (pE 3 (fB (ev (aG 3)) (bE 8) (gK (de (AW false 4 (aG 8))) (aV (rJ 4 (aG 8)) (bR 7 (aW cu (aG 7) aO))) cn))) (bJ (dZ (aE (aG 2) (aE (aG 7) aJ))))))))))⟩
theorem uq (F : Fun K "_law_asks" "_law_asks" fq f fd) (B : Bt mg) (O_law_code : wO P w K mg base) (O_law_cell : lF P w K mg base) (O_law_mix : kB P w K mg base) (O_law_answer : mi P w K mg base) : FnOk P w K mg base iC 3 f fd ["_law_script", "_law_at", "_law_game_here"] (FY K 3 d6) :=
 CN F dA rfl rfl λ cdv A outer s H E hr => have hu := hr.units
  ⟨_, (aL (aj (i := 3) dA.nd (aY O_law_code hr (aD (pv 2) (aD (aY O_law_cell hr (aD (pv 0) (aD (pv 1) aI))) aI)))) (aL (aj (i := 4) dA.nd (dv aI)) (aL (eZ PassesOwn.never rfl (d9 rfl B.range (aD (aY O_law_mix hr (aD (aY O_law_cell hr (aD (pv 0) (aD (bi (cr K) (pv 1) aQ) aI))) (aD aQ (aD aQ aI)))) aI)) (bD (i := 5) dA.nd rfl (by first | exact Or.inl rfl | exact Or.inr rfl)) (aL (aj (i := 6) dA.nd (bi (cr K) (aY O_law_cell hr (aD (pv 0) (aD (bi (cr K) (bi (cr K) (pv 1) aQ) (pv 5)) aI))) (bi ig (bi ig aQ (pv 5)) (pv 5)))) (aL (aj (i := 7) dA.nd (aY O_law_code hr (aD (pv 2) (aD (pv 6) aI)))) (aL (aj (i := 8) dA.nd (aY O_law_answer hr (aD (pv 3) (aD (pv 7) aI)))) (aL (fM (dc (ij K hu) (aY O_law_mix hr (aD (pv 6) (aD aQ (aD aQ aI)))) aQ (dW _)) (aR (aj (i := 8) dA.nd (dX (aD (aY O_law_mix hr (aD (pv 6) (aD aQ (aD (bi (cr K) (bT (bV K) (pv 2) aQ (λ _ _ => rfl)) aQ) aI)))) (aD (aY O_law_mix hr (aD (pv 6) (aD aQ (aD (bi (cr K) (bT (bV K) (pv 2) aQ (λ _ _ => rfl)) aQ) aI)))) aI))))) cj) (aR (cD (om PySem.F.plainAttrs_list PySem.F.slot_list_append PySem.F.type_list_append iM (pv 4) (aD (dX (aD (pv 7) (aD (pv 8) aI))) aI))))))))) (aR (bA (pv 4)))))), (aV (bR 3 (aS (aE (aG 2) (aE (aS (aE (aG 0) (aE (aG 1) aJ))) aJ)))) (aV (gW 4 (eg aJ)) (aV (fB (gX (aE (aS (aE (aS (aE (aG 0) (aE (aW cu (aG 1) aO) aJ))) (aE aO (aE aO aJ)))) aJ)) (bE 5) (aV (bR 6 (aW cu (aS (aE (aG 0) (aE (aW cu (aW cu (aG 1) aO) (aG 5)) aJ))) (aW iF (aW iF aO (aG 5)) (aG 5)))) (aV (bR 7 (aS (aE (aG 2) (aE (aG 6) aJ)))) (aV (bR 8 (aS (aE (aG 3) (aE (aG 7) aJ)))) (aV (gK (de (aW lW (aS (aE (aG 6) (aE aO (aE aO aJ)))) aO)) (bR 8 (dZ (aE (aS (aE (aG 6) (aE aO (aE (aW cu (aW bb (aG 2) aO) aO) aJ)))) (aE (aS (aE (aG 6) (aE aO (aE (aW cu (aW bb (aG 2) aO) aO) aJ)))) aJ)))) cn) (ju 4 (dZ (aE (aG 7) (aE (aG 8) aJ))))))))) (CJ 4))))⟩
theorem tJ (F : Fun K "_law_order" "_law_order" eU f fd) (B : Bt mg) (O_law_mix : kB P w K mg base) : FnOk P w K mg base iC 2 f fd ["_law_cell_here", "_law_many"] (bz K 2 cV) :=
 bK F mh rfl rfl λ cdv A outer s H E hr => have hu := hr.units
  ⟨_, (aL (wt (i := 2) ["_law_k"] [("_law_cell_here", 0)] mh.nd rfl (by first | exact Or.inl rfl | exact Or.inr rfl) (d9 rfl B.range (aD (pv 1) aI)) (λ _ _ _ _ => (bD (i := 0) (show List.Nodup (["_law_k", "_law_cell_here"] : List Str) by decide +kernel) rfl (by first | exact Or.inl rfl | exact Or.inr rfl))) (λ _ _ _ _ => gG) (λ _ _ _ _ => (dX (aD (aY O_law_mix hr (aD (bi (cr K) (bi (cr K) (pv 1) (bi ig (bi ig aQ (pv 0)) (pv 0))) (bi ig aQ (pv 0))) (aD aQ (aD aQ aI)))) (aD (pv 0) aI))))) (aR (bA (cq (lR K) (by rfl) B.tuple PyProof.Rows.boot_tuple (aD (dY ["_law_key"] [] (eh K (bF ng (by rfl) B.sorted PyProof.Rows.boot_sorted (aD (pv 2) aI))) (λ _ _ _ _ => (bD (i := 0) (show List.Nodup (["_law_key"] : List Str) by decide +kernel) rfl (by first | exact Or.inl rfl | exact Or.inr rfl))) (λ _ _ _ _ => gG) (λ _ _ _ _ => (bT (bV K) (pv 0) aQ (λ _ _ => rfl)))) aI))))), (aV (bR 2 (bv (df (gX (aE (aG 1) aJ)) (bE 0) cS iE (dZ (aE (aS (aE (aW cu (aW cu (aG 1) (aW iF (aW iF aO (aG 0)) (aG 0))) (aW iF aO (aG 0))) (aE aO (aE aO aJ)))) (aE (aG 0) aJ)))))) (bJ (ba sT (aE (bv (df (ev (ba rR (aE (aG 2) aJ))) (bE 0) cS iE (aW bb (aG 0) aO))) aJ))))⟩
theorem ya (F : Fun K "is_pair" "is_pair" i6 f fd) (B : Bt mg) : FnOk P w K mg base iC 1 f fd ["thing"] (bz K 1 dM) :=
 bK F y0 rfl rfl λ cdv A outer s H E hr => have hu := hr.units
  ⟨_, (aR (bA (kd (bF (jx K) (by rfl) B.isinstance eD (aD (pv 0) (aD (gz (v := .ty "tuple") rfl B.tuple PyProof.Rows.boot_tuple rfl) aI))) (o0 (jo (ij K hu) (bF (gI K) (by rfl) B.len PySem.boot_len (aD (pv 0) aI)) aQ (dW _)))))), (bJ (kn (nB (aG 0)) (aW lW (ba iG (aE (aG 0) aJ)) aO)))⟩
theorem lG (F : Fun K "is_number_within" "is_number_within" bu f fd) (B : Bt mg) : FnOk P w K mg base iC 1 f fd ["thing", "low", "high"] (bz K 3 aT) :=
 bK F lE rfl rfl λ cdv A outer s H E hr => have hu := hr.units
  ⟨_, (aR (bA (kd (bF (jx K) (by rfl) B.isinstance eD (aD (pv 0) (aD (gz (v := .ty "int") rfl B.int PyProof.Rows.boot_int rfl) aI))) (kd (Di (bF (jx K) (by rfl) B.isinstance eD (aD (pv 0) (aD (gz (v := .ty "bool") rfl B.bool PyProof.Rows.boot_bool rfl) aI)))) (o0 (zY zW zW (pv 1) (pv 0) (pv 2))))))), (bJ (kn (nB (aG 0)) (kn (EL (nB (aG 0))) (AU AR AR (aG 1) (aG 0) (aG 2)))))⟩
theorem nP (F : Fun K "how_many_codes" "how_many_codes" cN f fd) (B : Bt mg) : FnOk P w K mg base iC 1 f fd ["places", "colours"] (bz K 2 eI) :=
 bK F dk rfl rfl λ cdv A outer s H E hr => have hu := hr.units
  ⟨_, (aL (aj (i := 2) dk.nd aQ) (aL (eZ PassesOwn.never rfl (d9 rfl B.range (aD (pv 0) aI)) (bD (i := 3) dk.nd rfl (by first | exact Or.inl rfl | exact Or.inr rfl)) (aR (vH (i := 2) dk.nd rfl (by first | exact Or.inl rfl | exact Or.inr rfl) (pv 1) Bm))) (aR (bA (pv 2))))), (aV (bR 2 aO) (aV (fB (gX (aE (aG 0) aJ)) (bE 3) (vY 2 iF (aG 1))) (bJ (aG 2))))⟩
theorem yb (F : Fun K "is_game" "is_game" i7 f fd) (B : Bt mg) (Ois_pair : qK P w K mg base) (Ohow_many_codes : oH P w K mg base) (Ois_number_within : dU P w K mg base) {tMOST_PLACES : Tok} (g_MOST_PLACES : mg "MOST_PLACES" = some (.int 5 tMOST_PLACES)) {tMOST_COLOURS : Tok} (g_MOST_COLOURS : mg "MOST_COLOURS" = some (.int 8 tMOST_COLOURS)) {tMOST_CODES : Tok} (g_MOST_CODES : mg "MOST_CODES" = some (.int 300 tMOST_CODES)) : FnOk P w K mg base iC 2 f fd ["thing"] (bz K 1 mK) :=
 bK F y6 rfl rfl λ cdv A outer s H E hr => have hu := hr.units
  ⟨_, (aL (fM (gj (gM K (aY Ois_pair hr (aD (pv 0) aI)))) (aR (bA nR)) cj) (aL (fM (PW.pt (wc (gj (gM K (aY Ois_number_within hr (aD (bT (bV K) (pv 0) aQ (λ _ _ => rfl)) (aD aQ (aD (ib (v := .int 5) rfl g_MOST_PLACES ⟨_, rfl⟩) aI)))))) (rm (gj (gM K (aY Ois_number_within hr (aD (bT (bV K) (pv 0) aQ (λ _ _ => rfl)) (aD aQ (aD (ib (v := .int 8) rfl g_MOST_COLOURS ⟨_, rfl⟩) aI))))))))) (aR (bA nR)) cj) (aR (bA (jo zW (aY Ohow_many_codes hr (aD (bT (bV K) (pv 0) aQ (λ _ _ => rfl)) (aD (bT (bV K) (pv 0) aQ (λ _ _ => rfl)) aI))) (ib (v := .int 300) rfl g_MOST_CODES ⟨_, rfl⟩) (dW _)))))), (aV (gK (gp (gP (aS (aE (aG 0) aJ)))) (bJ nX) cn) (aV (gK (wu (gp (gP (aS (aE (aW bb (aG 0) aO) (aE aO (aE aO aJ)))))) (gp (gP (aS (aE (aW bb (aG 0) aO) (aE aO (aE aO aJ))))))) (bJ nX) cn) (bJ (aW AR (aS (aE (aW bb (aG 0) aO) (aE (aW bb (aG 0) aO) aJ))) aO))))⟩
theorem qM (F : Fun K "checked_game" "checked_game" dN f fd) (B : Bt mg) (Ois_game : BZ P w K mg base) : FnOk P w K mg base iC 3 f fd ["game"] (bz K 1 bH) :=
 bK F qI rfl rfl λ cdv A outer s H E hr => have hu := hr.units
  ⟨_, (aL (fM (gj (gM K (aY Ois_game hr (aD (pv 0) aI)))) (aR lK) cj) (aR (bA (pv 0)))), (aV (gK (gp (gP (aS (aE (aG 0) aJ)))) lT cn) (bJ (aG 0)))⟩
theorem yc (F : Fun K "is_code" "is_code" i8 f fd) (B : Bt mg) (Ois_number_within : dU P w K mg base) : FnOk P w K mg base iC 2 f fd ["game", "thing"] (bz K 2 gu) :=
 bK F y7 rfl rfl λ cdv A outer s H E hr => have hu := hr.units
  ⟨_, (aL (fM (PW.pt (wc (gj (gM K (bF (jx K) (by rfl) B.isinstance eD (aD (pv 1) (aD (gz (v := .ty "tuple") rfl B.tuple PyProof.Rows.boot_tuple rfl) aI))))) (rm (dc (sG K hu) (bF (gI K) (by rfl) B.len PySem.boot_len (aD (pv 1) aI)) (bT (bV K) (pv 0) aQ (λ _ _ => rfl)) (dW _))))) (aR (bA nR)) cj) (aR (bA (bF (vT K) (by rfl) B.all PyProof.Rows.boot_all (aD (dY ["colour"] [("game", 0)] (eh K (pv 1)) (λ _ _ _ _ => (bD (i := 0) (show List.Nodup (["colour", "game"] : List Str) by decide +kernel) rfl (by first | exact Or.inl rfl | exact Or.inr rfl))) (λ _ _ _ _ => gG) (λ _ _ _ _ => (aY Ois_number_within hr (aD (pv 0) (aD aQ (aD (bi vL (bT (bV K) (pv 1) aQ (λ _ _ => rfl)) aQ) aI)))))) aI))))), (aV (gK (wu (gp (gP (nB (aG 1)))) (de (aW xA (ba iG (aE (aG 1) aJ)) (aW bb (aG 0) aO)))) (bJ nX) cn) (bJ (ba vb (aE (bv (df (ev (aG 1)) (bE 0) cS iE (aS (aE (aG 0) (aE aO (aE (aW vZ (aW bb (aG 1) aO) aO) aJ)))))) aJ))))⟩
theorem ur (F : Fun K "is_answer" "is_answer" ft f fd) (B : Bt mg) (Ois_pair : qK P w K mg base) (Ois_number_within : dU P w K mg base) : FnOk P w K mg base iC 2 f fd ["game", "thing"] (bz K 2 eK) :=
 bK F uf rfl rfl λ cdv A outer s H E hr => have hu := hr.units
  ⟨_, (aR (bA (kd (aY Ois_pair hr (aD (pv 1) aI)) (o0 (bF (vT K) (by rfl) B.all PyProof.Rows.boot_all (aD (dY ["number"] [("game", 0)] (eh K (pv 1)) (λ _ _ _ _ => (bD (i := 0) (show List.Nodup (["number", "game"] : List Str) by decide +kernel) rfl (by first | exact Or.inl rfl | exact Or.inr rfl))) (λ _ _ _ _ => gG) (λ _ _ _ _ => (aY Ois_number_within hr (aD (pv 0) (aD aQ (aD (bT (bV K) (pv 1) aQ (λ _ _ => rfl)) aI)))))) aI)))))), (bJ (kn (aS (aE (aG 1) aJ)) (ba vb (aE (bv (df (ev (aG 1)) (bE 0) cS iE (aS (aE (aG 0) (aE aO (aE (aW bb (aG 1) aO) aJ)))))) aJ))))⟩
theorem ut (F : Fun K "is_ask" "is_ask" kA f fd) (B : Bt mg) (Ois_pair : qK P w K mg base) (Ois_code : B8 P w K mg base) (Ois_answer : wR P w K mg base) : FnOk P w K mg base iC 3 f fd ["game", "thing"] (bz K 2 g0) :=
 bK F BY rfl rfl λ cdv A outer s H E hr => have hu := hr.units
  ⟨_, (aR (bA (kd (aY Ois_pair hr (aD (pv 1) aI)) (kd (aY Ois_code hr (aD (pv 0) (aD (bT (bV K) (pv 1) aQ (λ _ _ => rfl)) aI))) (o0 (aY Ois_answer hr (aD (pv 0) (aD (bT (bV K) (pv 1) aQ (λ _ _ => rfl)) aI)))))))), (bJ (kn (aS (aE (aG 1) aJ)) (kn (aS (aE (aG 0) (aE (aW bb (aG 1) aO) aJ))) (aS (aE (aG 0) (aE (aW bb (aG 1) aO) aJ))))))⟩
theorem qN (F : Fun K "checked_list" "checked_list" dO f fd) (B : Bt mg) (Nis_ask : OwnN P w K mg base 3 "is_ask" ["game", "thing"] (bz K 2 g0)) {tMOST_ASKS : Tok} (g_MOST_ASKS : mg "MOST_ASKS" = some (.int 8 tMOST_ASKS)) : FnOk P w K mg base iC 4 f fd ["game", "things", "is_one"] (bz K 3 cX) :=
 bK F gw rfl rfl λ cdv A outer s H E hr => have hu := hr.units
  ⟨_, (aL (fM (PW.pt (wc (gj (gM K (bF (jx K) (by rfl) B.isinstance eD (aD (pv 1) (aD (gz (v := .ty "list") rfl B.list PyProof.Rows.boot_list rfl) aI))))) (rm (dc DN (bF (gI K) (by rfl) B.len PySem.boot_len (aD (pv 1) aI)) (ib (v := .int 8) rfl g_MOST_ASKS ⟨_, rfl⟩) (dW _))))) (aR lK) cj) (aL (eZ PassesOwn.never rfl (AJ K B.enumerate (aD (pv 1) aI)) (lS K (eB (bD (i := 3) gw.nd rfl (by first | exact Or.inl rfl | exact Or.inr rfl)) (eB (bD (i := 4) gw.nd rfl (by first | exact Or.inl rfl | exact Or.inr rfl)) lM))) (aR (fM (gj (gM K (C3 Nis_ask hr (pv 2) (aD (pv 0) (aD (pv 4) aI))))) (aR lK) cj))) (aR (bA (pv 1))))), (aV (gK (wu (gp (gP (nB (aG 1)))) (de (aW DW (ba iG (aE (aG 1) aJ)) aO))) lT cn) (aV (fB (AM (aE (aG 1) aJ)) (pF (eE (bE 3) (eE (bE 4) lU))) (gK (gp (gP (Ac (aE (aG 0) (aE (aG 4) aJ))))) lT cn)) (bJ (aG 1))))⟩
theorem qO (F : Fun K "checked_asks" "checked_asks" dP f fd) (B : Bt mg) (Ochecked_list : qi P w K mg base) {Ais_ask : Addr} (mis_ask : mg "is_ask" = some (.ref Ais_ask)) (nis_ask : PySem.W.nsIn K mainGlobals "is_ask" = some (some (.ref Ais_ask))) : FnOk P w K mg base iC 5 f fd ["game", "asks"] (bz K 2 bW) :=
 bK F qJ rfl rfl λ cdv A outer s H E hr => have hu := hr.units
  ⟨_, (aR (bA (aY Ochecked_list hr (aD (pv 0) (aD (pv 1) (aD (ib (v := .ref Ais_ask) rfl mis_ask rfl) aI)))))), (bJ (aS (aE (aG 0) (aE (aG 1) (aE (Fb nis_ask) aJ)))))⟩
theorem wY (F : Fun K "is_order" "is_order" gh f fd) (B : Bt mg) (Ois_number_within : dU P w K mg base) : FnOk P w K mg base iC 2 f fd ["thing", "size"] (bz K 2 bI) :=
 bK F wL rfl rfl λ cdv A outer s H E hr => have hu := hr.units
  ⟨_, (aL (fM (PW.pt (wc (gj (gM K (bF (jx K) (by rfl) B.isinstance eD (aD (pv 0) (aD (gz (v := .ty "tuple") rfl B.tuple PyProof.Rows.boot_tuple rfl) aI))))) (rm (dc (sG K hu) (bF (gI K) (by rfl) B.len PySem.boot_len (aD (pv 0) aI)) (pv 1) (dW _))))) (aR (bA nR)) cj) (aR (bA (kd (bF (vT K) (by rfl) B.all PyProof.Rows.boot_all (aD (dY ["number"] [("size", 1)] (eh K (pv 0)) (λ _ _ _ _ => (bD (i := 0) (show List.Nodup (["number", "size"] : List Str) by decide +kernel) rfl (by first | exact Or.inl rfl | exact Or.inr rfl))) (λ _ _ _ _ => gG) (λ _ _ _ _ => (aY Ois_number_within hr (aD (pv 0) (aD aQ (aD (bi vL (pv 1) aQ) aI)))))) aI)) (o0 (jo (ij K hu) (bF (Az K) (by rfl) B.sorted PyProof.Rows.boot_sorted (aD (pv 0) aI)) (cq (vg K) (by rfl) B.list PyProof.Rows.boot_list (aD (cq (CY K) (by rfl) B.range PyProof.Rows.boot_range (aD (pv 1) aI)) aI)) (dW _))))))), (aV (gK (wu (gp (gP (nB (aG 0)))) (de (aW xA (ba iG (aE (aG 0) aJ)) (aG 1)))) (bJ nX) cn) (bJ (kn (ba vb (aE (bv (df (ev (aG 0)) (bE 0) cS iE (aS (aE (aG 0) (aE aO (aE (aW vZ (aG 1) aO) aJ)))))) aJ)) (aW lW (ba BB (aE (aG 0) aJ)) (bv (vh (aG 1)))))))⟩
theorem oJ (F : Fun K "checked_order" "checked_order" cK f fd) (B : Bt mg) (Ois_order : y8 P w K mg base) : FnOk P w K mg base iC 3 f fd ["thing", "size"] (bz K 2 bC) :=
 bK F jU rfl rfl λ cdv A outer s H E hr => have hu := hr.units
  ⟨_, (aL (fM (gj (gM K (aY Ois_order hr (aD (pv 0) (aD (pv 1) aI))))) (aR lK) cj) (aR (bA (pv 0)))), (aV (gK (gp (gP (aS (aE (aG 0) (aE (aG 1) aJ))))) lT cn) (bJ (aG 0)))⟩
theorem qP (F : Fun K "renamed_code" "renamed_code" dQ f fd) (B : Bt mg) : FnOk P w K mg base iC 1 f fd ["code", "places", "colours"] (bz K 3 cF) :=
 bK F fF rfl rfl λ cdv A outer s H E hr => have hu := hr.units
  ⟨_, (aL (aj (i := 3) fF.nd (cq (lQ K) (by rfl) B.list PyProof.Rows.boot_list (aD (pv 0) aI))) (aL (eZ PassesOwn.never rfl (AJ K B.enumerate (aD (pv 0) aI)) (lS K (eB (bD (i := 4) fF.nd rfl (by first | exact Or.inl rfl | exact Or.inr rfl)) (eB (bD (i := 5) fF.nd rfl (by first | exact Or.inl rfl | exact Or.inr rfl)) lM))) (aR (vG (bT (bV K) (pv 2) (pv 5) (λ _ _ => rfl)) (vF (pv 3) (bT (bV K) (pv 1) (pv 4) (λ _ _ => rfl)) ol)))) (aR (bA (cq (lR K) (by rfl) B.tuple PyProof.Rows.boot_tuple (aD (pv 3) aI)))))), (aV (gW 3 (iS (aE (aG 0) aJ))) (aV (fB (AM (aE (aG 0) aJ)) (pF (eE (bE 4) (eE (bE 5) lU))) (pV 3 (aW bb (aG 1) (aG 4)) (aW bb (aG 2) (aG 5)))) (pE 3 (bJ (ba sT (aE (aG 3) aJ))))))⟩
theorem ye (F : Fun K "renamed" "renamed" gx f fd) (B : Bt mg) (Ochecked_game : iJ P w K mg base) (Ochecked_asks : kc P w K mg base) (Ochecked_order : qL P w K mg base) (Orenamed_code : qj P w K mg base) : FnOk P w K mg base iC 6 f fd ["game", "asks", "places", "colours"] (bz K 4 fE) :=
 bK F rc rfl rfl λ cdv A outer s H E hr => have hu := hr.units
  ⟨_, (aL (cD (aY Ochecked_game hr (aD (pv 0) aI))) (aL (cD (aY Ochecked_asks hr (aD (pv 0) (aD (pv 1) aI)))) (aL (cD (aY Ochecked_order hr (aD (pv 2) (aD (bT (bV K) (pv 0) aQ (λ _ _ => rfl)) aI)))) (aL (cD (aY Ochecked_order hr (aD (pv 3) (aD (bT (bV K) (pv 0) aQ (λ _ _ => rfl)) aI)))) (aR (bA (dY ["ask"] [("places", 2), ("colours", 3)] (eh K (pv 1)) (λ _ _ _ _ => (bD (i := 0) (show List.Nodup (["ask", "places", "colours"] : List Str) by decide +kernel) rfl (by first | exact Or.inl rfl | exact Or.inr rfl))) (λ _ _ _ _ => gG) (λ _ _ _ _ => (dX (aD (aY Orenamed_code hr (aD (bT (bV K) (pv 0) aQ (λ _ _ => rfl)) (aD (pv 1) (aD (pv 2) aI)))) (aD (bT (bV K) (pv 0) aQ (λ _ _ => rfl)) aI))))))))))), (aV (gH (aS (aE (aG 0) aJ))) (aV (gH (aS (aE (aG 0) (aE (aG 1) aJ)))) (aV (gH (aS (aE (aG 2) (aE (aW bb (aG 0) aO) aJ)))) (aV (gH (aS (aE (aG 3) (aE (aW bb (aG 0) aO) aJ)))) (bJ (bv (df (ev (aG 1)) (bE 0) cS iE (dZ (aE (aS (aE (aW bb (aG 0) aO) (aE (aG 1) (aE (aG 2) aJ)))) (aE (aW bb (aG 0) aO) aJ))))))))))⟩
theorem iK {C : Addr} (F : Fun K "checked_order" "checked_order" cK f fd) (B : Bt mg) (Ois_order : Own P w K mg base 2 "is_order" ["thing", "size"] (bz K 2 bI)) (gC_BadCode : mg "BadCode" = some (.ref C)) (xC_BadCode : PySem.W.excIn K C [.type "ValueError", .type "Exception", .type "BaseException", .type "object"] "ValueError.__new__" = true) : FnOk P w K mg base (tf P w) 3 f fd ["thing", "size"] (Bf K 2 C bG) :=
 xF F jU rfl rfl λ cdv A outer s H E hr => have hu := hr.units
  ⟨_, (aL (fM (gj (gM K (aY Ois_order hr (aD (pv 0) (aD (pv 1) aI))))) (aR (AC gC_BadCode xC_BadCode PySem.F.excBase_ValueError (aD rj aI))) oR) oR), (sZ (Ff (gp (gP (aS (aE (aG 0) (aE (aG 1) aJ))))) (A8 (aE sM aJ)) Fe))⟩
theorem lH {C : Addr} (F : Fun K "renamed" "renamed" gx f fd) (B : Bt mg) (Ochecked_game : Own P w K mg base 3 "checked_game" ["game"] (bz K 1 bH)) (Ochecked_asks : Own P w K mg base 5 "checked_asks" ["game", "asks"] (bz K 2 bW)) (Ochecked_order : Own P w K mg base 3 "checked_order" ["thing", "size"] (bz K 2 bC)) (OXchecked_order_BadCode : OwnX P w K mg base 3 "checked_order" ["thing", "size"] (Bf K 2 C bG)) : FnOk P w K mg base (tf P w) 6 f fd ["game", "asks", "places", "colours"] (Bf K 4 C bo) :=
 xF F rc rfl rfl λ cdv A outer s H E hr => have hu := hr.units
  ⟨_, (aL (cD (aY Ochecked_game hr (aD (pv 0) aI))) (aL (cD (aY Ochecked_asks hr (aD (pv 0) (aD (pv 1) aI)))) (vq (aL (cD (sh OXchecked_order_BadCode hr ou (aD (pv 2) (aD (bT (bV K) (pv 0) aQ (λ _ _ => rfl)) aI)))) oR) (aL (cD (aY Ochecked_order hr (aD (pv 2) (aD (bT (bV K) (pv 0) aQ (λ _ _ => rfl)) aI)))) (aL (cD (sh OXchecked_order_BadCode hr ou (aD (pv 3) (aD (bT (bV K) (pv 0) aQ (λ _ _ => rfl)) aI)))) oR))))), (sf (gH (aS (aE (aG 0) aJ))) (sf (gH (aS (aE (aG 0) (aE (aG 1) aJ)))) (yP (sZ (xG (pO (aE (aG 2) (aE (aW bb (aG 0) aO) aJ))))) (sf (gH (aS (aE (aG 2) (aE (aW bb (aG 0) aO) aJ)))) (sZ (xG (pO (aE (aG 3) (aE (aW bb (aG 0) aO) aJ)))))))))⟩
end
section
variable {P : Program} {w : World} {K : Fg} {mg : Str -> Option Value} {base : Heap} {f : Addr} {fd : FuncData}
theorem uv {D C : Addr} (F : Fun K "_law_told" "_law_told" fu f fd) (B : Bt mg) (Orenamed : B9 P w K mg base) (OXrenamed : OwnX P w K mg base 6 "renamed" ["game", "asks", "places", "colours"] (Bf K 4 C bo))
 (gD_ : mg "GuessError" = some (.ref D)) (gC_ : mg "BadCode" = some (.ref C)) (zV_ : mg "ValueError" = none) (hex : PySem.W.exmOne K (.ref C) (.ref D) = some true) (k1 : PySem.W.kitOne K (.ref C) (.ref C) = some true) (k2 : PySem.W.kitOne K (.ref C) (.type "ValueError") = some true) : FnOk P w K mg base iC 7 f fd ["_law_game_here", "_law_asks_here", "_law_places", "_law_colours"] (bz K 4 bY) := by
 refine F.ok jk (λ vs H Q E h => ?_) (λ cdv A outer s H vs Q E hr h => ?_)
 · obtain ⟨_, ds, d, _, hl, _⟩ := h
   exact hl
 · obtain ⟨F2, ds, d, sF, hl, ar, e, q⟩ := h
   rcases Aa (n := 4) (N := ["_law_game_here", "_law_asks_here", "_law_places", "_law_colours", "e"]) (aE (aG 0) (aE (aG 1) (aE (aG 2) (aE (aG 3) aJ)))) (λ ds hl => match ds, hl with | [_, _, _, _], _ => rfl) rfl sF hl ar e q hex k1 k2 with ⟨_, h⟩ | ⟨_, h⟩
   · exact ⟨_, aR (AE (i := 4) rfl rfl rfl jk.nd rfl rfl gD_ rfl (λ pn E2 E hp => aR (bA (aY Orenamed hr (aD (pv 0) (aD (pv 1) (aD (pv 2) (aD (pv 3) aI))))))) (λ ea pn => aR (bA (dv (aD (bF jq (by rfl) B.isinstance eD (aD (pv 4) (aD (ib (v := .ref C) rfl gC_ rfl) aI))) (aD (bF jq (by rfl) B.isinstance eD (aD (pv 4) (aD (gz (v := .ty "ValueError") rfl zV_ (by decide +kernel) rfl) aI))) aI)))))), h⟩
   · exact ⟨_, aR (AE (i := 4) rfl rfl rfl jk.nd rfl rfl gD_ rfl (λ pn E2 E hp => aR (bA (sh OXrenamed hr hp (aD (pv 0) (aD (pv 1) (aD (pv 2) (aD (pv 3) aI))))))) (λ ea pn => aR (bA (dv (aD (bF jq (by rfl) B.isinstance eD (aD (pv 4) (aD (ib (v := .ref C) rfl gC_ rfl) aI))) (aD (bF jq (by rfl) B.isinstance eD (aD (pv 4) (aD (gz (v := .ty "ValueError") rfl zV_ (by decide +kernel) rfl) aI))) aI)))))), h⟩
theorem tK (F : Fun K "_law_named" "_law_named" eV f fd) (B : Bt mg) : FnOk P w K mg base iC 1 f fd ["_law_code_here", "_law_places", "_law_colours"] (bz K 3 bc) :=
 bK F jI rfl rfl λ cdv A outer s H E hr => have hu := hr.units
  ⟨_, (aL (aj (i := 3) jI.nd (cq (lQ K) (by rfl) B.list PyProof.Rows.boot_list (aD (pv 0) aI))) (aL (eZ PassesOwn.never rfl (d9 rfl B.range (aD (bF (gI K) (by rfl) B.len PySem.boot_len (aD (pv 0) aI)) aI)) (bD (i := 4) jI.nd rfl (by first | exact Or.inl rfl | exact Or.inr rfl)) (aR (vG (bT (bV K) (pv 2) (bT (bV K) (pv 0) (pv 4) (λ _ _ => rfl)) (λ _ _ => rfl)) (vF (pv 3) (bT (bV K) (pv 1) (pv 4) (λ _ _ => rfl)) ol)))) (aR (bA (cq (lR K) (by rfl) B.tuple PyProof.Rows.boot_tuple (aD (pv 3) aI)))))), (aV (gW 3 (iS (aE (aG 0) aJ))) (aV (fB (gX (aE (ba iG (aE (aG 0) aJ)) aJ)) (bE 4) (pV 3 (aW bb (aG 1) (aG 4)) (aW bb (aG 2) (aW bb (aG 0) (aG 4))))) (pE 3 (bJ (ba sT (aE (aG 3) aJ))))))⟩
theorem tL (F : Fun K "_law_codes" "_law_codes" eW f fd) (B : Bt mg) : FnOk P w K mg base iC 1 f fd ["_law_game_here"] (bz K 1 cG) :=
 bK F dI rfl rfl λ cdv A outer s H E hr => have hu := hr.units
  ⟨_, (aL (aj (i := 1) dI.nd (dv (aD (dX aI) aI))) (aL (eZ PassesOwn.never rfl (d9 rfl B.range (aD (bT (bV K) (pv 0) aQ (λ _ _ => rfl)) aI)) (bD (i := 2) dI.nd rfl (by first | exact Or.inl rfl | exact Or.inr rfl)) (aL (aj (i := 3) dI.nd (dv aI)) (aL (eZ PassesOwn.never rfl (eh K (pv 1)) (bD (i := 4) dI.nd rfl (by first | exact Or.inl rfl | exact Or.inr rfl)) (aR (aj (i := 3) dI.nd (bi (cr K) (pv 3) (dY ["_law_colour"] [("_law_code_here", 4)] (d9 rfl B.range (aD (bT (bV K) (pv 0) aQ (λ _ _ => rfl)) aI)) (λ _ _ _ _ => (bD (i := 0) (show List.Nodup (["_law_colour", "_law_code_here"] : List Str) by decide +kernel) rfl (by first | exact Or.inl rfl | exact Or.inr rfl))) (λ _ _ _ _ => gG) (λ _ _ _ _ => (bi (cr K) (pv 1) (dX (aD (pv 0) aI))))))))) (aR (aj (i := 1) dI.nd (pv 3)))))) (aR (bA (pv 1))))), (aV (bR 1 (bv (eg (aE (dZ aJ) aJ)))) (aV (fB (gX (aE (aW bb (aG 0) aO) aJ)) (bE 2) (aV (bR 3 (bv (eg aJ))) (aV (fB (ev (aG 1)) (bE 4) (bR 3 (aW cu (aG 3) (bv (df (gX (aE (aW bb (aG 0) aO) aJ)) (bE 0) cS iE (aW cu (aG 1) (dZ (aE (aG 0) aJ)))))))) (bR 1 (aG 3))))) (bJ (aG 1))))⟩
theorem uw (F : Fun K "_law_left" "_law_left" gB f fd) (B : Bt mg) (O_law_codes : uk P w K mg base) (O_law_answer : mi P w K mg base) : FnOk P w K mg base iC 2 f fd ["_law_game_here", "_law_asks_here"] (bz K 2 cY) :=
 bK F ug rfl rfl λ cdv A outer s H E hr => have hu := hr.units
  ⟨_, (aR (bA (dY ["_law_code_here"] [("_law_asks_here", 1)] (eh K (aY O_law_codes hr (aD (pv 0) aI))) (λ _ _ _ _ => (bD (i := 0) (show List.Nodup (["_law_code_here", "_law_asks_here"] : List Str) by decide +kernel) rfl (by first | exact Or.inl rfl | exact Or.inr rfl))) (λ _ _ _ _ => (sE (gj (gM K (dY ["_law_ask"] [("_law_code_here", 0)] (eh K (pv 1)) (λ _ _ _ _ => (bD (i := 0) (show List.Nodup (["_law_ask", "_law_code_here"] : List Str) by decide +kernel) rfl (by first | exact Or.inl rfl | exact Or.inr rfl))) (λ _ _ _ _ => (sE (dc (sG K hu) (aY O_law_answer hr (aD (pv 1) (aD (bT (bV K) (pv 0) aQ (λ _ _ => rfl)) aI))) (bT (bV K) (pv 0) aQ (λ _ _ => rfl)) (dW _)))) (λ _ _ _ _ => (pv 0))))))) (λ _ _ _ _ => (pv 0))))), (bJ (bv (df (ev (aS (aE (aG 0) aJ))) (bE 0) cS (gp (gP (bv (df (ev (aG 1)) (bE 0) cS (de (aW xA (aS (aE (aG 1) (aE (aW bb (aG 0) aO) aJ))) (aW bb (aG 0) aO))) (aG 0))))) (aG 0))))⟩
theorem ux (F : Fun K "answer_of" "answer_of" gD f fd) (B : Bt mg) : FnOk P w K mg base iC 1 f fd ["hidden", "guess"] (bz K 2 eM) :=
 bK F dD rfl rfl λ cdv A outer s H E hr => have hu := hr.units
  ⟨_, (aL (aj (i := 2) dD.nd aQ) (aL (aj (i := 3) dD.nd aQ) (aL (aj (i := 4) dD.nd (cq (lQ K) (by rfl) B.list PyProof.Rows.boot_list (aD (pv 0) aI))) (aL (eZ PassesOwn.never rfl (AJ K B.enumerate (aD (pv 1) aI)) (lS K (eB (bD (i := 5) dD.nd rfl (by first | exact Or.inl rfl | exact Or.inr rfl)) (eB (bD (i := 6) dD.nd rfl (by first | exact Or.inl rfl | exact Or.inr rfl)) lM))) (aL (fM (dc (ij K hu) (bT (bV K) (pv 0) (pv 5) (λ _ _ => rfl)) (pv 6) (dW _)) (aR (vH (i := 2) dD.nd rfl (by first | exact Or.inl rfl | exact Or.inr rfl) aQ we)) cj) (aR (fM (dc (DT K) (pv 6) (pv 4) (by rfl)) (aL (cD (om PySem.F.plainAttrs_list PySem.F.slot_list_remove PySem.F.type_list_remove qw (pv 4) (aD (pv 6) aI))) (aR (vH (i := 3) dD.nd rfl (by first | exact Or.inl rfl | exact Or.inr rfl) aQ we))) cj)))) (aR (bA (dX (aD (pv 2) (aD (bi vL (pv 3) (pv 2)) aI))))))))), (aV (bR 2 aO) (aV (bR 3 aO) (aV (gW 4 (iS (aE (aG 0) aJ))) (aV (fB (AM (aE (aG 1) aJ)) (pF (eE (bE 5) (eE (bE 6) lU))) (aV (gK (de (aW lW (aW bb (aG 0) (aG 5)) (aG 6))) (vY 2 ww aO) cn) (gK (de (AW false 4 (aG 6))) (aV (rJ 4 (aG 6)) (vY 3 ww aO)) cn))) (bJ (dZ (aE (aG 2) (aE (aW vZ (aG 3) (aG 2)) aJ))))))))⟩
theorem wZ (F : Fun K "fits_ask" "fits_ask" gi f fd) (B : Bt mg) (Oanswer_of : wU P w K mg base) : FnOk P w K mg base iC 2 f fd ["code", "ask"] (bz K 2 dh) :=
 bK F wM rfl rfl λ cdv A outer s H E hr => have hu := hr.units
  ⟨_, (aR (bA (jo (ij K hu) (aY Oanswer_of hr (aD (pv 0) (aD (bT (bV K) (pv 1) aQ (λ _ _ => rfl)) aI))) (bT (bV K) (pv 1) aQ (λ _ _ => rfl)) (dW _)))), (bJ (aW lW (aS (aE (aG 0) (aE (aW bb (aG 1) aO) aJ))) (aW bb (aG 1) aO)))⟩
theorem nQ (F : Fun K "those_that_fit" "those_that_fit" cO f fd) (B : Bt mg) (Ofits_ask : y9 P w K mg base) : FnOk P w K mg base iC 3 f fd ["codes", "asks"] (bz K 2 bw) :=
 bK F dl rfl rfl λ cdv A outer s H E hr => have hu := hr.units
  ⟨_, (aL (aj (i := 2) dl.nd (pv 0)) (aL (eZ PassesOwn.never rfl (eh K (pv 1)) (bD (i := 3) dl.nd rfl (by first | exact Or.inl rfl | exact Or.inr rfl)) (aR (wt (i := 2) ["code"] [("ask", 3)] dl.nd rfl (by first | exact Or.inl rfl | exact Or.inr rfl) (eh K (pv 2)) (λ _ _ _ _ => (bD (i := 0) (show List.Nodup (["code", "ask"] : List Str) by decide +kernel) rfl (by first | exact Or.inl rfl | exact Or.inr rfl))) (λ _ _ _ _ => (sE (gM K (aY Ofits_ask hr (aD (pv 0) (aD (pv 1) aI)))))) (λ _ _ _ _ => (pv 0))))) (aR (bA (pv 2))))), (aV (bR 2 (aG 0)) (aV (fB (ev (aG 1)) (bE 3) (bR 2 (bv (df (ev (aG 2)) (bE 0) cS (gP (aS (aE (aG 0) (aE (aG 1) aJ)))) (aG 0))))) (bJ (aG 2))))⟩
theorem uy (F : Fun K "all_codes" "all_codes" gE f fd) (B : Bt mg) (Ochecked_game : iJ P w K mg base) : FnOk P w K mg base iC 4 f fd ["game"] (bz K 1 eN) :=
 bK F eX rfl rfl λ cdv A outer s H E hr => have hu := hr.units
  ⟨_, (aL (cD (aY Ochecked_game hr (aD (pv 0) aI))) (aL (aj (i := 1) eX.nd (dv (aD (dX aI) aI))) (aL (eZ PassesOwn.never rfl (d9 rfl B.range (aD (bT (bV K) (pv 0) aQ (λ _ _ => rfl)) aI)) (bD (i := 2) eX.nd rfl (by first | exact Or.inl rfl | exact Or.inr rfl)) (aL (aj (i := 3) eX.nd (dv aI)) (aL (eZ PassesOwn.never rfl (eh K (pv 1)) (bD (i := 4) eX.nd rfl (by first | exact Or.inl rfl | exact Or.inr rfl)) (aR (cD (om PySem.F.plainAttrs_list PySem.F.slot_list_extend PySem.F.type_list_extend xg (pv 3) (aD (dY ["colour"] [("code", 4)] (d9 rfl B.range (aD (bT (bV K) (pv 0) aQ (λ _ _ => rfl)) aI)) (λ _ _ _ _ => (bD (i := 0) (show List.Nodup (["colour", "code"] : List Str) by decide +kernel) rfl (by first | exact Or.inl rfl | exact Or.inr rfl))) (λ _ _ _ _ => gG) (λ _ _ _ _ => (bi (cr K) (pv 1) (dX (aD (pv 0) aI))))) aI))))) (aR (aj (i := 1) eX.nd (pv 3)))))) (aR (bA (pv 1)))))), (aV (gH (aS (aE (aG 0) aJ))) (aV (bR 1 (bv (eg (aE (dZ aJ) aJ)))) (aV (fB (gX (aE (aW bb (aG 0) aO) aJ)) (bE 2) (aV (gW 3 (eg aJ)) (aV (fB (ev (aG 1)) (bE 4) (xy 3 (bv (df (gX (aE (aW bb (aG 0) aO) aJ)) (bE 0) cS iE (aW cu (aG 1) (dZ (aE (aG 0) aJ))))))) (pE 3 (bR 1 (aG 3)))))) (bJ (aG 1)))))⟩
theorem uz (F : Fun K "what_fits" "what_fits" gF f fd) (B : Bt mg) (Ochecked_game : iJ P w K mg base) (Ochecked_asks : kc P w K mg base) (Othose_that_fit : oI P w K mg base) (Oall_codes : wV P w K mg base) : FnOk P w K mg base iC 6 f fd ["game", "asks"] (bz K 2 eO) :=
 bK F uh rfl rfl λ cdv A outer s H E hr => have hu := hr.units
  ⟨_, (aL (cD (aY Ochecked_game hr (aD (pv 0) aI))) (aL (cD (aY Ochecked_asks hr (aD (pv 0) (aD (pv 1) aI)))) (aR (bA (aY Othose_that_fit hr (aD (aY Oall_codes hr (aD (pv 0) aI)) (aD (pv 1) aI))))))), (aV (gH (aS (aE (aG 0) aJ))) (aV (gH (aS (aE (aG 0) (aE (aG 1) aJ)))) (bJ (aS (aE (aS (aE (aG 0) aJ)) (aE (aG 1) aJ))))))⟩
theorem Fh (F : Fun K "law" "law" tI f fd) (B : Bt mg) (O_law_game : wN P w K mg base) (O_law_asks : wQ P w K mg base) (O_law_order : ui P w K mg base) (O_law_told : wS P w K mg base) (O_law_cell : lF P w K mg base) (Owhat_fits : wW P w K mg base) (O_law_named : uj P w K mg base) (O_law_left : wT P w K mg base) : FnOk P w K mg base iC 8 f fd ["_law_script"] (bz K 1 BI) :=
 bK F jl rfl rfl λ cdv A outer s H E hr => have hu := hr.units
  ⟨_, (aL (aj (i := 1) jl.nd (aY O_law_game hr (aD (pv 0) (aD aQ aI)))) (aL (aj (i := 2) jl.nd (aY O_law_asks hr (aD (pv 0) (aD aQ (aD (pv 1) aI))))) (aL (aj (i := 3) jl.nd (aY O_law_order hr (aD (aY O_law_cell hr (aD (pv 0) (aD aQ aI))) (aD (bT (bV K) (pv 1) aQ (λ _ _ => rfl)) aI)))) (aL (aj (i := 4) jl.nd (aY O_law_order hr (aD (aY O_law_cell hr (aD (pv 0) (aD aQ aI))) (aD (bT (bV K) (pv 1) aQ (λ _ _ => rfl)) aI)))) (aL (fM (dc (ij K hu) (bi o8 (aY O_law_cell hr (aD (pv 0) (aD aQ aI))) aQ) aQ (dW _)) (aL (aj (i := 5) jl.nd (dv (aD (pv 3) (aD (pv 4) aI)))) (aL (aj (i := 6) jl.nd (bi o8 (aY O_law_cell hr (aD (pv 0) (aD aQ aI))) aQ)) (aL (aj (i := 7) jl.nd (bT (bV K) (pv 5) (pv 6) (λ _ _ => rfl))) (aL (aj (i := 8) jl.nd (dv (aD vD (aD (cq (lQ K) (by rfl) B.list PyProof.Rows.boot_list (aD (pv 7) aI)) (aD (bi (cr K) (pv 7) (dX (aD (bF (gI K) (by rfl) B.len PySem.boot_len (aD (pv 7) aI)) aI))) (aD (oj (va K) (pv 7) (rp aQ) rn) (aD (bi (cr K) (oj (va K) (pv 7) (rp aQ) rn) (dX (aD (bF (gI K) (by rfl) B.len PySem.boot_len (aD (pv 7) aI)) aI))) (aD (bi Cj (dX (aD aQ aI)) (bi (cr K) (bF (gI K) (by rfl) B.len PySem.boot_len (aD (pv 7) aI)) aQ)) (aD rj (aD (dX (aD vD aI)) aI)))))))))) (aL (vG (bT (bV K) (bi (cr K) (pv 8) (dv (aD (bi (cr K) (oj (va K) (pv 7) (rp aQ) rn) (dX (aD rj aI))) aI))) (bi o8 (aY O_law_cell hr (aD (pv 0) (aD aQ aI))) aQ) (λ _ _ => rfl)) (vF (pv 5) (pv 6) ol)) (aR (bA (jo (ij K hu) (aY O_law_told hr (aD (pv 1) (aD (pv 2) (aD (bT (bV K) (pv 5) aQ (λ _ _ => rfl)) (aD (bT (bV K) (pv 5) aQ (λ _ _ => rfl)) aI))))) (dv (aD nR (aD nR aI))) (dW _))))))))) cj) (aL (aj (i := 9) jl.nd (aY O_law_told hr (aD (pv 1) (aD (cq (lQ K) (by rfl) B.list PyProof.Rows.boot_list (aD (pv 2) aI)) (aD (pv 3) (aD (pv 4) aI)))))) (aL (fM (dc (sG K hu) (pv 9) (dY ["_law_guess", "_law_one"] [("_law_places", 3), ("_law_colours", 4)] (eh K (pv 2)) (λ _ _ _ _ => (lS K (eB (bD (i := 0) (show List.Nodup (["_law_guess", "_law_one", "_law_places", "_law_colours"] : List Str) by decide +kernel) rfl (by first | exact Or.inl rfl | exact Or.inr rfl)) (eB (bD (i := 1) (show List.Nodup (["_law_guess", "_law_one", "_law_places", "_law_colours"] : List Str) by decide +kernel) rfl (by first | exact Or.inl rfl | exact Or.inr rfl)) lM)))) (λ _ _ _ _ => gG) (λ _ _ _ _ => (dX (aD (aY O_law_named hr (aD (pv 0) (aD (pv 2) (aD (pv 3) aI)))) (aD (pv 1) aI))))) (dW _)) (aR (bA nR)) cj) (aL (aj (i := 10) jl.nd (bF ng (by rfl) B.sorted PyProof.Rows.boot_sorted (aD (dY ["_law_code_here"] [("_law_places", 3), ("_law_colours", 4)] (eh K (aY O_law_left hr (aD (pv 1) (aD (pv 2) aI)))) (λ _ _ _ _ => (bD (i := 0) (show List.Nodup (["_law_code_here", "_law_places", "_law_colours"] : List Str) by decide +kernel) rfl (by first | exact Or.inl rfl | exact Or.inr rfl))) (λ _ _ _ _ => gG) (λ _ _ _ _ => (aY O_law_named hr (aD (pv 0) (aD (pv 1) (aD (pv 2) aI)))))) aI))) (aR (bA (jo (ij K hu) (aY Owhat_fits hr (aD (pv 1) (aD (pv 9) aI))) (pv 10) (dW _)))))))))))), (aV (bR 1 (aS (aE (aG 0) (aE aO aJ)))) (aV (bR 2 (bv (CO (aE (aG 0) (aE aO (aE (aG 1) aJ)))))) (aV (bR 3 (aS (aE (aS (aE (aG 0) (aE aO aJ))) (aE (aW bb (aG 1) aO) aJ)))) (aV (bR 4 (aS (aE (aS (aE (aG 0) (aE aO aJ))) (aE (aW bb (aG 1) aO) aJ)))) (aV (gK (de (aW lW (aW pH (aS (aE (aG 0) (aE aO aJ))) aO) aO)) (aV (gW 5 (eg (aE (aG 3) (aE (aG 4) aJ)))) (aV (bR 6 (aW pH (aS (aE (aG 0) (aE aO aJ))) aO)) (aV (bR 7 (vi 5 (aG 6))) (aV (bR 8 (bv (eg (aE vX (aE (bv (iS (aE (aG 7) aJ))) (aE (aW cu (aG 7) (dZ (aE (ba iG (aE (aG 7) aJ)) aJ))) (aE (AT (aG 7) (sS aO) sR) (aE (aW cu (AT (aG 7) (sS aO) sR) (dZ (aE (ba iG (aE (aG 7) aJ)) aJ))) (aE (aW Ck (dZ (aE aO aJ)) (aW cu (ba iG (aE (aG 7) aJ)) aO)) (aE sM (aE (dZ (aE vX aJ)) aJ))))))))))) (aV (pV 5 (aG 6) (aW bb (aW cu (aG 8) (bv (eg (aE (aW cu (AT (aG 7) (sS aO) sR) (dZ (aE sM aJ))) aJ)))) (aW pH (aS (aE (aG 0) (aE aO aJ))) aO))) (bJ (aW lW (aS (aE (aG 1) (aE (aG 2) (aE (vi 5 aO) (aE (vi 5 aO) aJ))))) (bv (eg (aE nX (aE nX aJ))))))))))) cn) (aV (bR 9 (aS (aE (aG 1) (aE (bv (iS (aE (aG 2) aJ))) (aE (aG 3) (aE (aG 4) aJ)))))) (aV (gK (de (aW xA (aG 9) (bv (df (ev (aG 2)) (pF (eE (bE 0) (eE (bE 1) lU))) (CM (rL cS (rL cS AO))) iE (dZ (aE (aS (aE (aG 0) (aE (aG 2) (aE (aG 3) aJ)))) (aE (aG 1) aJ))))))) (bJ nX) cn) (aV (bR 10 (ba rR (aE (bv (df (ev (aS (aE (aG 1) (aE (aG 2) aJ)))) (bE 0) cS iE (aS (aE (aG 0) (aE (aG 1) (aE (aG 2) aJ)))))) aJ))) (bJ (aW lW (aS (aE (aG 1) (aE (aG 9) aJ))) (aG 10)))))))))))⟩
end
theorem all_mk {l : PySem.W.OpenLaw} {w : World} {K : Fg} {h : Heap} {mg : Str -> Option Value} {fa : Addr} (X : K.In h) (G : h.Ns mainGlobals mg) (hfa : mg "law" = some (.ref fa))
 {od0 an0 : Option Addr} {sl0 : Array (Option Value)} {oc0 kV0 dc0 pm0 cd0 ct0 : Value} {f0 : Addr} {od1 an1 : Option Addr} {sl1 : Array (Option Value)} {oc1 kV1 dc1 pm1 cd1 ct1 : Value} {f1 : Addr} {od2 an2 : Option Addr} {sl2 : Array (Option Value)} {oc2 kV2 dc2 pm2 cd2 ct2 : Value} {f2 : Addr} {od3 an3 : Option Addr} {sl3 : Array (Option Value)} {oc3 kV3 dc3 pm3 cd3 ct3 : Value} {f3 : Addr} {od4 an4 : Option Addr} {sl4 : Array (Option Value)} {oc4 kV4 dc4 pm4 cd4 ct4 : Value} {f4 : Addr} {od5 an5 : Option Addr} {sl5 : Array (Option Value)} {oc5 kV5 dc5 pm5 cd5 ct5 : Value} {f5 : Addr} {od6 an6 : Option Addr} {sl6 : Array (Option Value)} {oc6 kV6 dc6 pm6 cd6 ct6 : Value} {f6 : Addr} {od7 an7 : Option Addr} {sl7 : Array (Option Value)} {oc7 kV7 dc7 pm7 cd7 ct7 : Value} {f7 : Addr} {od8 an8 : Option Addr} {sl8 : Array (Option Value)} {oc8 kV8 dc8 pm8 cd8 ct8 : Value} {f8 : Addr} {od9 an9 : Option Addr} {sl9 : Array (Option Value)} {oc9 kV9 dc9 pm9 cd9 ct9 : Value} {f9 : Addr} {od10 an10 : Option Addr} {sl10 : Array (Option Value)} {oc10 kV10 dc10 pm10 cd10 ct10 : Value} {f10 : Addr} {od11 an11 : Option Addr} {sl11 : Array (Option Value)} {oc11 kV11 dc11 pm11 cd11 ct11 : Value} {f11 : Addr} {od12 an12 : Option Addr} {sl12 : Array (Option Value)} {oc12 kV12 dc12 pm12 cd12 ct12 : Value} {f12 : Addr} {od13 an13 : Option Addr} {sl13 : Array (Option Value)} {oc13 kV13 dc13 pm13 cd13 ct13 : Value} {f13 : Addr} {od14 an14 : Option Addr} {sl14 : Array (Option Value)} {oc14 kV14 dc14 pm14 cd14 ct14 : Value} {f14 : Addr} {od15 an15 : Option Addr} {sl15 : Array (Option Value)} {oc15 kV15 dc15 pm15 cd15 ct15 : Value} {f15 : Addr} {od16 an16 : Option Addr} {sl16 : Array (Option Value)} {oc16 kV16 dc16 pm16 cd16 ct16 : Value} {f16 : Addr} {od17 an17 : Option Addr} {sl17 : Array (Option Value)} {oc17 kV17 dc17 pm17 cd17 ct17 : Value} {f17 : Addr} {od18 an18 : Option Addr} {sl18 : Array (Option Value)} {oc18 kV18 dc18 pm18 cd18 ct18 : Value} {f18 : Addr} {od19 an19 : Option Addr} {sl19 : Array (Option Value)} {oc19 kV19 dc19 pm19 cd19 ct19 : Value} {f19 : Addr} {od20 an20 : Option Addr} {sl20 : Array (Option Value)} {oc20 kV20 dc20 pm20 cd20 ct20 : Value} {f20 : Addr} {od21 an21 : Option Addr} {sl21 : Array (Option Value)} {oc21 kV21 dc21 pm21 cd21 ct21 : Value} {f21 : Addr} {od22 an22 : Option Addr} {sl22 : Array (Option Value)} {oc22 kV22 dc22 pm22 cd22 ct22 : Value} {f22 : Addr} {od23 an23 : Option Addr} {sl23 : Array (Option Value)} {oc23 kV23 dc23 pm23 cd23 ct23 : Value} {f23 : Addr} {od24 an24 : Option Addr} {sl24 : Array (Option Value)} {oc24 kV24 dc24 pm24 cd24 ct24 : Value} {f24 : Addr} {od25 an25 : Option Addr} {sl25 : Array (Option Value)} {oc25 kV25 dc25 pm25 cd25 ct25 : Value} {f25 : Addr} {od26 an26 : Option Addr} {sl26 : Array (Option Value)} {oc26 kV26 dc26 pm26 cd26 ct26 : Value} {f26 : Addr} {od27 an27 : Option Addr} {sl27 : Array (Option Value)} {oc27 kV27 dc27 pm27 cd27 ct27 : Value} {f27 : Addr} {od28 an28 : Option Addr} {sl28 : Array (Option Value)} {oc28 kV28 dc28 pm28 cd28 ct28 : Value} {f28 : Addr} {od29 an29 : Option Addr} {sl29 : Array (Option Value)} {oc29 kV29 dc29 pm29 cd29 ct29 : Value} {f29 : Addr} {od30 an30 : Option Addr} {sl30 : Array (Option Value)} {oc30 kV30 dc30 pm30 cd30 ct30 : Value} {f30 : Addr} {CBadCode : Addr} {CGuessError : Addr}
 (a0 : PySem.W.nsIn K mainGlobals "_law_mix" = some (some (.ref f0))) (l0 : K.lookup f0 = some ⟨oc0, od0, .func (PySem.W.fnOf "_law_mix" "_law_mix" (aw gf) (ah gf) (aK gf) .none kV0 dc0 pm0 an0 cd0 ct0), sl0⟩) (c0 : PySem.W.codeIn K cd0 "_law_mix" = true) (k0 : PySem.W.keepIn K (.ref f0) = true)
 (a1 : PySem.W.nsIn K mainGlobals "_law_cell" = some (some (.ref f1))) (l1 : K.lookup f1 = some ⟨oc1, od1, .func (PySem.W.fnOf "_law_cell" "_law_cell" (aw fY) (ah fY) (aK fY) .none kV1 dc1 pm1 an1 cd1 ct1), sl1⟩) (c1 : PySem.W.codeIn K cd1 "_law_cell" = true) (k1 : PySem.W.keepIn K (.ref f1) = true)
 (a2 : PySem.W.nsIn K mainGlobals "_law_game" = some (some (.ref f2))) (l2 : K.lookup f2 = some ⟨oc2, od2, .func (PySem.W.fnOf "_law_game" "_law_game" (aw fZ) (ah fZ) (aK fZ) .none kV2 dc2 pm2 an2 cd2 ct2), sl2⟩) (c2 : PySem.W.codeIn K cd2 "_law_game" = true) (k2 : PySem.W.keepIn K (.ref f2) = true)
 (a3 : PySem.W.nsIn K mainGlobals "_law_code" = some (some (.ref f3))) (l3 : K.lookup f3 = some ⟨oc3, od3, .func (PySem.W.fnOf "_law_code" "_law_code" (aw fh) (ah fh) (aK fh) .none kV3 dc3 pm3 an3 cd3 ct3), sl3⟩) (c3 : PySem.W.codeIn K cd3 "_law_code" = true) (k3 : PySem.W.keepIn K (.ref f3) = true)
 (a4 : PySem.W.nsIn K mainGlobals "_law_answer" = some (some (.ref f4))) (l4 : K.lookup f4 = some ⟨oc4, od4, .func (PySem.W.fnOf "_law_answer" "_law_answer" (aw dj) (ah dj) (aK dj) .none kV4 dc4 pm4 an4 cd4 ct4), sl4⟩) (c4 : PySem.W.codeIn K cd4 "_law_answer" = true) (k4 : PySem.W.keepIn K (.ref f4) = true)
 (a5 : PySem.W.nsIn K mainGlobals "_law_asks" = some (some (.ref f5))) (l5 : K.lookup f5 = some ⟨oc5, od5, .func (PySem.W.fnOf "_law_asks" "_law_asks" (aw fq) (ah fq) (aK fq) .none kV5 dc5 pm5 an5 cd5 ct5), sl5⟩) (c5 : PySem.W.codeIn K cd5 "_law_asks" = true) (k5 : PySem.W.keepIn K (.ref f5) = true)
 (a6 : PySem.W.nsIn K mainGlobals "_law_order" = some (some (.ref f6))) (l6 : K.lookup f6 = some ⟨oc6, od6, .func (PySem.W.fnOf "_law_order" "_law_order" (aw eU) (ah eU) (aK eU) .none kV6 dc6 pm6 an6 cd6 ct6), sl6⟩) (c6 : PySem.W.codeIn K cd6 "_law_order" = true) (k6 : PySem.W.keepIn K (.ref f6) = true)
 (a7 : PySem.W.nsIn K mainGlobals "is_pair" = some (some (.ref f7))) (l7 : K.lookup f7 = some ⟨oc7, od7, .func (PySem.W.fnOf "is_pair" "is_pair" (aw i6) (ah i6) (aK i6) .none kV7 dc7 pm7 an7 cd7 ct7), sl7⟩) (c7 : PySem.W.codeIn K cd7 "is_pair" = true) (k7 : PySem.W.keepIn K (.ref f7) = true)
 (a8 : PySem.W.nsIn K mainGlobals "is_number_within" = some (some (.ref f8))) (l8 : K.lookup f8 = some ⟨oc8, od8, .func (PySem.W.fnOf "is_number_within" "is_number_within" (aw bu) (ah bu) (aK bu) .none kV8 dc8 pm8 an8 cd8 ct8), sl8⟩) (c8 : PySem.W.codeIn K cd8 "is_number_within" = true) (k8 : PySem.W.keepIn K (.ref f8) = true)
 (a9 : PySem.W.nsIn K mainGlobals "how_many_codes" = some (some (.ref f9))) (l9 : K.lookup f9 = some ⟨oc9, od9, .func (PySem.W.fnOf "how_many_codes" "how_many_codes" (aw cN) (ah cN) (aK cN) .none kV9 dc9 pm9 an9 cd9 ct9), sl9⟩) (c9 : PySem.W.codeIn K cd9 "how_many_codes" = true) (k9 : PySem.W.keepIn K (.ref f9) = true)
 (a10 : PySem.W.nsIn K mainGlobals "is_game" = some (some (.ref f10))) (l10 : K.lookup f10 = some ⟨oc10, od10, .func (PySem.W.fnOf "is_game" "is_game" (aw i7) (ah i7) (aK i7) .none kV10 dc10 pm10 an10 cd10 ct10), sl10⟩) (c10 : PySem.W.codeIn K cd10 "is_game" = true) (k10 : PySem.W.keepIn K (.ref f10) = true)
 (a11 : PySem.W.nsIn K mainGlobals "checked_game" = some (some (.ref f11))) (l11 : K.lookup f11 = some ⟨oc11, od11, .func (PySem.W.fnOf "checked_game" "checked_game" (aw dN) (ah dN) (aK dN) .none kV11 dc11 pm11 an11 cd11 ct11), sl11⟩) (c11 : PySem.W.codeIn K cd11 "checked_game" = true) (k11 : PySem.W.keepIn K (.ref f11) = true)
 (a12 : PySem.W.nsIn K mainGlobals "is_code" = some (some (.ref f12))) (l12 : K.lookup f12 = some ⟨oc12, od12, .func (PySem.W.fnOf "is_code" "is_code" (aw i8) (ah i8) (aK i8) .none kV12 dc12 pm12 an12 cd12 ct12), sl12⟩) (c12 : PySem.W.codeIn K cd12 "is_code" = true) (k12 : PySem.W.keepIn K (.ref f12) = true)
 (a13 : PySem.W.nsIn K mainGlobals "is_answer" = some (some (.ref f13))) (l13 : K.lookup f13 = some ⟨oc13, od13, .func (PySem.W.fnOf "is_answer" "is_answer" (aw ft) (ah ft) (aK ft) .none kV13 dc13 pm13 an13 cd13 ct13), sl13⟩) (c13 : PySem.W.codeIn K cd13 "is_answer" = true) (k13 : PySem.W.keepIn K (.ref f13) = true)
 (a14 : PySem.W.nsIn K mainGlobals "is_ask" = some (some (.ref f14))) (l14 : K.lookup f14 = some ⟨oc14, od14, .func (PySem.W.fnOf "is_ask" "is_ask" (aw kA) (ah kA) (aK kA) .none kV14 dc14 pm14 an14 cd14 ct14), sl14⟩) (c14 : PySem.W.codeIn K cd14 "is_ask" = true) (k14 : PySem.W.keepIn K (.ref f14) = true)
 (a15 : PySem.W.nsIn K mainGlobals "checked_list" = some (some (.ref f15))) (l15 : K.lookup f15 = some ⟨oc15, od15, .func (PySem.W.fnOf "checked_list" "checked_list" (aw dO) (ah dO) (aK dO) .none kV15 dc15 pm15 an15 cd15 ct15), sl15⟩) (c15 : PySem.W.codeIn K cd15 "checked_list" = true) (k15 : PySem.W.keepIn K (.ref f15) = true)
 (a16 : PySem.W.nsIn K mainGlobals "checked_asks" = some (some (.ref f16))) (l16 : K.lookup f16 = some ⟨oc16, od16, .func (PySem.W.fnOf "checked_asks" "checked_asks" (aw dP) (ah dP) (aK dP) .none kV16 dc16 pm16 an16 cd16 ct16), sl16⟩) (c16 : PySem.W.codeIn K cd16 "checked_asks" = true) (k16 : PySem.W.keepIn K (.ref f16) = true)
 (a17 : PySem.W.nsIn K mainGlobals "is_order" = some (some (.ref f17))) (l17 : K.lookup f17 = some ⟨oc17, od17, .func (PySem.W.fnOf "is_order" "is_order" (aw gh) (ah gh) (aK gh) .none kV17 dc17 pm17 an17 cd17 ct17), sl17⟩) (c17 : PySem.W.codeIn K cd17 "is_order" = true) (k17 : PySem.W.keepIn K (.ref f17) = true)
 (a18 : PySem.W.nsIn K mainGlobals "checked_order" = some (some (.ref f18))) (l18 : K.lookup f18 = some ⟨oc18, od18, .func (PySem.W.fnOf "checked_order" "checked_order" (aw cK) (ah cK) (aK cK) .none kV18 dc18 pm18 an18 cd18 ct18), sl18⟩) (c18 : PySem.W.codeIn K cd18 "checked_order" = true) (k18 : PySem.W.keepIn K (.ref f18) = true)
 (a19 : PySem.W.nsIn K mainGlobals "renamed_code" = some (some (.ref f19))) (l19 : K.lookup f19 = some ⟨oc19, od19, .func (PySem.W.fnOf "renamed_code" "renamed_code" (aw dQ) (ah dQ) (aK dQ) .none kV19 dc19 pm19 an19 cd19 ct19), sl19⟩) (c19 : PySem.W.codeIn K cd19 "renamed_code" = true) (k19 : PySem.W.keepIn K (.ref f19) = true)
 (a20 : PySem.W.nsIn K mainGlobals "renamed" = some (some (.ref f20))) (l20 : K.lookup f20 = some ⟨oc20, od20, .func (PySem.W.fnOf "renamed" "renamed" (aw gx) (ah gx) (aK gx) .none kV20 dc20 pm20 an20 cd20 ct20), sl20⟩) (c20 : PySem.W.codeIn K cd20 "renamed" = true) (k20 : PySem.W.keepIn K (.ref f20) = true)
 (a21 : PySem.W.nsIn K mainGlobals "_law_told" = some (some (.ref f21))) (l21 : K.lookup f21 = some ⟨oc21, od21, .func (PySem.W.fnOf "_law_told" "_law_told" (aw fu) (ah fu) (aK fu) .none kV21 dc21 pm21 an21 cd21 ct21), sl21⟩) (c21 : PySem.W.codeIn K cd21 "_law_told" = true) (k21 : PySem.W.keepIn K (.ref f21) = true)
 (a22 : PySem.W.nsIn K mainGlobals "_law_named" = some (some (.ref f22))) (l22 : K.lookup f22 = some ⟨oc22, od22, .func (PySem.W.fnOf "_law_named" "_law_named" (aw eV) (ah eV) (aK eV) .none kV22 dc22 pm22 an22 cd22 ct22), sl22⟩) (c22 : PySem.W.codeIn K cd22 "_law_named" = true) (k22 : PySem.W.keepIn K (.ref f22) = true)
 (a23 : PySem.W.nsIn K mainGlobals "_law_codes" = some (some (.ref f23))) (l23 : K.lookup f23 = some ⟨oc23, od23, .func (PySem.W.fnOf "_law_codes" "_law_codes" (aw eW) (ah eW) (aK eW) .none kV23 dc23 pm23 an23 cd23 ct23), sl23⟩) (c23 : PySem.W.codeIn K cd23 "_law_codes" = true) (k23 : PySem.W.keepIn K (.ref f23) = true)
 (a24 : PySem.W.nsIn K mainGlobals "_law_left" = some (some (.ref f24))) (l24 : K.lookup f24 = some ⟨oc24, od24, .func (PySem.W.fnOf "_law_left" "_law_left" (aw gB) (ah gB) (aK gB) .none kV24 dc24 pm24 an24 cd24 ct24), sl24⟩) (c24 : PySem.W.codeIn K cd24 "_law_left" = true) (k24 : PySem.W.keepIn K (.ref f24) = true)
 (a25 : PySem.W.nsIn K mainGlobals "answer_of" = some (some (.ref f25))) (l25 : K.lookup f25 = some ⟨oc25, od25, .func (PySem.W.fnOf "answer_of" "answer_of" (aw gD) (ah gD) (aK gD) .none kV25 dc25 pm25 an25 cd25 ct25), sl25⟩) (c25 : PySem.W.codeIn K cd25 "answer_of" = true) (k25 : PySem.W.keepIn K (.ref f25) = true)
 (a26 : PySem.W.nsIn K mainGlobals "fits_ask" = some (some (.ref f26))) (l26 : K.lookup f26 = some ⟨oc26, od26, .func (PySem.W.fnOf "fits_ask" "fits_ask" (aw gi) (ah gi) (aK gi) .none kV26 dc26 pm26 an26 cd26 ct26), sl26⟩) (c26 : PySem.W.codeIn K cd26 "fits_ask" = true) (k26 : PySem.W.keepIn K (.ref f26) = true)
 (a27 : PySem.W.nsIn K mainGlobals "those_that_fit" = some (some (.ref f27))) (l27 : K.lookup f27 = some ⟨oc27, od27, .func (PySem.W.fnOf "those_that_fit" "those_that_fit" (aw cO) (ah cO) (aK cO) .none kV27 dc27 pm27 an27 cd27 ct27), sl27⟩) (c27 : PySem.W.codeIn K cd27 "those_that_fit" = true) (k27 : PySem.W.keepIn K (.ref f27) = true)
 (a28 : PySem.W.nsIn K mainGlobals "all_codes" = some (some (.ref f28))) (l28 : K.lookup f28 = some ⟨oc28, od28, .func (PySem.W.fnOf "all_codes" "all_codes" (aw gE) (ah gE) (aK gE) .none kV28 dc28 pm28 an28 cd28 ct28), sl28⟩) (c28 : PySem.W.codeIn K cd28 "all_codes" = true) (k28 : PySem.W.keepIn K (.ref f28) = true)
 (a29 : PySem.W.nsIn K mainGlobals "what_fits" = some (some (.ref f29))) (l29 : K.lookup f29 = some ⟨oc29, od29, .func (PySem.W.fnOf "what_fits" "what_fits" (aw gF) (ah gF) (aK gF) .none kV29 dc29 pm29 an29 cd29 ct29), sl29⟩) (c29 : PySem.W.codeIn K cd29 "what_fits" = true) (k29 : PySem.W.keepIn K (.ref f29) = true)
 (a30 : PySem.W.nsIn K mainGlobals "law" = some (some (.ref f30))) (l30 : K.lookup f30 = some ⟨oc30, od30, .func (PySem.W.fnOf "law" "law" (aw tI) (ah tI) (aK tI) .none kV30 dc30 pm30 an30 cd30 ct30), sl30⟩) (c30 : PySem.W.codeIn K cd30 "law" = true) (k30 : PySem.W.keepIn K (.ref f30) = true)
 {tMOST_PLACES : Tok} (gMOST_PLACES : PySem.W.nsIn K mainGlobals "MOST_PLACES" = some (some (.int 5 tMOST_PLACES)))
 {tMOST_COLOURS : Tok} (gMOST_COLOURS : PySem.W.nsIn K mainGlobals "MOST_COLOURS" = some (some (.int 8 tMOST_COLOURS)))
 {tMOST_CODES : Tok} (gMOST_CODES : PySem.W.nsIn K mainGlobals "MOST_CODES" = some (some (.int 300 tMOST_CODES)))
 {tMOST_ASKS : Tok} (gMOST_ASKS : PySem.W.nsIn K mainGlobals "MOST_ASKS" = some (some (.int 8 tMOST_ASKS)))
 (yBadCode : PySem.W.nsIn K mainGlobals "BadCode" = some (some (.ref CBadCode)))
 (yGuessError : PySem.W.nsIn K mainGlobals "GuessError" = some (some (.ref CGuessError)))
 (xBadCode : PySem.W.excIn K CBadCode [.type "ValueError", .type "Exception", .type "BaseException", .type "object"] "ValueError.__new__" = true)
 (eBadCodeGuessError : PySem.W.exmOne K (.ref CBadCode) (.ref CGuessError) = some true)
 (vBadCodeBadCode : PySem.W.kitOne K (.ref CBadCode) (.ref CBadCode) = some true)
 (uBadCode : PySem.W.kitOne K (.ref CBadCode) (.type "ValueError") = some true)
 (zValueError : PySem.W.nsIn K mainGlobals "ValueError" = some none)
 (zlen : PySem.W.nsIn K mainGlobals "len" = some none)
 (zisinstance : PySem.W.nsIn K mainGlobals "isinstance" = some none)
 (zrange : PySem.W.nsIn K mainGlobals "range" = some none)
 (zint : PySem.W.nsIn K mainGlobals "int" = some none)
 (zbool : PySem.W.nsIn K mainGlobals "bool" = some none)
 (ztuple : PySem.W.nsIn K mainGlobals "tuple" = some none)
 (zlist : PySem.W.nsIn K mainGlobals "list" = some none)
 (zall : PySem.W.nsIn K mainGlobals "all" = some none)
 (zenumerate : PySem.W.nsIn K mainGlobals "enumerate" = some none)
 (zzip : PySem.W.nsIn K mainGlobals "zip" = some none)
 (zsum : PySem.W.nsIn K mainGlobals "sum" = some none)
 (zsorted : PySem.W.nsIn K mainGlobals "sorted" = some none)
 (zmax : PySem.W.nsIn K mainGlobals "max" = some none)
 (zmin : PySem.W.nsIn K mainGlobals "min" = some none)
 (zset : PySem.W.nsIn K mainGlobals "set" = some none)
 (zstr : PySem.W.nsIn K mainGlobals "str" = some none)
:
 ∃ fd : FuncData, (∀ (s : Shared) (v : Value), BindsTo s fd ⟨[v], []⟩ [("_law_script", v)]) /\ ∀ base : Heap, K.In base -> base.Ns mainGlobals mg -> BMdB base mg -> FnOk l.prog w K mg base iC 8 fa fd ["_law_script"] (bz K 1 BI) := by
 have e := hfa.symm.trans (PySem.W.mg_of X G a30)
 cases e
 have B : Bt mg := ⟨PySem.W.mg_none_of X G zlen, PySem.W.mg_none_of X G zisinstance, PySem.W.mg_none_of X G zrange, PySem.W.mg_none_of X G zint, PySem.W.mg_none_of X G zbool, PySem.W.mg_none_of X G ztuple, PySem.W.mg_none_of X G zlist, PySem.W.mg_none_of X G zall, PySem.W.mg_none_of X G zenumerate, PySem.W.mg_none_of X G zzip, PySem.W.mg_none_of X G zsum, PySem.W.mg_none_of X G zsorted, PySem.W.mg_none_of X G zmax, PySem.W.mg_none_of X G zmin, PySem.W.mg_none_of X G zset, PySem.W.mg_none_of X G zstr⟩
 have F0_ := bX (st := gf) l0 c0 k0
 have F1_ := bX (st := fY) l1 c1 k1
 have F2_ := bX (st := fZ) l2 c2 k2
 have F3_ := bX (st := fh) l3 c3 k3
 have F4_ := bX (st := dj) l4 c4 k4
 have F5_ := bX (st := fq) l5 c5 k5
 have F6_ := bX (st := eU) l6 c6 k6
 have F7_ := bX (st := i6) l7 c7 k7
 have F8_ := bX (st := bu) l8 c8 k8
 have F9_ := bX (st := cN) l9 c9 k9
 have F10_ := bX (st := i7) l10 c10 k10
 have F11_ := bX (st := dN) l11 c11 k11
 have F12_ := bX (st := i8) l12 c12 k12
 have F13_ := bX (st := ft) l13 c13 k13
 have F14_ := bX (st := kA) l14 c14 k14
 have F15_ := bX (st := dO) l15 c15 k15
 have F16_ := bX (st := dP) l16 c16 k16
 have F17_ := bX (st := gh) l17 c17 k17
 have F18_ := bX (st := cK) l18 c18 k18
 have F19_ := bX (st := dQ) l19 c19 k19
 have F20_ := bX (st := gx) l20 c20 k20
 have F21_ := bX (st := fu) l21 c21 k21
 have F22_ := bX (st := eV) l22 c22 k22
 have F23_ := bX (st := eW) l23 c23 k23
 have F24_ := bX (st := gB) l24 c24 k24
 have F25_ := bX (st := gD) l25 c25 k25
 have F26_ := bX (st := gi) l26 c26 k26
 have F27_ := bX (st := cO) l27 c27 k27
 have F28_ := bX (st := gE) l28 c28 k28
 have F29_ := bX (st := gF) l29 c29 k29
 have F30_ := bX (st := tI) l30 c30 k30
 have b0 := F0_.binds (ps := ["_law_cell_here", "_law_prime", "_law_many"]) λ _ _ _ _ _ _ => E5 λ _ _ _ => rfl
 have b1 := F1_.binds (ps := ["_law_script", "_law_k"]) λ _ _ _ _ _ _ => tQ λ _ _ => rfl
 have b2 := F2_.binds (ps := ["_law_script", "_law_at"]) λ _ _ _ _ _ _ => tQ λ _ _ => rfl
 have b3 := F3_.binds (ps := ["_law_game_here", "_law_cell_here"]) λ _ _ _ _ _ _ => tQ λ _ _ => rfl
 have b4 := F4_.binds (ps := ["_law_one", "_law_other"]) λ _ _ _ _ _ _ => tQ λ _ _ => rfl
 have b5 := F5_.binds (ps := ["_law_script", "_law_at", "_law_game_here"]) λ _ _ _ _ _ _ => E5 λ _ _ _ => rfl
 have b6 := F6_.binds (ps := ["_law_cell_here", "_law_many"]) λ _ _ _ _ _ _ => tQ λ _ _ => rfl
 have b7 := F7_.binds (ps := ["thing"]) λ _ _ _ _ _ _ => E4 λ _ => rfl
 have b8 := F8_.binds (ps := ["thing", "low", "high"]) λ _ _ _ _ _ _ => E5 λ _ _ _ => rfl
 have b9 := F9_.binds (ps := ["places", "colours"]) λ _ _ _ _ _ _ => tQ λ _ _ => rfl
 have b10 := F10_.binds (ps := ["thing"]) λ _ _ _ _ _ _ => E4 λ _ => rfl
 have b11 := F11_.binds (ps := ["game"]) λ _ _ _ _ _ _ => E4 λ _ => rfl
 have b12 := F12_.binds (ps := ["game", "thing"]) λ _ _ _ _ _ _ => tQ λ _ _ => rfl
 have b13 := F13_.binds (ps := ["game", "thing"]) λ _ _ _ _ _ _ => tQ λ _ _ => rfl
 have b14 := F14_.binds (ps := ["game", "thing"]) λ _ _ _ _ _ _ => tQ λ _ _ => rfl
 have b15 := F15_.binds (ps := ["game", "things", "is_one"]) λ _ _ _ _ _ _ => E5 λ _ _ _ => rfl
 have b16 := F16_.binds (ps := ["game", "asks"]) λ _ _ _ _ _ _ => tQ λ _ _ => rfl
 have b17 := F17_.binds (ps := ["thing", "size"]) λ _ _ _ _ _ _ => tQ λ _ _ => rfl
 have b18 := F18_.binds (ps := ["thing", "size"]) λ _ _ _ _ _ _ => tQ λ _ _ => rfl
 have b19 := F19_.binds (ps := ["code", "places", "colours"]) λ _ _ _ _ _ _ => E5 λ _ _ _ => rfl
 have b20 := F20_.binds (ps := ["game", "asks", "places", "colours"]) λ _ _ _ _ _ _ => G5 λ _ _ _ _ => rfl
 have b21 := F21_.binds (ps := ["_law_game_here", "_law_asks_here", "_law_places", "_law_colours"]) λ _ _ _ _ _ _ => G5 λ _ _ _ _ => rfl
 have b22 := F22_.binds (ps := ["_law_code_here", "_law_places", "_law_colours"]) λ _ _ _ _ _ _ => E5 λ _ _ _ => rfl
 have b23 := F23_.binds (ps := ["_law_game_here"]) λ _ _ _ _ _ _ => E4 λ _ => rfl
 have b24 := F24_.binds (ps := ["_law_game_here", "_law_asks_here"]) λ _ _ _ _ _ _ => tQ λ _ _ => rfl
 have b25 := F25_.binds (ps := ["hidden", "guess"]) λ _ _ _ _ _ _ => tQ λ _ _ => rfl
 have b26 := F26_.binds (ps := ["code", "ask"]) λ _ _ _ _ _ _ => tQ λ _ _ => rfl
 have b27 := F27_.binds (ps := ["codes", "asks"]) λ _ _ _ _ _ _ => tQ λ _ _ => rfl
 have b28 := F28_.binds (ps := ["game"]) λ _ _ _ _ _ _ => E4 λ _ => rfl
 have b29 := F29_.binds (ps := ["game", "asks"]) λ _ _ _ _ _ _ => tQ λ _ _ => rfl
 have b30 := F30_.binds (ps := ["_law_script"]) λ _ _ _ _ _ _ => E4 λ _ => rfl
 refine ⟨PySem.W.fnOf "law" "law" (aw tI) (ah tI) (aK tI) .none kV30 dc30 pm30 an30 cd30 ct30, λ s v => .of_eq rfl, λ base _ _ BM_ => ?_⟩
 have O0_ : Own l.prog w K mg base 1 "_law_mix" ["_law_cell_here", "_law_prime", "_law_many"] (bz K 3 aq) := ⟨⟨_, _, wX F0_ B, PySem.W.mg_of X G a0, k0, b0⟩⟩
 have O1_ : Own l.prog w K mg base 1 "_law_cell" ["_law_script", "_law_k"] (bz K 2 aX) := ⟨⟨_, _, ul F1_ B, PySem.W.mg_of X G a1, k1, b1⟩⟩
 have O2_ : Own l.prog w K mg base 2 "_law_game" ["_law_script", "_law_at"] (bz K 2 dG) := ⟨⟨_, _, um F2_ B O0_ O1_, PySem.W.mg_of X G a2, k2, b2⟩⟩
 have O3_ : Own l.prog w K mg base 2 "_law_code" ["_law_game_here", "_law_cell_here"] (bz K 2 cH) := ⟨⟨_, _, uo F3_ B O0_, PySem.W.mg_of X G a3, k3, b3⟩⟩
 have O4_ : Own l.prog w K mg base 1 "_law_answer" ["_law_one", "_law_other"] (bz K 2 bM) := ⟨⟨_, _, qm F4_ B, PySem.W.mg_of X G a4, k4, b4⟩⟩
 have O5_ : Own l.prog w K mg base 3 "_law_asks" ["_law_script", "_law_at", "_law_game_here"] (FY K 3 d6) := ⟨⟨_, _, uq F5_ B O3_ O1_ O0_ O4_, PySem.W.mg_of X G a5, k5, b5⟩⟩
 have O6_ : Own l.prog w K mg base 2 "_law_order" ["_law_cell_here", "_law_many"] (bz K 2 cV) := ⟨⟨_, _, tJ F6_ B O0_, PySem.W.mg_of X G a6, k6, b6⟩⟩
 have O7_ : Own l.prog w K mg base 1 "is_pair" ["thing"] (bz K 1 dM) := ⟨⟨_, _, ya F7_ B, PySem.W.mg_of X G a7, k7, b7⟩⟩
 have O8_ : Own l.prog w K mg base 1 "is_number_within" ["thing", "low", "high"] (bz K 3 aT) := ⟨⟨_, _, lG F8_ B, PySem.W.mg_of X G a8, k8, b8⟩⟩
 have O9_ : Own l.prog w K mg base 1 "how_many_codes" ["places", "colours"] (bz K 2 eI) := ⟨⟨_, _, nP F9_ B, PySem.W.mg_of X G a9, k9, b9⟩⟩
 have O10_ : Own l.prog w K mg base 2 "is_game" ["thing"] (bz K 1 mK) := ⟨⟨_, _, yb F10_ B O7_ O9_ O8_ (PySem.W.mg_of X G gMOST_PLACES) (PySem.W.mg_of X G gMOST_COLOURS) (PySem.W.mg_of X G gMOST_CODES), PySem.W.mg_of X G a10, k10, b10⟩⟩
 have O11_ : Own l.prog w K mg base 3 "checked_game" ["game"] (bz K 1 bH) := ⟨⟨_, _, qM F11_ B O10_, PySem.W.mg_of X G a11, k11, b11⟩⟩
 have O12_ : Own l.prog w K mg base 2 "is_code" ["game", "thing"] (bz K 2 gu) := ⟨⟨_, _, yc F12_ B O8_, PySem.W.mg_of X G a12, k12, b12⟩⟩
 have O13_ : Own l.prog w K mg base 2 "is_answer" ["game", "thing"] (bz K 2 eK) := ⟨⟨_, _, ur F13_ B O7_ O8_, PySem.W.mg_of X G a13, k13, b13⟩⟩
 have O14_ : Own l.prog w K mg base 3 "is_ask" ["game", "thing"] (bz K 2 g0) := ⟨⟨_, _, ut F14_ B O7_ O12_ O13_, PySem.W.mg_of X G a14, k14, b14⟩⟩
 have N14_ : OwnN l.prog w K mg base 3 "is_ask" ["game", "thing"] (bz K 2 g0) := ⟨⟨_, _, ut F14_ B O7_ O12_ O13_, a14, k14, b14⟩⟩
 have O15_ : Own l.prog w K mg base 4 "checked_list" ["game", "things", "is_one"] (bz K 3 cX) := ⟨⟨_, _, qN F15_ B N14_ (PySem.W.mg_of X G gMOST_ASKS), PySem.W.mg_of X G a15, k15, b15⟩⟩
 have O16_ : Own l.prog w K mg base 5 "checked_asks" ["game", "asks"] (bz K 2 bW) := ⟨⟨_, _, qO F16_ B O15_ (PySem.W.mg_of X G a14) a14, PySem.W.mg_of X G a16, k16, b16⟩⟩
 have O17_ : Own l.prog w K mg base 2 "is_order" ["thing", "size"] (bz K 2 bI) := ⟨⟨_, _, wY F17_ B O8_, PySem.W.mg_of X G a17, k17, b17⟩⟩
 have O18_ : Own l.prog w K mg base 3 "checked_order" ["thing", "size"] (bz K 2 bC) := ⟨⟨_, _, oJ F18_ B O17_, PySem.W.mg_of X G a18, k18, b18⟩⟩
 have O19_ : Own l.prog w K mg base 1 "renamed_code" ["code", "places", "colours"] (bz K 3 cF) := ⟨⟨_, _, qP F19_ B, PySem.W.mg_of X G a19, k19, b19⟩⟩
 have O20_ : Own l.prog w K mg base 6 "renamed" ["game", "asks", "places", "colours"] (bz K 4 fE) := ⟨⟨_, _, ye F20_ B O11_ O16_ O18_ O19_, PySem.W.mg_of X G a20, k20, b20⟩⟩
 have OX18_BadCode_ : OwnX l.prog w K mg base 3 "checked_order" ["thing", "size"] (Bf K 2 CBadCode bG) := ⟨⟨_, _, iK F18_ B O17_ (PySem.W.mg_of X G yBadCode) xBadCode, PySem.W.mg_of X G a18, k18, b18⟩⟩
 have OX20_BadCode_ : OwnX l.prog w K mg base 6 "renamed" ["game", "asks", "places", "colours"] (Bf K 4 CBadCode bo) := ⟨⟨_, _, lH F20_ B O11_ O16_ O18_ OX18_BadCode_, PySem.W.mg_of X G a20, k20, b20⟩⟩
 have O21_ : Own l.prog w K mg base 7 "_law_told" ["_law_game_here", "_law_asks_here", "_law_places", "_law_colours"] (bz K 4 bY) := ⟨⟨_, _, uv F21_ B O20_ OX20_BadCode_ (PySem.W.mg_of X G yGuessError) (PySem.W.mg_of X G yBadCode) (PySem.W.mg_none_of X G zValueError) eBadCodeGuessError vBadCodeBadCode uBadCode, PySem.W.mg_of X G a21, k21, b21⟩⟩
 have O22_ : Own l.prog w K mg base 1 "_law_named" ["_law_code_here", "_law_places", "_law_colours"] (bz K 3 bc) := ⟨⟨_, _, tK F22_ B, PySem.W.mg_of X G a22, k22, b22⟩⟩
 have O23_ : Own l.prog w K mg base 1 "_law_codes" ["_law_game_here"] (bz K 1 cG) := ⟨⟨_, _, tL F23_ B, PySem.W.mg_of X G a23, k23, b23⟩⟩
 have O24_ : Own l.prog w K mg base 2 "_law_left" ["_law_game_here", "_law_asks_here"] (bz K 2 cY) := ⟨⟨_, _, uw F24_ B O23_ O4_, PySem.W.mg_of X G a24, k24, b24⟩⟩
 have O25_ : Own l.prog w K mg base 1 "answer_of" ["hidden", "guess"] (bz K 2 eM) := ⟨⟨_, _, ux F25_ B, PySem.W.mg_of X G a25, k25, b25⟩⟩
 have O26_ : Own l.prog w K mg base 2 "fits_ask" ["code", "ask"] (bz K 2 dh) := ⟨⟨_, _, wZ F26_ B O25_, PySem.W.mg_of X G a26, k26, b26⟩⟩
 have O27_ : Own l.prog w K mg base 3 "those_that_fit" ["codes", "asks"] (bz K 2 bw) := ⟨⟨_, _, nQ F27_ B O26_, PySem.W.mg_of X G a27, k27, b27⟩⟩
 have O28_ : Own l.prog w K mg base 4 "all_codes" ["game"] (bz K 1 eN) := ⟨⟨_, _, uy F28_ B O11_, PySem.W.mg_of X G a28, k28, b28⟩⟩
 have O29_ : Own l.prog w K mg base 6 "what_fits" ["game", "asks"] (bz K 2 eO) := ⟨⟨_, _, uz F29_ B O11_ O16_ O27_ O28_, PySem.W.mg_of X G a29, k29, b29⟩⟩
 exact Fh F30_ B O2_ O5_ O6_ O21_ O1_ O29_ O22_ O24_
theorem walk {l : PySem.W.OpenLaw} {q : Program} {loose : List Str} {XP : (Str -> Option Value) -> Heap -> Prop} {YP : World -> Heap -> Prop} {d : DefRec} {K : Params -> Fg} (hn : l.most = some 63) (hdf : d.params.defaults = [])
 (hY : ∀ (w : World) (h : Heap), YP w h -> (K w.params).In h /\ Tabs (K w.params) h)
 (F : ∀ (w : World) (mg : Str -> Option Value) (fa : Addr) (h : Heap), (K w.params).In h -> h.Ns mainGlobals mg -> mg d.name = some (.ref fa) ->
  ∃ fd : FuncData, (∀ (s : Shared) (u : Value), BindsTo s fd ⟨[u], []⟩ [("_law_script", u)]) /\ ∀ base : Heap, (K w.params).In base -> base.Ns mainGlobals mg -> BMdB base mg -> FnOk l.prog w (K w.params) mg base iC 8 fa fd ["_law_script"] (bz (K w.params) 1 BI)) :
 PySem.W.WalkO q loose XP YP l.row.toRowW d [] (λ f vs => PySem.call f vs) :=
 DL.At (n := 63) (k := 8) (x := "_law_script") (CX := λ _ => iC) (sp := λ w => bz (K w.params) 1 BI) hn (by decide) hdf ⟨rfl, by decide, by decide⟩ hY F (λ _ _ a ns hl tb hS => AX (law_true ns hl) hS tb) λ _ _ _ _ _ z => z
end GX
open PySem PySem.W PyProof.Rows
noncomputable def PySem.W.Fast.tw9071510847697431498 : Nat := 0
noncomputable def PySem.W.Fast.tw12124246170881474829 : Nat := 0
noncomputable def PySem.W.Fast.tw11571080093672285873 : Nat := 0
noncomputable def PySem.W.Fast.tw11087994791541256640 : Nat := 0
noncomputable def PySem.W.Fast.tw1807696067371103352 : Nat := 0
noncomputable def PySem.W.Fast.tw15209083829875177562 : Nat := 0
noncomputable def PySem.W.Fast.tw11738660654669954751 : Nat := 0
noncomputable def PySem.W.Fast.tw16770928599532490345 : Nat := 0
noncomputable def PySem.W.Fast.tw13853400404990517795 : Nat := 0
noncomputable def PySem.W.Fast.tw1844346489502540355 : Nat := 0
noncomputable def PySem.W.Fast.tw2743019666920543049 : Nat := 0
set_option maxRecDepth 100000 in
set_option maxHeartbeats 0 in
theorem PySem.Challenge.cw_guesscode_k14_other_names_holds : PySem.Challenge.rw_guesscode_k14_other_names.Holds := by
 w_on; o_law; k_head; (case hw => w_witness2)
 k_fill
 refine GX.walk (l := PySem.Challenge.rw_guesscode_k14_other_names) rfl rfl (λ w h Y => by first | exact ⟨PySem.W.km_in_of Y, DL.xK (PySem.W.km_tabs_of Y) (by kernel_rfl) (by decide) (by kernel_rfl)⟩ | exact ⟨PySem.W.kIn_of Y, DL.xK (ts := []) (λ _ h => nomatch h) (by kernel_rfl) (by decide) (by kernel_rfl)⟩) ?F
 case F =>
  intro w mg fa h KX G hmg
  refine' GX.all_mk KX G hmg ?a0 ?l0 ?c0 ?k0 ?a1 ?l1 ?c1 ?k1 ?a2 ?l2 ?c2 ?k2 ?a3 ?l3 ?c3 ?k3 ?a4 ?l4 ?c4 ?k4 ?a5 ?l5 ?c5 ?k5 ?a6 ?l6 ?c6 ?k6 ?a7 ?l7 ?c7 ?k7 ?a8 ?l8 ?c8 ?k8 ?a9 ?l9 ?c9 ?k9 ?a10 ?l10 ?c10 ?k10 ?a11 ?l11 ?c11 ?k11 ?a12 ?l12 ?c12 ?k12 ?a13 ?l13 ?c13 ?k13 ?a14 ?l14 ?c14 ?k14 ?a15 ?l15 ?c15 ?k15 ?a16 ?l16 ?c16 ?k16 ?a17 ?l17 ?c17 ?k17 ?a18 ?l18 ?c18 ?k18 ?a19 ?l19 ?c19 ?k19 ?a20 ?l20 ?c20 ?k20 ?a21 ?l21 ?c21 ?k21 ?a22 ?l22 ?c22 ?k22 ?a23 ?l23 ?c23 ?k23 ?a24 ?l24 ?c24 ?k24 ?a25 ?l25 ?c25 ?k25 ?a26 ?l26 ?c26 ?k26 ?a27 ?l27 ?c27 ?k27 ?a28 ?l28 ?c28 ?k28 ?a29 ?l29 ?c29 ?k29 ?a30 ?l30 ?c30 ?k30 ?gMOST_PLACES ?gMOST_COLOURS ?gMOST_CODES ?gMOST_ASKS ?yBadCode ?yGuessError ?xBadCode ?eBadCodeGuessError ?vBadCodeBadCode ?uBadCode ?zValueError ?zlen ?zisinstance ?zrange ?zint ?zbool ?ztuple ?zlist ?zall ?zenumerate ?zzip ?zsum ?zsorted ?zmax ?zmin ?zset ?zstr
  (case a0 => k_is); (case l0 => k_is); (case c0 => k_is); (case k0 => k_is)
  (case a1 => k_is); (case l1 => k_is); (case c1 => k_is); (case k1 => k_is)
  (case a2 => k_is); (case l2 => k_is); (case c2 => k_is); (case k2 => k_is)
  (case a3 => k_is); (case l3 => k_is); (case c3 => k_is); (case k3 => k_is)
  (case a4 => k_is); (case l4 => k_is); (case c4 => k_is); (case k4 => k_is)
  (case a5 => k_is); (case l5 => k_is); (case c5 => k_is); (case k5 => k_is)
  (case a6 => k_is); (case l6 => k_is); (case c6 => k_is); (case k6 => k_is)
  (case a7 => k_is); (case l7 => k_is); (case c7 => k_is); (case k7 => k_is)
  (case a8 => k_is); (case l8 => k_is); (case c8 => k_is); (case k8 => k_is)
  (case a9 => k_is); (case l9 => k_is); (case c9 => k_is); (case k9 => k_is)
  (case a10 => k_is); (case l10 => k_is); (case c10 => k_is); (case k10 => k_is)
  (case a11 => k_is); (case l11 => k_is); (case c11 => k_is); (case k11 => k_is)
  (case a12 => k_is); (case l12 => k_is); (case c12 => k_is); (case k12 => k_is)
  (case a13 => k_is); (case l13 => k_is); (case c13 => k_is); (case k13 => k_is)
  (case a14 => k_is); (case l14 => k_is); (case c14 => k_is); (case k14 => k_is)
  (case a15 => k_is); (case l15 => k_is); (case c15 => k_is); (case k15 => k_is)
  (case a16 => k_is); (case l16 => k_is); (case c16 => k_is); (case k16 => k_is)
  (case a17 => k_is); (case l17 => k_is); (case c17 => k_is); (case k17 => k_is)
  (case a18 => k_is); (case l18 => k_is); (case c18 => k_is); (case k18 => k_is)
  (case a19 => k_is); (case l19 => k_is); (case c19 => k_is); (case k19 => k_is)
  (case a20 => k_is); (case l20 => k_is); (case c20 => k_is); (case k20 => k_is)
  (case a21 => k_is); (case l21 => k_is); (case c21 => k_is); (case k21 => k_is)
  (case a22 => k_is); (case l22 => k_is); (case c22 => k_is); (case k22 => k_is)
  (case a23 => k_is); (case l23 => k_is); (case c23 => k_is); (case k23 => k_is)
  (case a24 => k_is); (case l24 => k_is); (case c24 => k_is); (case k24 => k_is)
  (case a25 => k_is); (case l25 => k_is); (case c25 => k_is); (case k25 => k_is)
  (case a26 => k_is); (case l26 => k_is); (case c26 => k_is); (case k26 => k_is)
  (case a27 => k_is); (case l27 => k_is); (case c27 => k_is); (case k27 => k_is)
  (case a28 => k_is); (case l28 => k_is); (case c28 => k_is); (case k28 => k_is)
  (case a29 => k_is); (case l29 => k_is); (case c29 => k_is); (case k29 => k_is)
  (case a30 => k_is); (case l30 => k_is); (case c30 => k_is); (case k30 => k_is)
  (case gMOST_PLACES => k_is)
  (case gMOST_COLOURS => k_is)
  (case gMOST_CODES => k_is)
  (case gMOST_ASKS => k_is)
  (case yBadCode => k_is)
  (case yGuessError => k_is)
  (case xBadCode => k_exc)
  (case eBadCodeGuessError => kts_exm)
  (case vBadCodeBadCode => kit_is)
  (case uBadCode => kit_is)
  (case zValueError => k_is)
  (case zlen => k_is)
  (case zisinstance => k_is)
  (case zrange => k_is)
  (case zint => k_is)
  (case zbool => k_is)
  (case ztuple => k_is)
  (case zlist => k_is)
  (case zall => k_is)
  (case zenumerate => k_is)
  (case zzip => k_is)
  (case zsum => k_is)
  (case zsorted => k_is)
  (case zmax => k_is)
  (case zmin => k_is)
  (case zset => k_is)
  (case zstr => k_is)
