import PyProof.Rows.All
import Wide.All
import OpenK.AllK
import Wide.FinOn
import Lean
import PyProof.EqAt
import PyProof.EqKinds
import PyProof.TupleCall
import PySem.Challenge.RW_guesscode_k13_settling_at_once
set_option Elab.async false
set_option linter.all false
set_option maxRecDepth 100000
set_option maxHeartbeats 4000000
abbrev wB := @PySem.wpAny_bind
abbrev wP := @PySem.wpAny_pure
abbrev gEq := @List.getElem?_eq_getElem
abbrev gDq := @List.getD_eq_getElem?_getD
abbrev hPo := @PySem.Heap.get?_push_of_some
abbrev hPs := @PySem.Heap.get?_push_size
abbrev hLs := @PySem.Heap.lt_size
abbrev lMc := @List.mem_cons_of_mem
abbrev lMs := @List.mem_cons_self
abbrev nLl := @Nat.lt_of_lt_of_le
abbrev hUo := @PySem.Heap.get?_update_other
abbrev hUs := @PySem.Heap.get?_update_self
abbrev nLe := @Nat.le_of_lt
abbrev nNl := @Nat.ne_of_lt
abbrev nNg := @Nat.ne_of_gt
abbrev zA := @List.getElem?_cons_zero
abbrev zB := @List.getElem?_cons_succ
abbrev zC := @List.length_cons
abbrev zD := @Option.bind_some
abbrev zE := @List.set_cons_zero
abbrev zF := @List.set_cons_succ
abbrev zG := @Option.map_some
abbrev zH := @List.length_nil
abbrev zI := @List.map_cons
abbrev zJ := @List.length_map
abbrev zK := @List.getElem?_map
abbrev zL := @List.map_nil
abbrev zM := @List.size_toArray
abbrev zN := @Bool.false_eq_true
abbrev Fg := @PySem.W.Frag
abbrev zO := @List.map_map
abbrev zP := @List.mem_map_of_mem
abbrev zQ := @List.length_append
abbrev zR := @List.mem_of_find?_eq_some
abbrev zT := @Nat.lt_irrefl
abbrev zU := @Nat.zero_le
abbrev zV := @Option.some.inj
abbrev Q0 := @Option.map_eq_some_iff
abbrev Q1 := @Nat.le_refl
abbrev Q2 := @Bool.and_eq_true
abbrev Q3 := @List.cons_append
abbrev Q4 := @List.nil_append
abbrev Q5 := @List.getElem?_append_left
abbrev Q6 := @List.getElem?_append_right
abbrev Q7 := @List.append_nil
abbrev Q8 := @List.getElem?_replicate
abbrev Q9 := @Nat.le_trans
abbrev Qa := @List.getElem?_eq_some_iff
abbrev Qb := @List.mem_cons
abbrev Qc := @List.lookup_cons
abbrev Qd := @List.all_eq_true
abbrev Qe := @Bool.false_ne_true
abbrev Qf := @List.getElem_mem
abbrev Q10 := @List.length_set
abbrev Q11 := @List.mem_map
abbrev Q12 := @Bool.not_true
abbrev Q13 := @List.map_append
abbrev Q14 := @List.mem_append_right
abbrev Q15 := @Array.length_toList
abbrev Q16 := @Array.getElem?_toList
abbrev Q17 := @PySem.Heap.size_push
abbrev Q18 := @List.length_replicate
abbrev Q19 := @List.take_length
abbrev Q1a := @List.length_take
abbrev Q1b := @List.find?_cons_of_neg
abbrev Q1c := @Nat.lt_succ_of_lt
abbrev Q1d := @List.mem_singleton
abbrev Q1e := @List.getElem?_set_ne
abbrev Q1f := @List.getElem?_set_self
abbrev Q20 := @Int.toNat_natCast
abbrev Q21 := @Array.getElem?_eq_some_iff
abbrev Q22 := @Array.getElem?_eq_getElem
abbrev Q23 := @Nat.lt_succ_self
abbrev Q24 := @Nat.le_add_right
abbrev Q25 := @List.mem_append
abbrev Q26 := @List.find?_cons_of_pos
abbrev Q27 := @List.drop_eq_getElem_cons
abbrev Q28 := @List.take_succ_eq_append_getElem
namespace L2
open PySem PySem.Spec PyProof.Rows
noncomputable abbrev Key := Sum Int Str
noncomputable def keyIs : Key -> Value -> Bool
 | .inl k, v => Value.isInt k v
 | .inr x, v => Value.isStrOf x v
noncomputable def keyH (w : World) : Key -> Int
 | .inl k => hashInt k
 | .inr x => hashStr w x
theorem keyIs_shape : ∀ {k : Key} {v : Value}, keyIs k v = true -> (∃ i t, k = Sum.inl i /\ v = Value.int i t) \/ (∃ x t, k = Sum.inr x /\ v = Value.str x t)
 | .inl i, v, h => by
  obtain ⟨t, e⟩ := Value.isInt_shape (k := i) (v := v) h
  exact .inl ⟨i, t, rfl, e⟩
 | .inr x, v, h => by
  obtain ⟨t, e⟩ := Value.isStrOf_shape (x := x) (v := v) h
  exact .inr ⟨x, t, rfl, e⟩
theorem keyIs_int (i : Int) (t : Tok) : keyIs (.inl i) (.int i t) = true := by simp [keyIs, Value.isInt]
theorem keyIs_str (x : Str) (t : Tok) : keyIs (.inr x) (.str x t) = true := by simp [keyIs, Value.isStrOf]
theorem key_ll (a b : Int) : decide ((Sum.inl a : Key) = Sum.inl b) = (a == b) := by
 by_cases e : a = b
 · subst e; simp
 · have h : ¬ (Sum.inl a : Key) = Sum.inl b := λ q => e (Sum.inl.inj q)
   rw [decide_eq_false h]
   exact (beq_eq_false_iff_ne.mpr e).symm
theorem key_rr (a b : Str) : decide ((Sum.inr a : Key) = Sum.inr b) = decide (a = b) := by
 by_cases e : a = b
 · subst e; simp
 · have h : ¬ (Sum.inr a : Key) = Sum.inr b := λ q => e (Sum.inr.inj q)
   rw [decide_eq_false h, decide_eq_false e]
theorem key_lr (a : Int) (b : Str) : decide ((Sum.inl a : Key) = Sum.inr b) = false := decide_eq_false (λ q => nomatch q)
theorem key_rl (a : Str) (b : Int) : decide ((Sum.inr a : Key) = Sum.inl b) = false := decide_eq_false (λ q => nomatch q)
noncomputable def mixKind (prog : Program) (w : World) : PySem.KeyKind prog w Key where
 is := keyIs
 hash := keyH w
 inj := λ v a b ha hb => by
  rcases keyIs_shape ha with ⟨i, t, rfl, rfl⟩ | ⟨x, t, rfl, rfl⟩
  · rcases keyIs_shape hb with ⟨j, u, rfl, e⟩ | ⟨y, u, rfl, e⟩
    · injection e with e1 _; rw [e1]
    · exact nomatch e
  · rcases keyIs_shape hb with ⟨j, u, rfl, e⟩ | ⟨y, u, rfl, e⟩
    · exact nomatch e
    · injection e with e1 _; rw [e1]
 byValue := λ k v h => by
  rcases keyIs_shape h with ⟨i, t, rfl, rfl⟩ | ⟨x, t, rfl, rfl⟩ <;> rfl
 pyHash := λ hv h => by
  rcases keyIs_shape hv with ⟨i, t, rfl, rfl⟩ | ⟨x, t, rfl, rfl⟩
  · exact wpAny_pyHash_int h
  · exact wpAny_pyHash_str h
 eqBool := λ hu hv h => by
  rcases keyIs_shape hu with ⟨i, t, rfl, rfl⟩ | ⟨x, t, rfl, rfl⟩
  · rcases keyIs_shape hv with ⟨j, u, rfl, rfl⟩ | ⟨y, u, rfl, rfl⟩
    · rw [key_ll] at h; exact wpAny_eqBool_int h
    · rw [key_lr] at h; exact SeqAt.EqAt.int_str i t y u _ _ _ _ h
  · rcases keyIs_shape hv with ⟨j, u, rfl, rfl⟩ | ⟨y, u, rfl, rfl⟩
    · rw [key_rl] at h; exact SeqAt.EqAt.str_int x t j u _ _ _ _ h
    · rw [key_rr] at h; exact wpAny_eqBool_str h
 «strs» := λ k x t v h => by
  rcases keyIs_shape h with ⟨i, u, rfl, e⟩ | ⟨y, u, rfl, e⟩
  · exact nomatch e
  · injection e with e1 _
    subst e1
    cases v <;> rfl
theorem mixKind_int (prog : Program) (w : World) (i : Int) (t : Tok) : (mixKind prog w).is (.inl i) (.int i t) = true := keyIs_int i t
theorem mixKind_str (prog : Program) (w : World) (x : Str) (t : Tok) : (mixKind prog w).is (.inr x) (.str x t) = true := keyIs_str x t
inductive V where
 | non | bl (b : Bool) | int (i : Int) | str (x : Str) | byt (b : Array UInt8) | flt (b : UInt64) | ref (a : Addr) | ty (n : String)
 deriving DecidableEq
noncomputable def RelV : V -> Value -> Prop
 | .non, u => u = Value.none
 | .bl b, u => u = Value.bool b
 | .int i, u => ∃ t, u = Value.int i t
 | .str x, u => ∃ t, u = Value.str x t
 | .byt b, u => ∃ t, u = Value.bytes b t
 | .flt b, u => ∃ t, u = Value.float b t
 | .ref a, u => u = Value.ref a
 | .ty n, u => u = Value.type n
abbrev Vals : List V -> List Value -> Prop := Paired RelV
theorem Vals.length {xs : List V} {us : List Value} (r : Vals xs us) : xs.length = us.length := Paired.length r
theorem Vals.get : ∀ {xs : List V} {us : List Value} {i : Nat} {x : V}, Vals xs us -> xs[i]? = some x -> ∃ u, us[i]? = some u /\ RelV x u
 | _, _, _, _, .nil, e => by simp at e
 | _, _, 0, _, .cons r _, e => by simp at e; subst e; exact ⟨_, rfl, r⟩
 | _, _, i + 1, x, .cons _ t, e => by
  obtain ⟨u, h1, h2⟩ := Vals.get (i := i) (x := x) t (by simpa using e)
  exact ⟨u, by simpa using h1, h2⟩
theorem Vals.append {xs ys : List V} {us ws : List Value} (h : Vals xs us) (s : Vals ys ws) : Vals (xs ++ ys) (us ++ ws) := by
 induction h with
 | nil => exact s
 | cons r t ih => exact .cons r ih
theorem Vals.take : ∀ {xs : List V} {us : List Value} (n : Nat), Vals xs us -> Vals (xs.take n) (us.take n)
 | _, _, 0, _ => .nil
 | _, _, _ + 1, .nil => .nil
 | _, _, n + 1, .cons r t => .cons r (Vals.take n t)
theorem Vals.drop : ∀ {xs : List V} {us : List Value} (n : Nat), Vals xs us -> Vals (xs.drop n) (us.drop n)
 | _, _, 0, r => r
 | _, _, _ + 1, .nil => .nil
 | _, _, n + 1, .cons _ t => Vals.drop n t
noncomputable def RelO : Option V -> Option Value -> Prop
 | some v, some u => RelV v u
 | none, none => True
 | _, _ => False
def KV {κ : Type} : List (κ × V) -> List (κ × Value) -> Prop := Paired λ (p : κ × V) (q : κ × Value) => p.1 = q.1 /\ RelV p.2 q.2
noncomputable def kV : Key -> V
 | .inl i => .int i
 | .inr x => .str x
inductive HO where
 | lst (xs : List V)
 | tup (xs : List V)
 | dK (kvs : List (Key × V)) | dT (kvs : List (List Key × V))
 | set (S : Int -> Bool) (n : Nat)
 | ins (C dx : Addr) (fs : List (Str × V))
 | own (x : Addr)
 | xd (fs : List (Str × V))
 | met (f x : Addr)
 | rng (lo hi : Int)
 | frz (o : Obj) (u : HO)
 | tbl (ps : Array Value)
 | ext (φ : Heap -> Prop)
noncomputable abbrev Hp := Addr -> Option HO
def upd (H : Hp) (a : Addr) (o : HO) : Hp := λ b => if b = a then some o else H b
theorem upd_same {H : Hp} {a : Addr} {o : HO} : upd H a o a = some o := by unfold upd; rw [if_pos rfl]
theorem upd_ne {H : Hp} {a b : Addr} {o : HO} (h : b ≠ a) : upd H a o b = H b := by unfold upd; rw [if_neg h]
theorem ne_of_none {H : Hp} {a b : Addr} {o : HO} (h : H a = some o) (h' : H b = none) : a ≠ b := by
 intro e; subst e; rw [h] at h'; cases h'
section
variable (P : Program) (w : World)
noncomputable def ObjOk (H : Hp) (h : Heap) (a : Addr) : HO -> Prop
 | .lst xs => xs.length <= sizeLine /\ ∃ (its : List Value) (n : Nat), Vals xs its /\ h.get? a = some { cls := .type "list", data := .seq its.toArray n }
 | .tup xs => xs.length <= sizeLine /\ ∃ its : List Value, Vals xs its /\ IsTup h a its.toArray /\ ∃ ob, h.get? a = some ob /\ ob.dict = none
 | .dK kvs => kvs.length <= sizeLine /\ (a == sysModules) = false /\ ∃ vs, KV kvs vs /\ h.DictOf (mixKind P w) a vs
 | .dT kvs => kvs.length <= sizeLine /\ (a == sysModules) = false /\ ∃ xs : List (List Key × Addr × Value),
  Paired (λ (p : List Key × V) (q : List Key × Addr × Value) => p.1 = q.1 /\ H q.2.1 = some (.tup (p.1.map kV)) /\ RelV p.2 q.2.2) kvs xs /\
  ∃ o es ep, h.get? a = some o /\ o.ExactDict /\ o.data = .dict es ep /\ es.toList = xs.map (entryOfKey (tupleKind (mixKind P w))) /\ (xs.map (·.1)).Nodup /\ ep = xs.length
 | .set S n => h.SetOf (intKind P w) a S n
 | .ins C dx fs => H dx = some (.own a) /\ fs.length <= 1000 /\ dx ≠ a /\ h.get? a = some (PySem.W.instObj C dx) /\
  ∃ mA, h.Ns1 dx mA /\ (∀ f, RelO (fs.lookup f) (mA f)) /\ PySem.Within mA (fs.map (·.1))
 | .own _ => ∃ o, h.get? a = some o
 | .xd fs => ∃ mA, h.Ns1 a mA /\ ∀ f, RelO (fs.lookup f) (mA f)
 | .rng lo hi => ∃ t u v, h.get? a = some { cls := .type "range", data := .fields #[.int lo t, .int hi u, .int 1 v] }
 | .frz o u => h.get? a = some o /\ ObjOk H h a u
 | .tbl ps => h.get? a = some { cls := .none, data := .fields #[] } \/ ∃ (c' : Addr) (o : Obj) (u : HO) (l c : Value) (q : Str) (t t2 : Tok) (vs : Array Value), ps = #[l, c, .str q t] /\ h.get? a = some { cls := .none, data := .fields #[l, c, .ref c'] } /\ H c' = some (.frz o u) /\ o.data = .fields vs /\ vs[1]? = some (.str q t2)
 | .met f x => h.get? a = some (PySem.W.methodObj (.ref f) (.ref x))
 | .ext φ => φ h /\ (∃ o, h.get? a = some o) /\ ∀ h1 h2 : Heap, φ h1 -> (∀ o, h1.get? a = some o -> h2.get? a = some o) -> φ h2
def HOk (H : Hp) (h : Heap) : Prop := ∀ a o, H a = some o -> ObjOk P w H h a o
end
section
variable {P : Program} {w : World} {H H' : Hp} {h h' : Heap} {a : Addr} {o : HO}
theorem ObjOk.lt (x : ObjOk P w H h a o) : a < h.objs.size := by
 cases o with
 | lst xs => obtain ⟨_, _, _, _, e⟩ := x; exact hLs e
 | tup xs => obtain ⟨_, _, _, p, _⟩ := x; exact p.lt
 | dK kvs => obtain ⟨_, _, _, _, o, _, _, e, _⟩ := x; exact hLs e
 | dT kvs => obtain ⟨_, _, _, _, o, _, _, e, _⟩ := x; exact hLs e
 | set S n => obtain ⟨o, _, _, _, e, _⟩ := x; exact hLs e
 | ins C dx fs => obtain ⟨_, _, _, e, _⟩ := x; exact hLs e
 | own y => obtain ⟨_, e⟩ := x; exact hLs e
 | xd fs => obtain ⟨_, ⟨_, _, _, e, _⟩, _⟩ := x; exact hLs e
 | rng lo hi => obtain ⟨_, _, _, e⟩ := x; exact hLs e
 | frz ob u => obtain ⟨e, _⟩ := x; exact hLs e
 | tbl ps =>
  rcases x with e | ⟨c', o, u, l, c, q, t, t2, vs, _, e, _⟩
  · exact hLs e
  · exact hLs e
 | met f y => exact hLs (show h.get? a = some _ from x)
 | ext φ => obtain ⟨_, ⟨_, e⟩, _⟩ := x; exact hLs e
theorem Paired.mapP {α β : Type} {F G : α -> β -> Prop} {l₁ : List α} {l₂ : List β} (h : Paired F l₁ l₂) (f : ∀ a b, F a b -> G a b) : Paired G l₁ l₂ := by
 induction h with
 | nil => exact .nil
 | cons r t ih => exact .cons (f _ _ r) ih
theorem ObjOk.stay (x : ObjOk P w H h a o) (k : ∀ b u, (b = a \/ H b = some (.own a)) -> h.get? b = some u -> h'.get? b = some u)
 (ho : ∀ b, H b = some (.own a) -> H' b = some (.own a)) (ht : ∀ b xs, H b = some (.tup xs) -> H' b = some (.tup xs)) (hf : ∀ b o u, H b = some (.frz o u) -> H' b = some (.frz o u)) : ObjOk P w H' h' a o := by
 induction o with
 | lst xs => obtain ⟨z, its, n, r, e⟩ := x; exact ⟨z, its, n, r, k _ _ (.inl rfl) e⟩
 | tup xs => obtain ⟨z, its, r, ⟨ob, e, c⟩, o2, e2, c2⟩ := x; exact ⟨z, its, r, ⟨ob, k _ _ (.inl rfl) e, c⟩, o2, k _ _ (.inl rfl) e2, c2⟩
 | dK kvs => obtain ⟨z, y, vs, r, ob, es, ep, e, c⟩ := x; exact ⟨z, y, vs, r, ob, es, ep, k _ _ (.inl rfl) e, c⟩
 | dT kvs =>
  obtain ⟨z, y, xs, r, ob, es, ep, e, c⟩ := x
  exact ⟨z, y, xs, Paired.mapP r λ p q z => ⟨z.1, ht _ _ z.2.1, z.2.2⟩, ob, es, ep, k _ _ (.inl rfl) e, c⟩
 | set S n => obtain ⟨ob, es, ep, t, e, c⟩ := x; exact ⟨ob, es, ep, t, k _ _ (.inl rfl) e, c⟩
 | ins C dx fs =>
  obtain ⟨d, z, ne, e, mA, ⟨od, es, ep, e2, c⟩, r⟩ := x
  exact ⟨ho _ d, z, ne, k _ _ (.inl rfl) e, mA, ⟨od, es, ep, k _ _ (.inr d) e2, c⟩, r⟩
 | own y => obtain ⟨ob, e⟩ := x; exact ⟨ob, k _ _ (.inl rfl) e⟩
 | xd fs => obtain ⟨mA, ⟨od, es, ep, e, c⟩, r⟩ := x; exact ⟨mA, ⟨od, es, ep, k _ _ (.inl rfl) e, c⟩, r⟩
 | rng lo hi => obtain ⟨t, u, v, e⟩ := x; exact ⟨t, u, v, k _ _ (.inl rfl) e⟩
 | frz ob u ih => obtain ⟨e, q⟩ := x; exact ⟨k _ _ (.inl rfl) e, ih q⟩
 | tbl ps =>
  rcases x with e | ⟨c', o, u, l, c, q, t, t2, vs, e1, e2, e3, r⟩
  · exact Or.inl (k _ _ (.inl rfl) e)
  · exact Or.inr ⟨c', o, u, l, c, q, t, t2, vs, e1, k _ _ (.inl rfl) e2, hf _ _ _ e3, r⟩
 | met f y =>
  have e : h.get? a = some (PySem.W.methodObj (.ref f) (.ref y)) := x
  show h'.get? a = some (PySem.W.methodObj (.ref f) (.ref y))
  exact k a _ (.inl rfl) e
 | ext φ => obtain ⟨p, ⟨o, e⟩, st⟩ := x; exact ⟨st _ _ p λ o q => k _ _ (.inl rfl) q, ⟨o, k _ _ (.inl rfl) e⟩, st⟩
theorem HOk.lt (x : HOk P w H h) (e : H a = some o) : a < h.objs.size := (x a o e).lt
theorem HOk.fresh (x : HOk P w H h) (e : h.objs.size <= a) : H a = none := by
 cases q : H a with
 | none => rfl
 | some u => exact absurd (nLl (x.lt q) e) (zT _)
theorem HOk.kept (x : HOk P w H h) (k : ∀ b u, h.get? b = some u -> h'.get? b = some u) : HOk P w H h' := λ a o e =>
 (x a o e).stay (λ b u _ q => k b u q) (λ _ q => q) (λ _ _ q => q) λ _ _ _ q => q
theorem HOk.laid (x : HOk P w H h) (k : ∀ b u, h.get? b = some u -> h'.get? b = some u) (hp : h.objs.size <= a) (new : ObjOk P w (upd H a o) h' a o) : HOk P w (upd H a o) h' := λ b u e => by
 have hn := x.fresh hp
 by_cases hb : b = a
 · subst hb; rw [upd_same] at e; cases e; exact new
 · rw [upd_ne hb] at e
   exact (x b u e).stay (λ c v _ q => k c v q) (λ c q => by rw [upd_ne (ne_of_none q hn)]; exact q) (λ c xs q => by rw [upd_ne (ne_of_none q hn)]; exact q) λ c ob xs q => by rw [upd_ne (ne_of_none q hn)]; exact q
end
def Rd (H : Hp) (a : Addr) (u : HO) : Prop := H a = some u \/ ∃ o, H a = some (.frz o u)
theorem Rd.ok {P : Program} {w : World} {H : Hp} {h : Heap} {a : Addr} {u : HO} (r : Rd H a u) (x : HOk P w H h) : ObjOk P w H h a u := by
 rcases r with r | ⟨o, r⟩
 · exact x a u r
 · obtain ⟨_, q⟩ := x a _ r
   exact q
noncomputable def Mut : Option HO -> Prop
 | some (.lst _) => True
 | some (.dK _) => True
 | some (.dT _) => True
 | some (.set _ _) => True
 | some (.ins _ _ _) => True
 | some (.ext _) => True
 | _ => False
section
variable {P : Program} {w : World} {H : Hp} {h h' : Heap} {x e : Addr} {o' : HO}
theorem HOk.write (ok : HOk P w H h) (mu : Mut (H x)) (he : e = x \/ H e = some (.own x)) (k : ∀ b u, b ≠ e -> h.get? b = some u -> h'.get? b = some u) (heo : ∃ u, h'.get? e = some u)
 (new : ObjOk P w (upd H x o') h' x o') : HOk P w (upd H x o') h' := λ b u q => by
 have nown : ∀ c y, H c = some (.own y) -> c ≠ x := λ c y r z => by subst z; rw [r] at mu; exact mu
 have ntup : ∀ c xs, H c = some (.tup xs) -> c ≠ x := λ c xs r z => by subst z; rw [r] at mu; exact mu
 have nfrz : ∀ c ob xs, H c = some (.frz ob xs) -> c ≠ x := λ c ob xs r z => by subst z; rw [r] at mu; exact mu
 by_cases hb : b = x
 · subst hb; rw [upd_same] at q; cases q; exact new
 · rw [upd_ne hb] at q
   by_cases hbe : b = e
   · have q' : H b = some (.own x) := by
      rcases he with z | z
      · exact absurd (hbe.trans z) hb
      · rw [hbe]; exact z
     rw [q] at q'; cases q'
     obtain ⟨v, hv⟩ := heo
     exact ⟨v, by rw [hbe]; exact hv⟩
   · refine (ok b u q).stay (λ c v hc r => k c v ?_ r) (λ c r => by rw [upd_ne (nown c b r)]; exact r) (λ c xs r => by rw [upd_ne (ntup c xs r)]; exact r) λ c ob xs r => by rw [upd_ne (nfrz c ob xs r)]; exact r
     rcases hc with rfl | hc
     · exact hbe
     · rintro rfl
       rcases he with z | z
       · exact nown c b hc z
       · rw [hc] at z; cases z; exact hb rfl
end
structure Un (fs ex : List Addr) (H H' : Hp) (h h' : Heap) : Prop where
 keep : ∀ b o, h.get? b = some o -> H b = none -> b ∉ fs -> b ∉ ex -> h'.get? b = some o
 slot : ∀ b o, h.get? b = some o -> H b = none -> b ∈ fs -> b ∉ ex -> ∃ sl, h'.get? b = some { o with slots := sl }
 free : ∀ b o, h.get? b = some o -> H b = none -> b ∉ ex -> H' b = none
 there : ∀ b o, h.get? b = some o -> b ∉ ex -> ∃ o', h'.get? b = some o'
 tups : ∀ b xs, H b = some (.tup xs) -> H' b = some (.tup xs)
 frzs : ∀ b o u, H b = some (.frz o u) -> H' b = some (.frz o u)
 tbls : ∀ b ps, H b = some (.tbl ps) -> ∃ more, H' b = some (.tbl (ps ++ more))
section
variable {fs fs' ex ex' : List Addr} {H H1 H2 : Hp} {h h1 h2 h' : Heap} {a x e : Addr} {o : HO}
theorem Un.any (u : Un fs ex H H1 h h1) {b : Addr} {ob : Obj} (q : h.get? b = some ob) (n : H b = none) (hx : b ∉ ex) : ∃ sl, h1.get? b = some { ob with slots := sl } := by
 by_cases hb : b ∈ fs
 · exact u.slot b ob q n hb hx
 · exact ⟨ob.slots, u.keep b ob q n hb hx⟩
theorem Un.kept (k : ∀ b u, h.get? b = some u -> h'.get? b = some u) : Un fs ex H H h h' :=
 ⟨λ b ob q _ _ _ => k b ob q, λ b ob q _ _ _ => ⟨ob.slots, k b ob q⟩, λ _ _ _ n _ => n, λ b ob q _ => ⟨ob, k b ob q⟩, λ _ _ q => q, λ _ _ _ q => q, λ _ ps q => ⟨#[], by rw [q]; simp⟩⟩
theorem Un.refl : Un fs ex H H h h := Un.kept λ _ _ q => q
theorem Un.laid (k : ∀ b u, h.get? b = some u -> h'.get? b = some u) (hp : h.objs.size <= a) (hn : H a = none) : Un fs ex H (upd H a o) h h' where
 keep := λ b u q _ _ _ => k b u q
 slot := λ b u q _ _ _ => ⟨u.slots, k b u q⟩
 free := λ b u q n _ => by rw [upd_ne (nNl (nLl (hLs q) hp))]; exact n
 there := λ b u q _ => ⟨u, k b u q⟩
 tups := λ b xs q => by rw [upd_ne (ne_of_none q hn)]; exact q
 frzs := λ b u xs q => by rw [upd_ne (ne_of_none q hn)]; exact q
 tbls := λ b ps q => ⟨#[], by rw [upd_ne (ne_of_none q hn), q]; simp⟩
theorem Un.write (mu : Mut (H x)) (he : e = x \/ H e = some (.own x)) (k : ∀ b u, b ≠ e -> h.get? b = some u -> h'.get? b = some u) (heo : ∃ u, h'.get? e = some u) : Un fs ex H (upd H x o) h h' := by
 have hx : ∀ b, H b = none -> b ≠ x := λ b n z => by subst z; rw [n] at mu; exact mu
 have hb : ∀ b, H b = none -> b ≠ e := λ b n z => by
  subst z
  rcases he with r | r
  · exact hx b n r
  · rw [n] at r; cases r
 have hm : ∀ b u, H b = some u -> ¬ Mut (some u) -> b ≠ x := λ b u q nm z => by subst z; rw [q] at mu; exact nm mu
 refine ⟨λ b u q n _ _ => k b u (hb b n) q, λ b u q n _ _ => ⟨u.slots, k b u (hb b n) q⟩, λ b u q n _ => by rw [upd_ne (hx b n)]; exact n, λ b u q _ => ?_,
  λ b xs q => by rw [upd_ne (hm b _ q λ z => z)]; exact q, λ b u xs q => by rw [upd_ne (hm b _ q λ z => z)]; exact q, λ b ps q => ⟨#[], by rw [upd_ne (hm b _ q λ z => z), q]; simp⟩⟩
 by_cases hbe : b = e
 · subst hbe; exact heo
 · exact ⟨u, k b u hbe q⟩
end
noncomputable def trk (h : Heap) (H : Hp) : List Addr := (List.range h.objs.size).filter λ a => (H a).isSome
noncomputable def hidT (h : Heap) (H : Hp) : Heap := PySem.W.hideAll h (trk h H)
theorem hidT_size (h : Heap) (H : Hp) : (hidT h H).objs.size = h.objs.size := PySem.W.hideAll_size _ _
theorem hidT_get {h : Heap} {H : Hp} {b : Addr} {o : Obj} (e : h.get? b = some o) (n : H b = none) : (hidT h H).get? b = some o :=
 PySem.W.hideAll_get _ e λ hm => by
  have q : (H b).isSome = true := (List.mem_filter.mp hm).2
  rw [n] at q; simp at q
theorem of_hidT {h : Heap} {H : Hp} {b : Addr} {o : Obj} (e : (hidT h H).get? b = some o) : h.get? b = some o /\ H b = none := by
 have e' : h.get? b = some o := PySem.W.of_hideAll (trk h H) e
 refine ⟨e', ?_⟩
 cases q : H b with
 | none => rfl
 | some x =>
  have hm : b ∈ trk h H := List.mem_filter.mpr ⟨List.mem_range.mpr (hLs e'), by simp [q]⟩
  have z : (hidT h H).get? b = none := PySem.W.hideAll_none (trk h H) hm
  rw [z] at e; cases e
noncomputable def allNews (g h : Heap) (L : Addr) : List (Addr × Obj) := (List.range h.objs.size).filterMap λ a => if a = L \/ (g.get? a).isSome = true then none else (h.get? a).map λ o => (a, o)
noncomputable def rest (g h : Heap) (L d : Addr) : List (Addr × Obj) := (allNews g h L).filter λ p => decide (p.1 ≠ d)
structure Mod (K : Fg) (mg : Str -> Option Value) (base : Heap) : Prop where
 kin : K.In base
 glob : base.Ns mainGlobals mg
 blt : ∃ mb, base.Ns builtinsNs mb /\ ∀ x : Str, x ≠ "__name__" -> mb x = bootBuiltins x
 nolimit : base.NoLimit
structure Cx where
 prog : Program
 w : World
 K : Fg
 mg : Str -> Option Value
 base : Heap
 A : Around
 N : List Str
 s₀ : Shared
 H₀ : Hp
 env : Env
 outer : List Env
 stack : List Env
 ex : List Addr
 fn : Str -> Bool
 calm : Bool
 pn : List (Addr × Obj)
 xe : Value -> Shared -> Prop
noncomputable def frs (l : List Env) : List Addr := l.filterMap (·.frame)
noncomputable abbrev Cx.fs (X : Cx) : List Addr := frs X.outer
def Vis (sc : Scope) (x : Str) : Prop := sc.names.lookup x = some .local \/ sc.names.lookup x = some .cell \/ sc.names.lookup x = some .free
def Loc (sc : Scope) (x : Str) : Prop := sc.names.lookup x = some .local \/ sc.names.lookup x = some .cell
def Look (env : Env) (h : Heap) (m : Str -> Option Value) (x : Str) (u : Value) : Prop :=
 (env.kindOf x = some .local /\ m x = some u) \/ ((env.kindOf x = some .cell \/ env.kindOf x = some .free) /\ ∃ c, env.cells.lookup x = some c /\ h.IsCell c (some u))
structure Cx.Ok (X : Cx) : Prop where
 mod : Mod X.K X.mg X.base
 kind : X.env.scope.kind = .function
 glob : X.env.globals = mainGlobals
 blt : X.env.builtins = builtinsNs
 above : X.s₀.heap.objs.size <= X.env.locals
 inj : ∀ x y c, X.env.cells.lookup x = some c -> X.env.cells.lookup y = some c -> x = y
 has : ∀ x, (X.env.kindOf x = some .cell \/ X.env.kindOf x = some .free) -> ∃ c, X.env.cells.lookup x = some c
 cab : ∀ x c, X.fn x = true -> X.env.cells.lookup x = some c -> X.s₀.heap.objs.size <= c
 hd : X.calm = true -> X.A.handled = none
 frames : X.A.frames = some X.stack
 stk : X.stack = X.outer \/ (X.stack = X.env :: X.outer /\ X.env.frame = some X.env.locals)
 exf : ∀ b ∈ X.ex, b ≠ X.env.locals /\ ∀ x c, X.env.cells.lookup x = some c -> c ≠ b
 bs : ∀ b o, X.base.get? b = some o -> X.s₀.heap.get? b = some o /\ X.H₀ b = none
 bsz : X.base.objs.size <= X.s₀.heap.objs.size
 noex : ∀ b o, X.base.get? b = some o -> b ∉ X.ex
 exfs : ∀ b ∈ X.ex, b ∉ X.fs
 funs : X.s₀.heap.FunFrames X.base X.outer
 frf : ∀ b ∈ X.fs, X.H₀ b = none
structure Inv (X : Cx) (pins : List (Addr × Obj)) (σ : List (Option V)) (H : Hp) (s : Shared) : Prop where
 ok : X.Ok
 os : s.os = X.s₀.os
 bare : AllBare s.gens
 base : Un X.fs X.ex X.H₀ H X.s₀.heap s.heap
 loc : ∃ m, s.heap.Ns X.env.locals m /\ ∀ (i : Nat) (x : Str) (v : V), X.N[i]? = some x -> σ[i]? = some (some v) -> Vis X.env.scope x -> ∃ u, RelV v u /\ Look X.env s.heap m x u
 cell : ∀ x c, X.env.cells.lookup x = some c -> ∃ v, s.heap.IsCell c v
 free : H X.env.locals = none
 freeC : ∀ x c, X.env.cells.lookup x = some c -> H c = none
 pin : ∀ p ∈ X.pn ++ pins, s.heap.get? p.1 = some p.2 /\ H p.1 = none /\ p.1 ≠ X.env.locals /\ p.1 ∉ X.fs /\ ∀ v, p.2.data ≠ .cell v
 hok : HOk X.prog X.w H s.heap
 len : σ.length = X.N.length
section
variable {X : Cx} {pins : List (Addr × Obj)} {σ : List (Option V)} {H H' : Hp} {s : Shared} {h' : Heap}
theorem Cx.Ok.nofr (ok : X.Ok) {b : Addr} {o : Obj} (e : X.base.get? b = some o) : b ∉ X.fs := λ hb => by
 have := (ok.funs.mem hb).1
 rw [e] at this; cases this
theorem Inv.bs (I : Inv X pins σ H s) : ∀ b o, X.base.get? b = some o -> s.heap.get? b = some o /\ H b = none := λ b o e =>
 ⟨I.base.keep b o (I.ok.bs b o e).1 (I.ok.bs b o e).2 (I.ok.nofr e) (I.ok.noex b o e), I.base.free b o (I.ok.bs b o e).1 (I.ok.bs b o e).2 (I.ok.noex b o e)⟩
theorem Inv.bk (I : Inv X pins σ H s) : ∀ b o, X.base.get? b = some o -> s.heap.get? b = some o := λ b o e => (I.bs b o e).1
theorem Inv.mod (I : Inv X pins σ H s) : Mod X.K X.mg X.base := I.ok.mod
theorem Inv.kIn (I : Inv X pins σ H s) : X.K.In s.heap := I.ok.mod.kin.keeps I.bk
theorem Inv.lt (I : Inv X pins σ H s) : X.env.locals < s.heap.objs.size := let ⟨_, hn, _⟩ := I.loc; hn.lt
theorem Inv.sz (I : Inv X pins σ H s) : X.s₀.heap.objs.size <= s.heap.objs.size := Q9 I.ok.above (nLe I.lt)
theorem Inv.nofs (I : Inv X pins σ H s) {a : Addr} (h : s.heap.objs.size <= a) : a ∉ X.fs := λ hb => by
 obtain ⟨_, o, ho, _⟩ := I.ok.funs.mem hb
 exact absurd (nLl (hLs ho) (Q9 I.sz h)) (zT _)
theorem Inv.cne (I : Inv X pins σ H s) : ∀ x c, X.env.cells.lookup x = some c -> c ≠ X.env.locals := λ x c e z => by
 obtain ⟨v, o, ho, hd⟩ := I.cell x c e
 obtain ⟨m, ⟨o', es, ep, ho', hd', _⟩, _⟩ := I.loc
 rw [z, ho'] at ho; cases ho; rw [hd'] at hd; cases hd
theorem Inv.funs (I : Inv X pins σ H s) : s.heap.FunFrames X.base X.outer := by
 have all : ∀ (l : List Env), (∀ b ∈ frs l, b ∈ X.fs) -> X.s₀.heap.FunFrames X.base l -> s.heap.FunFrames X.base l := by
  intro l
  induction l with
  | nil => intro _ _; trivial
  | cons env r ih =>
   intro hs hl
   obtain ⟨hk, ⟨L, o, hf, hn, ho, hd⟩, hr⟩ := hl
   have hL : L ∈ X.fs := hs L (by unfold frs; rw [List.filterMap_cons, hf]; exact lMs)
   obtain ⟨sl, e⟩ := I.base.slot L o ho (I.ok.frf L hL) hL λ z => I.ok.exfs L z hL
   exact ⟨hk, ⟨L, _, hf, hn, e, hd⟩, ih (λ b hb => hs b (by unfold frs; rw [List.filterMap_cons, hf]; exact lMc _ hb)) hr⟩
 exact all X.outer (λ _ hb => hb) I.ok.funs
theorem Inv.stack (I : Inv X pins σ H s) : s.heap.FunFrames X.base X.stack := by
 rcases I.ok.stk with e | ⟨e, hf⟩
 · rw [e]; exact I.funs
 · rw [e]
   obtain ⟨m, hn, _⟩ := I.loc
   refine .cons (by rw [I.ok.kind]; decide) hf hn ?_ I.funs
   exact Heap.get?_none_of_le (Q9 I.ok.bsz I.ok.above)
theorem Inv.stkSub (I : Inv X pins σ H s) : ∀ b ∈ frs X.stack, b ∈ X.env.locals :: X.fs := λ b hb => by
 rcases I.ok.stk with e | ⟨e, hf⟩
 · rw [e] at hb; exact lMc _ hb
 · rw [e] at hb
   unfold frs at hb
   rw [List.filterMap_cons, hf] at hb
   exact hb
theorem Inv.stkFree (I : Inv X pins σ H s) : ∀ b ∈ frs X.stack, H b = none := λ b hb => by
 rcases Qb.mp (I.stkSub b hb) with e | hb
 · rw [e]; exact I.free
 · obtain ⟨_, o, ho, _⟩ := I.ok.funs.mem hb
   exact I.base.free b o ho (I.ok.frf b hb) λ z => I.ok.exfs b z hb
theorem Inv.step {g' : Array GenState} {t' : Nat} {d' : Drawn} {ch : List Addr} (I : Inv X pins σ H s)
 (hch : ∀ b ∈ ch, (b ∈ X.ex \/ X.s₀.heap.objs.size <= b) /\ b ≠ X.env.locals /\ (∀ x c, X.env.cells.lookup x = some c -> c ≠ b) /\ ∀ p ∈ X.pn ++ pins, p.1 ≠ b)
 (keep : ∀ b o, b ≠ X.env.locals -> b ∉ X.fs -> b ∉ ch -> s.heap.get? b = some o -> H b = none -> h'.get? b = some o)
 (slot : ∀ b o, b ≠ X.env.locals -> b ∈ X.fs -> b ∉ ch -> s.heap.get? b = some o -> H b = none -> ∃ sl, h'.get? b = some { o with slots := sl }) (free : ∀ b o, b ∉ ch -> s.heap.get? b = some o -> H b = none -> H' b = none)
 (there : ∀ b o, b ∉ ch -> s.heap.get? b = some o -> ∃ o', h'.get? b = some o')
 (tups : ∀ b xs, H b = some (.tup xs) -> H' b = some (.tup xs)) (frzs : ∀ b o u, H b = some (.frz o u) -> H' b = some (.frz o u)) (tbls : ∀ b ps, H b = some (.tbl ps) -> ∃ more, H' b = some (.tbl (ps ++ more)))
 (ns : ∀ m, s.heap.Ns X.env.locals m -> h'.Ns X.env.locals m) (hok : HOk X.prog X.w H' h') (hg : AllBare g') :
 Inv X pins σ H' { s with heap := h', gens := g', drawn := d', toks := t' } := by
 have neL : ∀ b o, X.s₀.heap.get? b = some o -> b ≠ X.env.locals := λ b o e => nNl (nLl (hLs e) I.ok.above)
 have neC : ∀ b o, X.s₀.heap.get? b = some o -> b ∉ X.ex -> b ∉ ch := λ b o e hx hb => by
  rcases (hch b hb).1 with z | z
  · exact hx z
  · exact absurd (nLl (hLs e) z) (zT _)
 have cellK : ∀ x c, X.env.cells.lookup x = some c -> ∀ v, s.heap.IsCell c v -> h'.IsCell c v := λ x c e v ⟨o, ho, hd⟩ => by
  have nch : c ∉ ch := λ z => (hch c z).2.2.1 x c e rfl
  by_cases hc : c ∈ X.fs
  · obtain ⟨sl, q⟩ := slot c o (I.cne x c e) hc nch ho (I.freeC x c e)
    exact ⟨_, q, hd⟩
  · exact ⟨o, keep c o (I.cne x c e) hc nch ho (I.freeC x c e), hd⟩
 refine ⟨I.ok, I.os, hg, ⟨λ b o e n hb hx => ?_, λ b o e n hb hx => ?_, λ b o e n hx => ?_, λ b o e hx => ?_, λ b xs e => tups b xs (I.base.tups b xs e), λ b o xs e => frzs b o xs (I.base.frzs b o xs e), λ b ps e => ?_⟩, ?_, λ x c e => ?_, ?_, λ x c e => ?_, λ p hp => ?_, hok, I.len⟩
 · exact keep b o (neL b o e) hb (neC b o e hx) (I.base.keep b o e n hb hx) (I.base.free b o e n hx)
 · obtain ⟨sl, e1⟩ := I.base.slot b o e n hb hx
   obtain ⟨sl', e2⟩ := slot b _ (neL b o e) hb (neC b o e hx) e1 (I.base.free b o e n hx)
   exact ⟨sl', e2⟩
 · obtain ⟨o', e1⟩ := I.base.there b o e hx
   exact free b o' (neC b o e hx) e1 (I.base.free b o e n hx)
 · obtain ⟨o', e1⟩ := I.base.there b o e hx
   exact there b o' (neC b o e hx) e1
 · obtain ⟨m1, e1⟩ := I.base.tbls b ps e
   obtain ⟨m2, e2⟩ := tbls b _ e1
   exact ⟨m1 ++ m2, by rw [e2, Array.append_assoc]⟩
 · obtain ⟨m, hn, hl⟩ := I.loc
   refine ⟨m, ns m hn, λ i x v e1 e2 e3 => ?_⟩
   obtain ⟨u, r, l⟩ := hl i x v e1 e2 e3
   refine ⟨u, r, ?_⟩
   rcases l with l | ⟨k, c, e, z⟩
   · exact .inl l
   · exact .inr ⟨k, c, e, cellK x c e _ z⟩
 · obtain ⟨v, z⟩ := I.cell x c e
   exact ⟨v, cellK x c e v z⟩
 · obtain ⟨m, ⟨o, _, _, ho, _⟩, _⟩ := I.loc
   exact free _ o (λ z => (hch _ z).2.1 rfl) ho I.free
 · obtain ⟨v, o, ho, hd⟩ := I.cell x c e
   exact free c o (λ z => (hch c z).2.2.1 x c e rfl) ho (I.freeC x c e)
 · obtain ⟨e, n, ne, nf, d⟩ := I.pin p hp
   have nch : p.1 ∉ ch := λ z => (hch p.1 z).2.2.2 p hp rfl
   exact ⟨keep p.1 p.2 ne nf nch e n, free p.1 p.2 nch e n, ne, nf, d⟩
theorem Inv.un {t' : Nat} (I : Inv X pins σ H s) (u : Un X.fs [] H H' s.heap h') (hok : HOk X.prog X.w H' h') : Inv X pins σ H' { s with heap := h', toks := t' } := by
 obtain ⟨m, ⟨o, es, ep, ho, r⟩, _⟩ := id I.loc
 obtain ⟨sl, hL⟩ := u.any ho I.free (by simp)
 exact I.step (g' := s.gens) (d' := s.drawn) (ch := []) (λ _ z => nomatch z) (λ b o _ hb _ e n => u.keep b o e n hb (by simp)) (λ b o _ hb _ e n => u.slot b o e n hb (by simp)) (λ b o _ e n => u.free b o e n (by simp)) (λ b o _ e => u.there b o e (by simp)) u.tups u.frzs u.tbls (λ m' hm => by
  obtain ⟨o', es', ep', ho', r'⟩ := hm
  rw [ho] at ho'; cases ho'
  exact ⟨_, es', ep', hL, r'⟩) hok I.bare
theorem Inv.call {g' : Array GenState} {t' : Nat} {d' : Drawn} {ch : List Addr} (I : Inv X pins σ H s) (u : Un (frs X.stack) ch H H' s.heap h') (hok : HOk X.prog X.w H' h') (hg : AllBare g')
 (hch : ∀ b ∈ ch, (b ∈ X.ex \/ X.s₀.heap.objs.size <= b) /\ b ≠ X.env.locals /\ (∀ x c, X.env.cells.lookup x = some c -> c ≠ b) /\ ∀ p ∈ X.pn ++ pins, p.1 ≠ b) :
 Inv X pins σ H' { s with heap := h', gens := g', drawn := d', toks := t' } := by
 obtain ⟨m, ⟨o, es, ep, ho, r⟩, _⟩ := id I.loc
 obtain ⟨sl, hL⟩ := u.any ho I.free λ z => (hch _ z).2.1 rfl
 exact I.step (ch := ch) hch (λ b o hL hb hc e n => u.keep b o e n (λ z => (Qb.mp (I.stkSub b z)).elim hL hb) hc) (λ b o _ _ hc e n => u.any e n hc) (λ b o hc e n => u.free b o e n hc) (λ b o hc e => u.there b o e hc) u.tups u.frzs u.tbls (λ m' hm => by
  obtain ⟨o', es', ep', ho', r'⟩ := hm
  rw [ho] at ho'; cases ho'
  exact ⟨_, es', ep', hL, r'⟩) hok hg
theorem Inv.turned {t' : Nat} {it : Addr} (I : Inv X pins σ H s) (k : ∀ b o, b ≠ it -> s.heap.get? b = some o -> h'.get? b = some o) (hn : H it = none) (hL : it ≠ X.env.locals)
 (h1 : it ∈ X.ex \/ X.s₀.heap.objs.size <= it) (h2 : ∀ x c, X.env.cells.lookup x = some c -> c ≠ it) (h3 : ∀ p ∈ X.pn ++ pins, p.1 ≠ it) : Inv X pins σ H { s with heap := h', toks := t' } := by
 have nit : ∀ b u, H b = some u -> b ≠ it := λ b u e z => by rw [z, hn] at e; cases e
 refine I.step (g' := s.gens) (d' := s.drawn) (ch := [it]) (λ b hb => ?_) (λ b o _ _ hc e _ => k b o (λ z => hc (by simp [z])) e) (λ b o _ _ hc e _ => ⟨o.slots, k b o (λ z => hc (by simp [z])) e⟩) (λ _ _ _ _ n => n)
  (λ b o hc e => ⟨o, k b o (λ z => hc (by simp [z])) e⟩) (λ _ _ e => e) (λ _ _ _ e => e) (λ b ps e => ⟨#[], by rw [e]; simp⟩) (λ m hm => ?_) (λ b u e => ?_) I.bare
 · have e : b = it := by simpa using hb
   subst e
   exact ⟨h1, hL, h2, h3⟩
 · obtain ⟨o, es, ep, ho, r⟩ := hm
   exact ⟨o, es, ep, k _ o (Ne.symm hL) ho, r⟩
 · refine (I.hok b u e).stay (λ c v hc q => k c v ?_ q) (λ _ q => q) (λ _ _ q => q) λ _ _ _ q => q
   rcases hc with z | z
   · rw [z]; exact nit b u e
   · exact nit c _ z
theorem Inv.tok (I : Inv X pins σ H s) (t : Nat) : Inv X pins σ H { s with toks := t } := I.un (h' := s.heap) (t' := t) Un.refl I.hok
theorem Inv.kept {t' : Nat} (I : Inv X pins σ H s) (k : ∀ b u, s.heap.get? b = some u -> h'.get? b = some u) : Inv X pins σ H { s with heap := h', toks := t' } := I.un (Un.kept k) (I.hok.kept k)
theorem Inv.laid {a : Addr} {o : HO} {t' : Nat} (I : Inv X pins σ H s) (k : ∀ b u, s.heap.get? b = some u -> h'.get? b = some u) (hp : s.heap.objs.size <= a) (new : ObjOk X.prog X.w (upd H a o) h' a o) :
 Inv X pins σ (upd H a o) { s with heap := h', toks := t' } := I.un (Un.laid k hp (I.hok.fresh hp)) (I.hok.laid k hp new)
theorem Inv.write {x e : Addr} {o : HO} {t' : Nat} (I : Inv X pins σ H s) (mu : Mut (H x)) (he : e = x \/ H e = some (.own x)) (k : ∀ b u, b ≠ e -> s.heap.get? b = some u -> h'.get? b = some u) (heo : ∃ u, h'.get? e = some u)
 (new : ObjOk X.prog X.w (upd H x o) h' x o) : Inv X pins σ (upd H x o) { s with heap := h', toks := t' } := I.un (Un.write mu he k heo) (I.hok.write mu he k heo new)
theorem Inv.pins_of {pins' : List (Addr × Obj)} (I : Inv X pins σ H s) (h : ∀ p ∈ pins', s.heap.get? p.1 = some p.2 /\ H p.1 = none /\ p.1 ≠ X.env.locals /\ p.1 ∉ X.fs /\ ∀ v, p.2.data ≠ .cell v) : Inv X pins' σ H s :=
 ⟨I.ok, I.os, I.bare, I.base, I.loc, I.cell, I.free, I.freeC, λ p hp => (Q25.mp hp).elim (λ z => I.pin p (List.mem_append_left _ z)) (h p), I.hok, I.len⟩
theorem nodup_ix {N : List Str} (hN : N.Nodup) {i j : Nat} {x : Str} (a : N[i]? = some x) (b : N[j]? = some x) : i = j := by
 obtain ⟨h1, e1⟩ := Qa.mp a
 obtain ⟨h2, e2⟩ := Qa.mp b
 exact (List.getElem_inj hN).mp (e1.trans e2.symm)
theorem store_ok2 {M : Model} {A : Around} {E : Value -> Shared -> Prop} {i : Nat} {x : Str} {v : V} {u : Value} {Q : Unit -> Shared -> Prop} (I : Inv X pins σ H s) (hN : X.N.Nodup) (hi : X.N[i]? = some x) (hx : Loc X.env.scope x) (r : RelV v u)
 (h : ∀ s', Inv X pins (σ.set i (some v)) H s' -> (∃ a, Heap.SameBut a s.heap s'.heap /\ (a = X.env.locals \/ X.env.cells.lookup x = some a)) -> Q () s') (hf : X.fn x = true \/ X.env.scope.names.lookup x = some .local := by first | exact .inl rfl | exact .inr rfl | assumption) : wpAny M A (storeName X.env x u) Q E s := by
 obtain ⟨m, hn, hl⟩ := id I.loc
 have hcls : (X.env.scope.kind == .class || (X.env.scope.kind == .module && X.env.locals != X.env.globals)) = false := by rw [I.ok.kind]; rfl
 have hiσ : i < σ.length := by rw [I.len]; exact (Qa.mp hi).1
 have cne := I.cne
 have tracked : ∀ {a : Addr} {h' : Heap}, (∃ o, s.heap.get? a = some o /\ H a = none) -> Heap.SameBut a s.heap h' -> HOk X.prog X.w H h' := λ {a h'} ha hs b ob e => by
  obtain ⟨_, _, hfree⟩ := ha
  refine (I.hok b ob e).stay (λ c w' hc q => (hs.2 c ?_).trans q) (λ _ q => q) (λ _ _ q => q) λ _ _ _ q => q
  rintro rfl
  rcases hc with rfl | hc
  · rw [hfree] at e; cases e
  · rw [hfree] at hc; cases hc
 rcases hx with hk | hk
 · refine wpAny_storeName_local hk hn (λ h' hn' hs => ?_) hcls
   obtain ⟨oL, _, _, hoL, _⟩ := id hn
   refine h _ ⟨I.ok, I.os, I.bare, ⟨λ b o e n hb hx => ?_, λ b o e n hb hx => ?_, I.base.free, λ b o e hx => ?_, I.base.tups, I.base.frzs, I.base.tbls⟩, ⟨_, hn', λ j y v' e1 e2 e3 => ?_⟩, λ y c e => ?_, I.free, I.freeC, λ p hp => ?_, tracked ⟨oL, hoL, I.free⟩ hs, by simpa using I.len⟩ ⟨_, hs, .inl rfl⟩
   · exact (hs.2 b (nNl (nLl (hLs e) I.ok.above))).trans (I.base.keep b o e n hb hx)
   · obtain ⟨sl, e1⟩ := I.base.slot b o e n hb hx
     exact ⟨sl, (hs.2 b (nNl (nLl (hLs e) I.ok.above))).trans e1⟩
   · obtain ⟨o', e1⟩ := I.base.there b o e hx
     exact ⟨o', (hs.2 b (nNl (nLl (hLs e) I.ok.above))).trans e1⟩
   · by_cases hj : j = i
     · subst hj
       rw [hi] at e1; cases e1
       rw [Q1f hiσ] at e2
       cases e2
       exact ⟨u, r, .inl ⟨hk, by simp⟩⟩
     · rw [Q1e (Ne.symm hj)] at e2
       obtain ⟨u', r', q⟩ := hl j y v' e1 e2 e3
       refine ⟨u', r', ?_⟩
       rcases q with ⟨k, e⟩ | ⟨k, c, e, z⟩
       · refine .inl ⟨k, ?_⟩
         have : y ≠ x := λ e => hj (nodup_ix hN e1 (e ▸ hi))
         simp [this, e]
       · exact .inr ⟨k, c, e, z.sameBut hs (cne y c e)⟩
   · obtain ⟨w', z⟩ := I.cell y c e
     exact ⟨w', z.sameBut hs (cne y c e)⟩
   · obtain ⟨e, n, ne, nf, d⟩ := I.pin p hp
     exact ⟨(hs.2 p.1 ne).trans e, n, ne, nf, d⟩
 · have hfn : X.fn x = true := by
    rcases hf with z | z
    · exact z
    · rw [z] at hk; cases hk
   obtain ⟨c, hc⟩ := I.ok.has x (.inl hk)
   obtain ⟨w', z⟩ := I.cell x c hc
   refine wpAny_storeName_cell I.ok.kind hk hc z (λ h' hc' hs => ?_)
   obtain ⟨oc, hoc, hocd⟩ := id z
   refine h { s with heap := h' } ⟨I.ok, I.os, I.bare, ⟨λ b o e n hb hx => ?_, λ b o e n hb hx => ?_, I.base.free, λ b o e hx => ?_, I.base.tups, I.base.frzs, I.base.tbls⟩, ⟨m, hn.sameBut hs (Ne.symm (cne x c hc)), λ j y v' e1 e2 e3 => ?_⟩, λ y c' e => ?_, I.free, I.freeC, λ p hp => ?_, tracked ⟨oc, hoc, I.freeC x c hc⟩ hs, by simpa using I.len⟩ ⟨c, hs, .inr hc⟩
   · exact (hs.2 b (nNl (nLl (hLs e) (I.ok.cab x c hfn hc)))).trans (I.base.keep b o e n hb hx)
   · obtain ⟨sl, e1⟩ := I.base.slot b o e n hb hx
     exact ⟨sl, (hs.2 b (nNl (nLl (hLs e) (I.ok.cab x c hfn hc)))).trans e1⟩
   · obtain ⟨o', e1⟩ := I.base.there b o e hx
     exact ⟨o', (hs.2 b (nNl (nLl (hLs e) (I.ok.cab x c hfn hc)))).trans e1⟩
   · by_cases hj : j = i
     · subst hj
       rw [hi] at e1; cases e1
       rw [Q1f hiσ] at e2
       cases e2
       exact ⟨u, r, .inr ⟨.inl hk, c, hc, hc'⟩⟩
     · rw [Q1e (Ne.symm hj)] at e2
       obtain ⟨u', r', q⟩ := hl j y v' e1 e2 e3
       refine ⟨u', r', ?_⟩
       rcases q with q | ⟨k, c', e, z'⟩
       · exact .inl q
       · refine .inr ⟨k, c', e, z'.sameBut hs ?_⟩
         rintro rfl
         exact hj (nodup_ix hN e1 (I.ok.inj _ _ _ e hc ▸ hi))
   · by_cases hcc : c' = c
     · subst hcc; exact ⟨_, hc'⟩
     · obtain ⟨w2, z2⟩ := I.cell y c' e
       exact ⟨w2, z2.sameBut hs hcc⟩
   · obtain ⟨e, n, ne, nf, d⟩ := I.pin p hp
     refine ⟨(hs.2 p.1 ?_).trans e, n, ne, nf, d⟩
     intro q
     rw [q, hoc] at e
     have q' : oc = p.2 := zV e
     exact d w' (by rw [<- q']; exact hocd)
theorem store_ok {M : Model} {A : Around} {E : Value -> Shared -> Prop} {i : Nat} {x : Str} {v : V} {u : Value} {Q : Unit -> Shared -> Prop} (I : Inv X pins σ H s) (hN : X.N.Nodup) (hi : X.N[i]? = some x) (hx : Loc X.env.scope x) (r : RelV v u)
 (h : ∀ s', Inv X pins (σ.set i (some v)) H s' -> Q () s') (hf : X.fn x = true \/ X.env.scope.names.lookup x = some .local := by first | exact .inl rfl | exact .inr rfl | assumption) : wpAny M A (storeName X.env x u) Q E s :=
 store_ok2 I hN hi hx r (λ s' I' _ => h s' I') hf
theorem Inv.call' {s' : Shared} {ch : List Addr} (I : Inv X pins σ H s) (ho : s'.os = s.os) (u : Un (frs X.stack) ch H H' s.heap s'.heap) (hok : HOk X.prog X.w H' s'.heap) (hg : AllBare s'.gens)
 (hch : ∀ b ∈ ch, (b ∈ X.ex \/ X.s₀.heap.objs.size <= b) /\ b ≠ X.env.locals /\ (∀ x c, X.env.cells.lookup x = some c -> c ≠ b) /\ ∀ p ∈ X.pn ++ pins, p.1 ≠ b) : Inv X pins σ H' s' := by
 obtain ⟨h', g', d', t', o'⟩ := s'
 have e : o' = s.os := ho
 subst e
 exact I.call (g' := g') (t' := t') (d' := d') u hok hg hch
end
noncomputable abbrev XK := Value -> Option Addr -> Hp -> Prop
noncomputable abbrev St := List (Option V)
noncomputable abbrev VK := V -> Hp -> Prop
noncomputable abbrev TE := St -> Hp -> VK -> Prop
noncomputable abbrev TT := St -> Hp -> (Bool -> Hp -> Prop) -> Prop
noncomputable abbrev TA := St -> Hp -> (List V -> Hp -> Prop) -> Prop
structure Ends where
 nx : St -> Hp -> Prop
 rt : VK
 bk : St -> Hp -> Prop := λ _ _ => False
 ct : St -> Hp -> Prop := λ _ _ => False
noncomputable abbrev TS := Ends -> St -> Hp -> Prop
def EP (X : Cx) (pins : List (Addr × Obj)) (σ : St) (Q : VK) (u : Value) (s' : Shared) : Prop := ∃ v H', Inv X pins σ H' s' /\ RelV v u /\ Q v H'
def TP (X : Cx) (pins : List (Addr × Obj)) (σ : St) (Q : Bool -> Hp -> Prop) (b : Bool) (s' : Shared) : Prop := ∃ H', Inv X pins σ H' s' /\ Q b H'
def AP (X : Cx) (pins : List (Addr × Obj)) (σ : St) (Q : List V -> Hp -> Prop) (us : List Value) (s' : Shared) : Prop := ∃ vs H', Inv X pins σ H' s' /\ Vals vs us /\ Q vs H'
def SP (X : Cx) (pins : List (Addr × Obj)) (D : Ends) (f : Flow) (s' : Shared) : Prop :=
 match f with
 | .next => ∃ σ' H', Inv X pins σ' H' s' /\ D.nx σ' H'
 | .brk => ∃ σ' H', Inv X pins σ' H' s' /\ D.bk σ' H'
 | .cont => ∃ σ' H', Inv X pins σ' H' s' /\ D.ct σ' H'
 | .ret u => ∃ v σ' H', Inv X pins σ' H' s' /\ RelV v u /\ D.rt v H'
def PE (X : Cx) (e : Expr) (t : TE) : Prop :=
 ∀ (pins : List (Addr × Obj)) (s : Shared) (σ : St) (H : Hp) (Q : VK), Inv X pins σ H s -> t σ H Q -> wpAny (model X.prog X.w) X.A (eval e X.env) (EP X pins σ Q) X.xe s
def PT (X : Cx) (e : Expr) (t : TT) : Prop :=
 ∀ (pins : List (Addr × Obj)) (s : Shared) (σ : St) (H : Hp) (Q : Bool -> Hp -> Prop), Inv X pins σ H s -> t σ H Q -> wpAny (model X.prog X.w) X.A (isTrue e X.env (eval e X.env)) (TP X pins σ Q) X.xe s
def PW (X : Cx) (e : Expr) (t : TT) : Prop :=
 ∀ (whole : Sem Value) (pins : List (Addr × Obj)) (s : Shared) (σ : St) (H : Hp) (Q : Bool -> Hp -> Prop), Inv X pins σ H s -> t σ H Q -> wpAny (model X.prog X.w) X.A (isTrue e X.env whole) (TP X pins σ Q) X.xe s
theorem PW.pt {X : Cx} {e : Expr} {t : TT} (h : PW X e t) : PT X e t := h _
def PA (X : Cx) (es : List Expr) (t : TA) : Prop :=
 ∀ (pos : Pos) (pins : List (Addr × Obj)) (s : Shared) (σ : St) (H : Hp) (Q : List V -> Hp -> Prop), Inv X pins σ H s -> t σ H Q -> wpAny (model X.prog X.w) X.A (spliced (backTo pos (starEach es X.env))) (AP X pins σ Q) X.xe s
def PS (X : Cx) (st : Stmt) (t : TS) : Prop :=
 ∀ (pins : List (Addr × Obj)) (s : Shared) (σ : St) (H : Hp) (D : Ends), Inv X pins σ H s -> t D σ H -> wpAny (model X.prog X.w) X.A (exec st X.env) (SP X pins D) X.xe s
def PSs (X : Cx) (st : List Stmt) (t : TS) : Prop :=
 ∀ (pins : List (Addr × Obj)) (s : Shared) (σ : St) (H : Hp) (D : Ends), Inv X pins σ H s -> t D σ H -> wpAny (model X.prog X.w) X.A (execs st X.env) (SP X pins D) X.xe s
theorem thn {α : Type} {t : Sem α} {Q Q' : α -> Shared -> Prop} {M : Model} {A : Around} {E : Value -> Shared -> Prop} {s : Shared} (h : wpAny M A t Q E s) (hQ : ∀ a s, Q a s -> Q' a s) : wpAny M A t Q' E s := wpAny_mono h hQ λ _ _ x => x
section
variable {X : Cx}
def tVar (i : Nat) : TE := λ σ H Q => ∃ v, σ[i]? = some (some v) /\ Q v H
def tC (v : V) : TE := λ _ H Q => Q v H
theorem pe_var {i : Nat} {x : Str} {pos : Pos} (hN : X.N[i]? = some x) (hv : Vis X.env.scope x) (hd : (x == ("__debug__" : Str)) = false := by decide) (hcd : (x == ("__classdict__" : Str)) = false := by decide) : PE X (.Name x pos) (tVar i) := by
 intro pins s σ H Q I h
 obtain ⟨v, e, h⟩ := h
 obtain ⟨m, hn, hl⟩ := I.loc
 obtain ⟨u, r, l⟩ := hl i x v hN e hv
 have fin : EP X pins σ Q u s := ⟨v, H, I, r, h⟩
 rcases l with ⟨hk, hm⟩ | ⟨hk, c, hc, hcell⟩
 · exact wpAny_Name (wpAny_loadName_local I.ok.kind hk hn hm fin) hd
 · rcases hk with hk | hk
   · exact wpAny_Name (wpAny_loadName_cell I.ok.kind hk hc hcell fin) hd
   · exact wpAny_Name (wpAny_loadName_free I.ok.kind hk hc hcell fin hcd) hd
theorem pe_int {i j pos} : PE X (.Constant (.int i) j pos) (tC (.int i)) := λ _ _ _ H _ I h => wpAny_Constant_int ⟨.int i, H, I.tok _, ⟨_, rfl⟩, h⟩
theorem pe_bl {b j pos} : PE X (.Constant (.bool b) j pos) (tC (.bl b)) := λ _ _ _ H _ I h => Constant_bool ⟨.bl b, H, I, rfl, h⟩
theorem pe_non {j pos} : PE X (.Constant .none j pos) (tC .non) := λ _ _ _ H _ I h => Constant_none ⟨.non, H, I, rfl, h⟩
theorem pe_str {x j pos} : PE X (.Constant (.str x) j pos) (tC (.str x)) := λ _ _ _ H _ I h => Calls.Constant_str ⟨.str x, H, I.tok _, ⟨_, rfl⟩, h⟩
def Gl (X : Cx) (x : Str) : Prop := X.env.kindOf x = some .globalImplicit
theorem ld_glob {E : Value -> Shared -> Prop} {pins : List (Addr × Obj)} {s : Shared} {σ : St} {H : Hp} {x : Str} {u : Value} {pos : Pos} {Q : Value -> Shared -> Prop} (I : Inv X pins σ H s) (hg : Gl X x) (hm : X.mg x = some u) (h : Q u s)
 (hd : (x == ("__debug__" : Str)) = false := by decide) : wpAny (model X.prog X.w) X.A (eval (.Name x pos) X.env) Q E s :=
 Calls.Name_function_global I.ok.kind hg (Calls.loadGlobal_global (by rw [I.ok.glob]; exact I.mod.glob.keeps I.bk) hm h) hd
theorem ld_blt {E : Value -> Shared -> Prop} {pins : List (Addr × Obj)} {s : Shared} {σ : St} {H : Hp} {x : Str} {u : Value} {pos : Pos} {Q : Value -> Shared -> Prop} (I : Inv X pins σ H s) (hg : Gl X x) (hm : X.mg x = none) (hv : bootBuiltins x = some u) (h : Q u s)
 (hn : x ≠ "__name__" := by decide) (hd : (x == ("__debug__" : Str)) = false := by decide) : wpAny (model X.prog X.w) X.A (eval (.Name x pos) X.env) Q E s := by
 obtain ⟨mb, h1, h2⟩ := I.mod.blt
 exact Calls.Name_function_global I.ok.kind hg (Calls.loadGlobal_builtin (by rw [I.ok.glob]; exact I.mod.glob.keeps I.bk) hm (by rw [I.ok.blt]; exact h1.keeps I.bk) ((h2 x hn).trans hv) h) hd
theorem pe_glob {x : Str} {v : V} {u : Value} {pos : Pos} (hg : Gl X x) (hm : X.mg x = some u) (r : RelV v u) (hd : (x == ("__debug__" : Str)) = false := by decide) : PE X (.Name x pos) (tC v) :=
 λ _ _ _ H _ I h => ld_glob I hg hm ⟨v, H, I, r, h⟩ hd
theorem pe_bltn {x : Str} {v : V} {u : Value} {pos : Pos} (hg : Gl X x) (hm : X.mg x = none) (hv : bootBuiltins x = some u) (r : RelV v u) (hn : x ≠ "__name__" := by decide) (hd : (x == ("__debug__" : Str)) = false := by decide) : PE X (.Name x pos) (tC v) :=
 λ _ _ _ H _ I h => ld_blt I hg hm hv ⟨v, H, I, r, h⟩ hn hd
variable {a b : Expr} {ta tb : TE} {pos : Pos}
def PC (X : Cx) (op : CmpOp) (a b : Expr) (t : TE) : Prop :=
 ∀ (pins : List (Addr × Obj)) (s : Shared) (σ : St) (H : Hp) (Q : VK), Inv X pins σ H s -> t σ H Q ->
  wpAny (model X.prog X.w) X.A (eval a X.env) (λ v s₁ => wpAny (model X.prog X.w) X.A (eval b X.env) (λ u s₂ => wpAny (model X.prog X.w) X.A (compareOp op v u) (EP X pins σ Q) X.xe s₂) X.xe s₁) X.xe s
def tB (t : TE) : TT := λ σ H Q => t σ H λ x H1 => ∃ c, x = .bl c /\ Q c H1
theorem pt_cmp {op : CmpOp} {t : TE} (h : PC X op a b t) (h1 : behindInMarks op b = false := by first | exact nobehind _ (by decide) (by decide) | rfl) : PT X (.Compare a [op] [b] pos) (tB t) := by
 intro pins s σ H Q I hw
 refine wpAny_isTrue_Compare1 (thn (h pins s σ H _ I hw) λ v s1 h1 => thn h1 λ u s2 h2 => thn h2 λ c s3 q_ => ?_) h1
 obtain ⟨x, H1, I1, r1, q1⟩ := q_
 obtain ⟨d, rfl, q⟩ := q1
 cases r1
 exact wpAny_truthy_bool ⟨H1, I1, q⟩
variable {tA tB' : TT} {rest : List Expr}
def tOr (t u : TT) : TT := λ σ H Q => t σ H λ c H1 => if c = true then Q true H1 else u σ H1 Q
def tNot (t : TT) : TT := λ σ H Q => t σ H λ c H1 => Q (!c) H1
theorem pw_or1 (ha : PT X a tA) : PW X (.BoolOp .Or [a] pos) tA := by
 intro wh pins s σ H Q I h
 refine isTrue_or (thn (ha pins s σ H Q I h) λ c s1 e => ?_)
 cases c with
 | false => exact isTrue_or_nil e
 | true => exact e
theorem pw_or (ha : PT X a tA) (hb : PW X (.BoolOp .Or (b :: rest) pos) tB') : PW X (.BoolOp .Or (a :: b :: rest) pos) (tOr tA tB') := by
 intro wh pins s σ H Q I h
 refine isTrue_or (thn (ha pins s σ H _ I h) λ c s1 q_ => ?_)
 obtain ⟨H1, I1, q1⟩ := q_
 cases c with
 | true => exact ⟨H1, I1, q1⟩
 | false => exact hb wh pins s1 σ H1 Q I1 q1
theorem pt_not (ha : PT X a tA) : PT X (.UnaryOp .Not a pos) (tNot tA) := by
 intro pins s σ H Q I h
 exact isTrue_not (ha pins s σ H (λ c H1 => Q (!c) H1) I h)
def tAndV (ta tb : TE) : TE := λ σ H Q => ta σ H λ x H1 => ∃ c, x = .bl c /\ if c = true then tb σ H1 Q else Q (.bl false) H1
def tNotV (ta : TE) : TE := λ σ H Q => ta σ H λ x H1 => ∃ c, x = .bl c /\ Q (.bl (!c)) H1
theorem pe_one {op} {t : TE} (h : PE X a t) : PE X (.BoolOp op [a] pos) t := λ pins s σ H Q I hw => BoolOp_one (h pins s σ H Q I hw)
theorem pe_and (ha : PE X a ta) (hb : PE X (.BoolOp .And (b :: rest) pos) tb) : PE X (.BoolOp .And (a :: b :: rest) pos) (tAndV ta tb) := by
 intro pins s σ H Q I h
 refine BoolOp_and (thn (ha pins s σ H _ I h) λ v s1 q_ => ?_)
 obtain ⟨x, H1, I1, r1, q1⟩ := q_
 obtain ⟨c, rfl, q1⟩ := q1
 cases r1
 refine wpAny_truthy_bool ?_
 cases c with
 | true => exact hb pins s1 σ H1 Q I1 q1
 | false => exact ⟨.bl false, H1, I1, rfl, q1⟩
theorem pe_not (ha : PE X a ta) : PE X (.UnaryOp .Not a pos) (tNotV ta) := by
 intro pins s σ H Q I h
 refine UnaryOp_ (thn (ha pins s σ H _ I h) λ v s1 q_ => ?_)
 obtain ⟨x, H1, I1, r1, q1⟩ := q_
 obtain ⟨c, rfl, q1⟩ := q1
 cases r1
 exact not_of (wpAny_truthy_bool ⟨.bl (!c), H1, I1, rfl, q1⟩)
def tIf (t : TT) (ta tb : TE) : TE := λ σ H Q => t σ H λ c H1 => if c = true then ta σ H1 Q else tb σ H1 Q
theorem pe_ifExp {c : Expr} (hc : PT X c tA) (ha : PE X a ta) (hb : PE X b tb) : PE X (.IfExp c a b pos) (tIf tA ta tb) := by
 intro pins s σ H Q I h
 refine wpAny_IfExp (thn (hc pins s σ H _ I h) λ d s1 q_ => ?_)
 obtain ⟨H1, I1, q1⟩ := q_
 cases d with
 | true => exact ha pins s1 σ H1 Q I1 q1
 | false => exact hb pins s1 σ H1 Q I1 q1
end
def SqL (K : Fg) (H : Hp) (a : Addr) (xs : List V) : Prop :=
 Rd H a (.lst xs) \/
  ∃ (o : Obj) (its : Array Value) (n : Nat), K.lookup a = some o /\ o.cls = .type "list" /\ o.dict = none /\ o.data = .seq its n /\ its.size <= sizeLine /\ Vals xs its.toList
def SqT (K : Fg) (H : Hp) (a : Addr) (xs : List V) : Prop :=
 Rd H a (.tup xs) \/
  ∃ (o : Obj) (its : Array Value) (n : Nat), K.lookup a = some o /\ o.cls = .type "tuple" /\ o.data = .seq its n /\ its.size <= sizeLine /\ Vals xs its.toList
noncomputable def absV : Value -> Option V
 | .none => some .non
 | .bool b => some (.bl b)
 | .int i _ => some (.int i)
 | .str x _ => some (.str x)
 | .bytes b _ => some (.byt b)
 | .float b _ => some (.flt b)
 | .ref a => some (.ref a)
 | .type n => some (.ty n)
 | _ => none
theorem RelV.abs {x : V} {u : Value} (r : RelV x u) : absV u = some x := by
 cases x with
 | non => cases r; rfl
 | bl _ => cases r; rfl
 | int _ => obtain ⟨t, rfl⟩ := r; rfl
 | str _ => obtain ⟨t, rfl⟩ := r; rfl
 | byt _ => obtain ⟨t, rfl⟩ := r; rfl
 | flt _ => obtain ⟨t, rfl⟩ := r; rfl
 | ref _ => cases r; rfl
 | ty _ => cases r; rfl
theorem RelV.inj {x y : V} {u : Value} (r : RelV x u) (q : RelV y u) : x = y := zV (r.abs.symm.trans q.abs)
theorem Vals.inj {xs ys : List V} {us : List Value} (h : Vals xs us) (k : Vals ys us) : xs = ys := by
 induction h generalizing ys with
 | nil => cases k; rfl
 | cons r t ih => cases k with
  | cons r' t' => rw [r.inj r', ih t']
section
variable {X : Cx} {pins : List (Addr × Obj)} {σ : St} {H : Hp} {s : Shared} {a : Addr} {xs ys : List V}
theorem SqL.of {K : Fg} (h : H a = some (.lst xs)) : SqL K H a xs := .inl (.inl h)
theorem SqT.of {K : Fg} (h : H a = some (.tup xs)) : SqT K H a xs := .inl (.inl h)
theorem Inv.list (I : Inv X pins σ H s) (h : SqL X.K H a xs) : ∃ its : List Value, Vals xs its /\ PlainL s.heap a its.toArray /\ xs.length <= sizeLine := by
 rcases h with h | ⟨o, its, n, hk, hc, hd, hs, hz, r⟩
 · obtain ⟨z, its, n, r, e⟩ := h.ok I.hok
   exact ⟨its, r, ⟨_, n, e, rfl, rfl, rfl⟩, z⟩
 · refine ⟨its.toList, r, ⟨o, n, I.kIn a o hk, hc, hd, by simpa using hs⟩, ?_⟩
   have e := r.length
   simp only [Q15] at e
   omega
theorem Inv.tuple (I : Inv X pins σ H s) (h : SqT X.K H a xs) : ∃ its : List Value, Vals xs its /\ IsTup s.heap a its.toArray /\ xs.length <= sizeLine := by
 rcases h with h | ⟨o, its, n, hk, hc, hs, hz, r⟩
 · obtain ⟨z, its, r, p, _⟩ := h.ok I.hok
   exact ⟨its, r, p, z⟩
 · refine ⟨its.toList, r, ⟨o, I.kIn a o hk, hc, n, by simpa using hs⟩, ?_⟩
   have e := r.length
   simp only [Q15] at e
   omega
theorem Inv.list_inj (I : Inv X pins σ H s) (h : SqL X.K H a xs) (h' : SqL X.K H a ys) : xs = ys := by
 obtain ⟨its, r, ⟨o, n, e, _, _, d⟩, _⟩ := I.list h
 obtain ⟨its', r', ⟨o', n', e', _, _, d'⟩, _⟩ := I.list h'
 rw [e] at e'; cases e'
 rw [d] at d'
 injection d' with d1 _
 have : its = its' := by simpa using congrArg Array.toList d1
 subst this
 exact r.inj r'
theorem Inv.tuple_inj (I : Inv X pins σ H s) (h : SqT X.K H a xs) (h' : SqT X.K H a ys) : xs = ys := by
 obtain ⟨its, r, ⟨o, e, _, n, d⟩, _⟩ := I.tuple h
 obtain ⟨its', r', ⟨o', e', _, n', d'⟩, _⟩ := I.tuple h'
 rw [e] at e'; cases e'
 rw [d] at d'
 injection d' with d1 _
 have : its = its' := by simpa using congrArg Array.toList d1
 subst this
 exact r.inj r'
end
abbrev Cx.wish (X : Cx) (E : Value -> Shared -> Prop) : Cx := { X with xe := E }
abbrev Cx.nox (X : Cx) : Cx := X.wish λ _ _ => False
theorem Cx.Ok.wish {X : Cx} (ok : X.Ok) (E : Value -> Shared -> Prop) : (X.wish E).Ok :=
 ⟨ok.mod, ok.kind, ok.glob, ok.blt, ok.above, ok.inj, ok.has, ok.cab, ok.hd, ok.frames, ok.stk, ok.exf, ok.bs, ok.bsz, ok.noex, ok.exfs, ok.funs, ok.frf⟩
theorem Cx.Ok.unwish {X : Cx} {E : Value -> Shared -> Prop} (ok : (X.wish E).Ok) : X.Ok :=
 ⟨ok.mod, ok.kind, ok.glob, ok.blt, ok.above, ok.inj, ok.has, ok.cab, ok.hd, ok.frames, ok.stk, ok.exf, ok.bs, ok.bsz, ok.noex, ok.exfs, ok.funs, ok.frf⟩
section
variable {X : Cx} {pins : List (Addr × Obj)} {σ : St} {H : Hp} {s : Shared} {E : Value -> Shared -> Prop}
theorem Inv.wish (I : Inv X pins σ H s) (E : Value -> Shared -> Prop) : Inv (X.wish E) pins σ H s := ⟨I.ok.wish E, I.os, I.bare, I.base, I.loc, I.cell, I.free, I.freeC, I.pin, I.hok, I.len⟩
theorem Inv.unwish (I : Inv (X.wish E) pins σ H s) : Inv X pins σ H s := ⟨I.ok.unwish, I.os, I.bare, I.base, I.loc, I.cell, I.free, I.freeC, I.pin, I.hok, I.len⟩
theorem SP.unwish {D : Ends} {f : Flow} {s' : Shared} (h : SP (X.wish E) pins D f s') : SP X pins D f s' := by
 cases f with
 | next => obtain ⟨σ', H', I, q⟩ := h; exact ⟨σ', H', I.unwish, q⟩
 | brk => obtain ⟨σ', H', I, q⟩ := h; exact ⟨σ', H', I.unwish, q⟩
 | cont => obtain ⟨σ', H', I, q⟩ := h; exact ⟨σ', H', I.unwish, q⟩
 | ret u => obtain ⟨v, σ', H', I, r, q⟩ := h; exact ⟨v, σ', H', I.unwish, r, q⟩
theorem PSs.nox {st : List Stmt} {t : TS} (h : PSs X.nox st t) : PSs X st t := λ pins s σ H D I hw =>
 wpAny_mono (h pins s σ H D (I.wish _) hw) (λ _ _ q => q.unwish) λ _ _ z => False.elim z
end
section
variable {X : Cx} {st : Stmt} {rest : List Stmt} {t u : TS} {e : Expr} {te : TE} {pos : Pos}
def tNext : TS := λ D σ H => D.nx σ H
def tSeq (t u : TS) : TS := λ D σ H => t { D with nx := u D } σ H
theorem pss_nil : PSs X [] tNext := λ _ _ σ H _ I h => wpAny_execs_nil ⟨σ, H, I, h⟩
theorem pss_cons (h1 : PS X st t) (h2 : PSs X rest u) : PSs X (st :: rest) (tSeq t u) := by
 intro pins s σ H D I h
 refine wpAny_execs_cons (thn (h1 pins s σ H { D with nx := u D } I h) λ f s1 q => ?_)
 cases f with
 | next =>
  obtain ⟨σ', H', I', q⟩ := q
  exact h2 pins s1 σ' H' D I' q
 | ret v => exact q
 | brk => exact q
 | cont => exact q
theorem pss_one (h1 : PS X st t) : PSs X [st] t := by
 intro pins s σ H D I h
 refine wpAny_execs_cons (thn (h1 pins s σ H D I h) λ f s1 q => ?_)
 cases f with
 | next => exact wpAny_execs_nil q
 | ret v => exact q
 | brk => exact q
 | cont => exact q
theorem Inv.quiet {pins : List (Addr × Obj)} {σ : St} {H : Hp} {s : Shared} (I : Inv X pins σ H s) : interactive X.env = false := by simp [interactive, I.ok.kind]
def tDrop (te : TE) : TS := λ D σ H => te σ H λ _ H1 => D.nx σ H1
theorem ps_expr (he : PE X e te) (hs : swapsWith e none pos.line X.env = pure false := by rfl) : PS X (.Expr e pos) (tDrop te) := by
 intro pins s σ H D I h
 exact wpAny_Expr_any (thn (he pins s σ H _ I h) λ v s1 q_ => by obtain ⟨x, H1, I1, r1, q1⟩ := q_; exact ⟨σ, H1, I1, q1⟩) I.quiet hs
def tRet (te : TE) : TS := λ D σ H => te σ H D.rt
theorem ps_ret (he : PE X e te) : PS X (.Return (some e) pos) (tRet te) := by
 intro pins s σ H D I h
 exact wpAny_Return_some (thn (he pins s σ H _ I h) λ v s1 q_ => by obtain ⟨x, H1, I1, r1, q1⟩ := q_; exact ⟨x, σ, H1, I1, r1, q1⟩)
def tIfS (c : TT) (t u : TS) : TS := λ D σ H => c σ H λ b H1 => if b = true then t D σ H1 else u D σ H1
theorem ps_if {c : Expr} {a b : List Stmt} {tc : TT} (hc : PT X c tc) (ha : PSs X a t) (hb : PSs X b u) : PS X (.If c a b pos) (tIfS tc t u) := by
 intro pins s σ H D I h
 refine wpAny_If (thn (hc pins s σ H _ I h) λ d s1 q_ => ?_)
 obtain ⟨H1, I1, q1⟩ := q_
 cases d with
 | true => exact ha pins s1 σ H1 D I1 q1
 | false => exact hb pins s1 σ H1 D I1 q1
def tNever : TS := λ _ _ _ => False
theorem ps_never : PS X st tNever := λ _ _ _ _ _ _ h => h.elim
end
noncomputable abbrev TG := V -> St -> Hp -> (St -> Hp -> Prop) -> Prop
noncomputable abbrev TGs := List V -> St -> Hp -> (St -> Hp -> Prop) -> Prop
def PG (X : Cx) (target : Expr) (t : TG) : Prop :=
 ∀ (pins : List (Addr × Obj)) (s : Shared) (σ : St) (H : Hp) (v : V) (u : Value) (Q : St -> Hp -> Prop), Inv X pins σ H s -> RelV v u -> t v σ H Q ->
  wpAny (model X.prog X.w) X.A (assign target X.env u) (λ _ s' => ∃ σ' H', Inv X pins σ' H' s' /\ Q σ' H') X.xe s
def PGs (X : Cx) (ts : List Expr) (t : TGs) : Prop :=
 ∀ (pins : List (Addr × Obj)) (s : Shared) (σ : St) (H : Hp) (vs : List V) (us : List Value) (Q : St -> Hp -> Prop), Inv X pins σ H s -> Vals vs us -> t vs σ H Q ->
  wpAny (model X.prog X.w) X.A (assignInOrder ((assignEach ts X.env).map (·.2)) us) (λ _ s' => ∃ σ' H', Inv X pins σ' H' s' /\ Q σ' H') X.xe s
noncomputable abbrev TIp := V -> V -> Hp -> VK -> Prop
def PIp (X : Cx) (op : Operator) (t : TIp) : Prop :=
 ∀ (pins : List (Addr × Obj)) (s : Shared) (σ : St) (H : Hp) (x y : V) (v u : Value) (Q : VK), Inv X pins σ H s -> RelV x v -> RelV y u -> t x y H Q ->
  wpAny (model X.prog X.w) X.A (inplaceOp op v u) (EP X pins σ Q) X.xe s
section
variable {X : Cx} {pos : Pos}
def gName (i : Nat) : TG := λ v σ H Q => Q (σ.set i (some v)) H
theorem pg_name {i : Nat} {x : Str} (hN : X.N.Nodup) (hi : X.N[i]? = some x) (hx : Loc X.env.scope x) (hf : X.fn x = true \/ X.env.scope.names.lookup x = some .local := by first | exact .inl rfl | exact .inr rfl | assumption) : PG X (.Name x pos) (gName i) := by
 intro pins s σ H v u Q I r h
 exact wpAny_assign_Name (store_ok I hN hi hx r (λ s' I' => ⟨_, H, I', h⟩) hf)
def gNil : TGs := λ vs σ H Q => vs = [] /\ Q σ H
def gCons (t : TG) (u : TGs) : TGs := λ vs σ H Q => ∃ v r, vs = v :: r /\ t v σ H λ σ' H' => u r σ' H' Q
theorem pgs_nil : PGs X [] gNil := by
 intro pins s σ H vs us Q I r h
 obtain ⟨e, h⟩ := h
 subst e
 cases r
 exact assignInOrder_nil ⟨σ, H, I, h⟩
theorem pgs_cons {e : Expr} {es : List Expr} {t : TG} {u : TGs} (h1 : PG X e t) (h2 : PGs X es u)
 (hs : (assignEach (e :: es) X.env).map (·.2) = assign e X.env :: (assignEach es X.env).map (·.2) := by rfl) : PGs X (e :: es) (gCons t u) := by
 intro pins s σ H vs us Q I r h
 obtain ⟨v, vr, e1, h⟩ := h
 subst e1
 cases r with
 | cons r rr =>
  rw [hs]
  refine assignInOrder_cons (thn (h1 pins s σ H _ _ _ I r h) λ _ s1 q_ => ?_)
  obtain ⟨σ1, H1, I1, q1⟩ := q_
  exact h2 pins s1 σ1 H1 _ _ Q I1 rr q1
def gTup (K : Fg) (n : Nat) (t : TGs) : TG := λ v σ H Q => ∃ a xs, v = .ref a /\ SqT K H a xs /\ xs.length = n /\ t xs σ H Q
theorem pg_tup {es : List Expr} {k : Nat} {t : TGs} {n : Nat} (hc : X.calm = true) (h : PGs X es t)
 (hn : (assignEach es X.env).length = n := by rfl) (hst : (assignEach es X.env).findIdx? (·.1) = none := by rfl) : PG X (.Tuple es k pos) (gTup X.K n t) := by
 intro pins s σ H v u Q I r hw
 obtain ⟨a, xs, e1, hq, hl, hw⟩ := hw
 subst e1
 cases r
 obtain ⟨its, rv, ht, hz⟩ := I.tuple hq
 refine assign_Tuple_tuple (I.ok.hd hc) ht (by simp [hn, <- hl, rv.length]) hst λ h' hx => ?_
 have I1 : Inv X pins σ H { s with heap := h' } := I.kept (t' := s.toks) λ b o e => hx b o (nNl (hLs e)) e
 exact h pins _ σ H xs _ Q I1 (by simpa using rv) hw
def tAsg (te : TE) (g : TG) : TS := λ D σ H => te σ H λ x H1 => g x σ H1 D.nx
theorem ps_set {i : Nat} {x : Str} {e : Expr} {te : TE} {pos' : Pos} (hN : X.N.Nodup) (hi : X.N[i]? = some x) (hx : Loc X.env.scope x) (he : PE X e te) (hs : swapsWith e (some (.Name x pos')) pos.line X.env = pure false := by rfl) (hf : X.fn x = true \/ X.env.scope.names.lookup x = some .local := by first | exact .inl rfl | exact .inr rfl | assumption) :
 PS X (.Assign [.Name x pos'] e pos) (tAsg te (gName i)) := by
 intro pins s σ H D I h
 refine wpAny_Assign_Name (thn (he pins s σ H _ I h) λ v s1 q_ => ?_) hs
 obtain ⟨y, H1, I1, r1, q1⟩ := q_
 exact store_ok I1 hN hi hx r1 (λ s2 I2 => ⟨_, H1, I2, q1⟩) hf
def tAug (i : Nat) (te : TE) (ti : TIp) : TS := λ D σ H => ∃ x, σ[i]? = some (some x) /\ te σ H λ y H1 => ti x y H1 λ z H2 => D.nx (σ.set i (some z)) H2
theorem ps_aug {i : Nat} {x : Str} {e : Expr} {te : TE} {op : Operator} {ti : TIp} {pos' : Pos} (hN : X.N.Nodup) (hi : X.N[i]? = some x) (hx : Loc X.env.scope x) (he : PE X e te) (ho : PIp X op ti) (hf : X.fn x = true \/ X.env.scope.names.lookup x = some .local := by first | exact .inl rfl | exact .inr rfl | assumption) :
 PS X (.AugAssign (.Name x pos') op e pos) (tAug i te ti) := by
 intro pins s σ H D I h
 obtain ⟨v, e1, h⟩ := h
 obtain ⟨m, hn, hl⟩ := I.loc
 have vis : Vis X.env.scope x := by rcases hx with k | k; exact .inl k; exact .inr (.inl k)
 obtain ⟨u, r, l⟩ := hl i x v hi e1 vis
 refine wpAny_AugAssign_Name ?_
 have go : wpAny (model X.prog X.w) X.A (eval e X.env) (λ w s₂ => wpAny (model X.prog X.w) X.A (inplaceOp op u w) (λ r s₃ => wpAny (model X.prog X.w) X.A (storeName X.env x r) (λ _ => SP X pins D .next) X.xe s₃) X.xe s₂) X.xe s := by
  refine thn (he pins s σ H _ I h) λ w s1 q_ => ?_
  obtain ⟨y, H1, I1, r1, q1⟩ := q_
  refine thn (ho pins s1 σ H1 v y u w _ I1 r r1 q1) λ z s2 q_ => ?_
  obtain ⟨zv, H2, I2, r2, q2⟩ := q_
  exact store_ok I2 hN hi hx r2 (λ s3 I3 => ⟨_, H2, I3, q2⟩) hf
 rcases l with ⟨hk, hm⟩ | ⟨hk, c, hc, hcell⟩
 · exact wpAny_loadName_local I.ok.kind hk hn hm go
 · rcases hk with hk | hk
   · exact wpAny_loadName_cell I.ok.kind hk hc hcell go
   · rcases hx with k | k
     · have : X.env.scope.names.lookup x = some .free := hk
       rw [k] at this; cases this
     · have : X.env.scope.names.lookup x = some .free := hk
       rw [k] at this; cases this
end
section
variable {X : Cx} {pos : Pos}
def tWhile (c : TT) (tb : TS) : TS := λ D σ H => ∃ W : Nat -> St -> Hp -> Prop, (∃ m, W m σ H) /\ ∀ m σ H, W m σ H ->
 c σ H λ b H1 => if b = true then ∃ N : St -> Hp -> Prop, (∀ σ' H', N σ' H' -> ∃ m', m' < m /\ W m' σ' H') /\ tb { D with nx := N, ct := N, bk := D.nx } σ H1 else D.nx σ H1
theorem ps_while {c : Expr} {body : List Stmt} {tc : TT} {tb : TS} (hp : PassesOwn (model X.prog X.w) X.A X.env X.xe) (hc : PT X c tc) (hb : PSs X body tb) : PS X (.While c body [] pos) (tWhile tc tb) := by
 intro pins s σ H D I h
 obtain ⟨W, ⟨m0, w0⟩, turn⟩ := h
 refine wpAny_While (codeAny_whileLoop (λ n s' => ∃ σ' H', Inv X pins σ' H' s' /\ W n σ' H') ?_ m0 ⟨σ, H, I, w0⟩)
 rintro n s1 ⟨σ1, H1, I1, w1⟩
 refine wpAny_passesOwn hp (thn (hc pins s1 σ1 H1 _ I1 (turn n σ1 H1 w1)) λ b s2 q_ => ?_)
 obtain ⟨H2, I2, q2⟩ := q_
 cases b with
 | true =>
  obtain ⟨N, hN, q2⟩ := q2
  rw [if_pos rfl]
  refine wpAny_passesOwn hp (thn (hb pins s2 σ1 H2 _ I2 q2) λ f s3 q3 => ?_)
  cases f with
  | next =>
   obtain ⟨σ3, H3, I3, n3⟩ := q3
   obtain ⟨m', hm, w3⟩ := hN σ3 H3 n3
   exact ⟨m', hm, σ3, H3, I3, w3⟩
  | cont =>
   obtain ⟨σ3, H3, I3, n3⟩ := q3
   obtain ⟨m', hm, w3⟩ := hN σ3 H3 n3
   exact ⟨m', hm, σ3, H3, I3, w3⟩
  | brk => exact q3
  | ret v => exact q3
 | false =>
  rw [if_neg Qe]
  exact wpAny_execs_nil ⟨σ1, H2, I2, q2⟩
end
structure It where
 go : Nat -> Hp -> Prop
 yld : Nat -> Hp -> V -> Hp -> Prop
 stop : Nat -> Hp -> Prop
def FpOk (X : Cx) (pins : List (Addr × Obj)) (H : Hp) (b : Addr) : Prop :=
 H b = none /\ b ≠ X.env.locals /\ b ∉ X.fs /\ (b ∈ X.ex \/ X.s₀.heap.objs.size <= b) /\ (∀ x c, X.env.cells.lookup x = some c -> c ≠ b) /\ ∀ p ∈ X.pn ++ pins, p.1 ≠ b
theorem Inv.fpOk {X : Cx} {pins : List (Addr × Obj)} {σ : St} {H H' : Hp} {s : Shared} {b : Addr} (I : Inv X pins σ H s) (hb : s.heap.objs.size <= b) (hn : H' b = none) : FpOk X pins H' b := by
 refine ⟨hn, nNg (nLl I.lt hb), I.nofs hb, .inr (Q9 I.sz hb), λ x c e z => ?_, λ p hp z => ?_⟩
 · obtain ⟨v, q⟩ := I.cell x c e
   exact absurd (nLl q.lt (by rw [z]; exact hb)) (zT _)
 · exact absurd (nLl (hLs (I.pin p hp).1) (by rw [z]; exact hb)) (zT _)
structure Turn (P : Program) (w : World) (K : Fg) (tg : Expr) (J : It) (fp : List Addr) (it : Addr) (tn : Nat -> Heap -> Prop) : Prop where
 mem : it ∈ fp
 obj : ∀ i h, tn i h -> ∀ b ∈ fp, ∃ o, h.get? b = some o /\ ∀ v, o.data ≠ .cell v
 keep : ∀ i h h', tn i h -> (∀ b ∈ fp, ∀ o, h.get? b = some o -> h'.get? b = some o) -> tn i h'
 item : ∀ (X : Cx), X.prog = P -> X.w = w -> X.K = K -> X.calm = true -> ∀ (i : Nat) (pins : List (Addr × Obj)) (s : Shared) (σ : St) (H : Hp) (E : Value -> Shared -> Prop), Inv X pins σ H s -> (∀ b ∈ fp, FpOk X pins H b) -> tn i s.heap -> J.go i H ->
  wpAny (model P w) X.A (pyNext (.ref it)) (λ r s1 => ∃ u, r = some u /\
   wpAny (model P w) X.A (letOwnedTupleGo tg (.ref it) u) (λ _ s2 => ∃ x H', Inv X pins σ H' s2 /\ RelV x u /\ J.yld i H x H' /\ tn (i + 1) s2.heap /\ ∀ b ∈ fp, H' b = none) E s1) E s
 done : ∀ (X : Cx), X.prog = P -> X.w = w -> X.K = K -> X.calm = true -> ∀ (i : Nat) (pins : List (Addr × Obj)) (s : Shared) (σ : St) (H : Hp) (E : Value -> Shared -> Prop), Inv X pins σ H s -> (∀ b ∈ fp, FpOk X pins H b) -> tn i s.heap -> J.stop i H ->
  wpAny (model P w) X.A (pyNext (.ref it)) (λ r s1 => r = none /\ Inv X pins σ H s1) E s
 self : ∀ (A : Around) (i : Nat) (s : Shared) (Q : Value -> Shared -> Prop) (E : Value -> Shared -> Prop), tn i s.heap -> Q (.ref it) s -> wpAny (model P w) A (pyIter (.ref it)) Q E s
noncomputable abbrev TI := St -> Hp -> (It -> Hp -> Prop) -> Prop
def PIE (X : Cx) (pins : List (Addr × Obj)) (σ : St) (tg : Expr) (R : It -> Hp -> Prop) (itv : Value) (s2 : Shared) : Prop :=
 ∃ (it : Addr) (fp : List Addr) (tn : Nat -> Heap -> Prop) (J : It) (H' : Hp), itv = .ref it /\ Inv X pins σ H' s2 /\ Turn X.prog X.w X.K tg J fp it tn /\ tn 0 s2.heap /\ (∀ b ∈ fp, FpOk X pins H' b) /\ R J H'
def PI (X : Cx) (tg iter : Expr) (wi : TI) : Prop :=
 ∀ (pins : List (Addr × Obj)) (s : Shared) (σ : St) (H : Hp) (R : It -> Hp -> Prop), Inv X pins σ H s -> wi σ H R ->
  wpAny (model X.prog X.w) X.A (eval iter X.env) (λ v s1 => wpAny (model X.prog X.w) X.A (pyIter v) (PIE X pins σ tg R) X.xe s1) X.xe s
theorem go_of {M : Model} {A : Around} {E : Value -> Shared -> Prop} {s : Shared} {tg : Expr} {it : Addr} {u : Value} {o : Obj} {n : String} {vs : Array Value} {Q : Unit -> Shared -> Prop} (ho : s.heap.get? it = some o) (hc : o.cls = .type n) (hd : o.data = .fields vs)
 (hn : ["enumerate", "zip", "dict_itemiterator", "dict_reverseitemiterator", "odict_iterator", "itertools.zip_longest", "itertools.pairwise"].contains n = false) (hQ : Q () s) : wpAny M A (letOwnedTupleGo tg (.ref it) u) Q E s := by
 unfold letOwnedTupleGo
 cases tg <;> first
  | exact wP hQ
  | (cases u <;> first
   | exact wP hQ
   | (refine wB (wpAny_load ho ?_)
      rw [hc, hd]
      show wpAny M A (if (["enumerate", "zip", "dict_itemiterator", "dict_reverseitemiterator", "odict_iterator", "itertools.zip_longest", "itertools.pairwise"].contains n && vs[0]? == some (rawInt _)) = true then _ else _) Q E s
      rw [if_neg (by intro h; rw [hn, Bool.false_and] at h; cases h)]
      exact wP hQ))
def Itl (K : Fg) (a : Addr) : It :=
 ⟨λ i H => ∃ xs x, SqL K H a xs /\ xs[i]? = some x, λ i H x H' => H' = H /\ ∀ xs, SqL K H a xs -> xs[i]? = some x, λ i H => ∃ xs, SqL K H a xs /\ xs.length <= i⟩
def Itt (K : Fg) (a : Addr) : It :=
 ⟨λ i H => ∃ xs x, SqT K H a xs /\ xs[i]? = some x, λ i H x H' => H' = H /\ ∀ xs, SqT K H a xs -> xs[i]? = some x, λ i H => ∃ xs, SqT K H a xs /\ xs.length <= i⟩
def Itr (lo : Int) (n : Nat) : It := ⟨λ i _ => i < n, λ i H x H' => H' = H /\ x = .int (lo + i), λ i _ => n <= i⟩
theorem turn_list {P : Program} {w : World} {K : Fg} {tg : Expr} (a it : Addr) : Turn P w K tg (Itl K a) [it] it (λ i h => h.IsListIter it a i) where
 mem := by simp
 obj := λ i h st b hb => by
  have e : b = it := by simpa using hb
  subst e
  obtain ⟨o, e, c, d⟩ := st
  exact ⟨o, e, λ v z => by rw [d] at z; cases z⟩
 keep := λ i h h' st k => st.at λ o e => k it (by simp) o e
 item := by
  intro X hP hw hK hc i pins s σ H E I hf st hg
  subst hP hw hK
  obtain ⟨xs, x, hq, hx⟩ := hg
  obtain ⟨its, rv, p, hz⟩ := I.list hq
  obtain ⟨u, hu, ru⟩ := rv.get hx
  obtain ⟨f0, f1, f2, f3, f4, f5⟩ := hf it (by simp)
  refine wpAny_pyNext_list_item st p.isList (x := u) (by simpa using hu) λ h' st' sb => ?_
  have I1 : Inv X pins σ H { s with heap := h' } := I.turned (t' := s.toks) (λ b o hb e => (sb.2 b hb).trans e) f0 f1 f3 f4 f5
  obtain ⟨o, e, c, d⟩ := id st'
  exact ⟨u, rfl, go_of (s := { s with heap := h' }) e c d (by decide) ⟨x, H, I1, ru, ⟨rfl, λ ys hy => by rw [I.list_inj hy hq]; exact hx⟩, st', λ b hb => (hf b hb).1⟩⟩
 done := by
  intro X hP hw hK hc i pins s σ H E I hf st hg
  subst hP hw hK
  obtain ⟨xs, hq, hx⟩ := hg
  obtain ⟨its, rv, p, hz⟩ := I.list hq
  obtain ⟨f0, f1, f2, f3, f4, f5⟩ := hf it (by simp)
  have hl := rv.length
  exact wpAny_pyNext_list_end (I.ok.hd hc) st p.isList (by simp; omega) λ h' eb => ⟨rfl, I.turned (t' := s.toks) (λ b o hb e => eb b o hb e) f0 f1 f3 f4 f5⟩
 self := λ _ _ _ _ _ st h => wpAny_pyIter_listiter st h
theorem turn_tuple {P : Program} {w : World} {K : Fg} {tg : Expr} (a it : Addr) : Turn P w K tg (Itt K a) [it] it (λ i h => h.IsTupleIter it a i) where
 mem := by simp
 obj := λ i h st b hb => by
  have e : b = it := by simpa using hb
  subst e
  obtain ⟨o, e, c, d⟩ := st
  exact ⟨o, e, λ v z => by rw [d] at z; cases z⟩
 keep := λ i h h' st k => st.at λ o e => k it (by simp) o e
 item := by
  intro X hP hw hK hc i pins s σ H E I hf st hg
  subst hP hw hK
  obtain ⟨xs, x, hq, hx⟩ := hg
  obtain ⟨its, rv, p, hz⟩ := I.tuple hq
  obtain ⟨u, hu, ru⟩ := rv.get hx
  obtain ⟨f0, f1, f2, f3, f4, f5⟩ := hf it (by simp)
  refine wpAny_pyNext_tuple_item st (show s.heap.IsTuple a its.toArray from p) (x := u) (by simpa using hu) λ h' st' sb => ?_
  have I1 : Inv X pins σ H { s with heap := h' } := I.turned (t' := s.toks) (λ b o hb e => (sb.2 b hb).trans e) f0 f1 f3 f4 f5
  obtain ⟨o, e, c, d⟩ := id st'
  exact ⟨u, rfl, go_of (s := { s with heap := h' }) e c d (by decide) ⟨x, H, I1, ru, ⟨rfl, λ ys hy => by rw [I.tuple_inj hy hq]; exact hx⟩, st', λ b hb => (hf b hb).1⟩⟩
 done := by
  intro X hP hw hK hc i pins s σ H E I hf st hg
  subst hP hw hK
  obtain ⟨xs, hq, hx⟩ := hg
  obtain ⟨its, rv, p, hz⟩ := I.tuple hq
  obtain ⟨f0, f1, f2, f3, f4, f5⟩ := hf it (by simp)
  have hl := rv.length
  exact wpAny_pyNext_tuple_end (I.ok.hd hc) st (show s.heap.IsTuple a its.toArray from p) (by simp; omega) λ h' eb => ⟨rfl, I.turned (t' := s.toks) (λ b o hb e => eb b o hb e) f0 f1 f3 f4 f5⟩
 self := λ _ _ _ _ _ st h => wpAny_pyIter_tupleiter st h
theorem turn_range {P : Program} {w : World} {K : Fg} {tg : Expr} (it : Addr) (lo : Int) (n : Nat) : Turn P w K tg (Itr lo n) [it] it (λ i h => IsRangeIter h it (lo + (i : Nat) * 1) ((n : Int) - (i : Nat)) 1) where
 mem := by simp
 obj := λ i h st b hb => by
  have e : b = it := by simpa using hb
  subst e
  exact ⟨_, st, λ v z => by
   have z' : Data.fields _ = Data.cell v := z
   cases z'⟩
 keep := λ i h h' st k => k it (by simp) _ st
 item := by
  intro X hP hw hK hc i pins s σ H E I hf st hg
  subst hP hw hK
  obtain ⟨f0, f1, f2, f3, f4, f5⟩ := hf it (by simp)
  have W := Walks.range (prog := X.prog) (w := X.w) (I.ok.hd hc) it lo 1 n
  refine W.item i s _ _ hg st λ v h' tk hv st' kk => ?_
  obtain ⟨t, rfl⟩ := hv
  have I1 : Inv X pins σ H { s with heap := h', toks := tk } := I.turned (λ b o hb e => kk b o (by simpa using hb) e) f0 f1 f3 f4 f5
  refine ⟨_, rfl, go_of (s := { s with heap := h', toks := tk }) (n := "range_iterator") st' rfl rfl (by decide) ⟨.int (lo + i), H, I1, ⟨t, ?_⟩, ⟨rfl, rfl⟩, st', λ b hb => (hf b hb).1⟩⟩
  rw [Int.mul_one]
 done := by
  intro X hP hw hK hc i pins s σ H E I hf st hg
  subst hP hw hK
  obtain ⟨f0, f1, f2, f3, f4, f5⟩ := hf it (by simp)
  exact wpAny_pyNext_range_end (I.ok.hd hc) st (by have : n <= i := hg; omega) λ h' eb => ⟨rfl, I.turned (t' := s.toks) (λ b o hb e => eb b o hb e) f0 f1 f3 f4 f5⟩
 self := λ _ _ _ _ _ st h => wpAny_pyIter_rangeiter st h
section
variable {X : Cx} {tg : Expr}
theorem range_it {pins : List (Addr × Obj)} {σ : St} {H : Hp} {s : Shared} {R : It -> Hp -> Prop} {E : Value -> Shared -> Prop} {lo hi : Int} {t u v : Tok} {tk : Nat} (I : Inv X pins σ H s) (h1 : -(2 ^ 62) <= lo) (h2 : lo < 2 ^ 62) (h3 : -(2 ^ 62) <= hi) (h4 : hi < 2 ^ 62)
 (q : R (Itr lo (hi - lo).toNat) H) : wpAny (model X.prog X.w) X.A (pyIter (.ref s.heap.objs.size)) (PIE X pins σ tg R) E { s with heap := s.heap.push { cls := .type "range", data := .fields #[.int lo t, .int hi u, .int 1 v] }, toks := tk } := by
 refine wpAny_pyIter_range (IsRange.new ..) (small_one h1 h2 h3 h4) ?_
 have I1 : Inv X pins σ H { s with heap := s.heap.push { cls := .type "range", data := .fields #[.int lo t, .int hi u, .int 1 v] }, toks := tk } := I.kept λ b o e => hPo _ e
 refine ⟨(s.heap.push { cls := .type "range", data := .fields #[.int lo t, .int hi u, .int 1 v] }).objs.size, [(s.heap.push { cls := .type "range", data := .fields #[.int lo t, .int hi u, .int 1 v] }).objs.size], _, _, H, rfl,
  I1.kept (t' := tk) λ b o e => hPo _ e, turn_range _ lo (hi - lo).toNat, ?_, λ b hb => ?_, q⟩
 · have e1 : lo + ((0 : Nat) : Int) * 1 = lo := by simp
   have e2 : (((hi - lo).toNat : Nat) : Int) - ((0 : Nat) : Int) = Builtin.Range.rangeSize lo hi 1 := by rw [rangeSize_one]; split <;> omega
   show IsRangeIter _ _ (lo + ((0 : Nat) : Int) * 1) ((((hi - lo).toNat : Nat) : Int) - ((0 : Nat) : Int)) 1
   rw [e1, e2]
   exact hPs _ rfl
 · have e : b = (s.heap.push { cls := .type "range", data := .fields #[.int lo t, .int hi u, .int 1 v] }).objs.size := by simpa using hb
   subst e
   exact I1.fpOk (Q1 _) (I1.hok.fresh (Q1 _))
def iRng1 (ta : TA) : TI := λ σ H R => ta σ H λ vs H1 => ∃ j : Int, vs = [.int j] /\ -(2 ^ 62) <= j /\ j < 2 ^ 62 /\ R (Itr 0 j.toNat) H1
def iRng2 (ta : TA) : TI := λ σ H R => ta σ H λ vs H1 => ∃ i j : Int, vs = [.int i, .int j] /\ (-(2 ^ 62) <= i /\ i < 2 ^ 62 /\ -(2 ^ 62) <= j /\ j < 2 ^ 62) /\ R (Itr i (j - i).toNat) H1
theorem pi_range1 {a : Expr} {ta : TA} {p pos : Pos} (hg : Gl X "range") (hm : X.mg "range" = none) (ha : PA X [a] ta) (hs : starEach [a] X.env = [(false, eval a X.env)] := by rfl) : PI X tg (.Call (.Name "range" p) [a] [] pos) (iRng1 ta) := by
 intro pins s σ H R I h
 refine Call_ (ld_blt I hg hm boot_range (PyProof.Rows.callWith_type1 (thn (ha pos pins s σ H _ I h) λ us s1 q_ => ?_) hs rfl))
 obtain ⟨vs, H1, I1, r1, q1⟩ := q_
 obtain ⟨j, e, q1, q2, q⟩ := q1
 subst e
 cases r1 with
 | cons r rr =>
  cases rr
  obtain ⟨t, rfl⟩ := r
  exact call_range_1 (range_it I1 (by omega) (by omega) q1 q2 (by simpa using q))
theorem pi_range2 {a b : Expr} {ta : TA} {p pos : Pos} (hg : Gl X "range") (hm : X.mg "range" = none) (ha : PA X [a, b] ta) (hs : starEach [a, b] X.env = [(false, eval a X.env), (false, eval b X.env)] := by rfl) (hs2 : starEach [b] X.env = [(false, eval b X.env)] := by rfl) :
 PI X tg (.Call (.Name "range" p) [a, b] [] pos) (iRng2 ta) := by
 intro pins s σ H R I h
 refine Call_ (ld_blt I hg hm boot_range (PyProof.Rows.callWith_type1 (thn (ha pos pins s σ H _ I h) λ us s1 q_ => ?_) (by rw [hs, hs2]) (by rw [hs2]; rfl)))
 obtain ⟨vs, H1, I1, r1, q1⟩ := q_
 obtain ⟨i, j, e, ⟨q1, q2, q3, q4⟩, q⟩ := q1
 subst e
 cases r1 with
 | cons r rr =>
  cases rr with
  | cons r' rr =>
   cases rr
   obtain ⟨t, rfl⟩ := r
   obtain ⟨t', rfl⟩ := r'
   exact call_range_2 (range_it I1 q1 q2 q3 q4 q)
def tFor (wi : TI) (g : TG) (tb : TS) : TS := λ D σ H => wi σ H λ J H1 => ∃ W : Nat -> Nat -> St -> Hp -> Prop, (∃ m, W 0 m σ H1) /\ ∀ i m σ H, W i m σ H ->
 (J.stop i H /\ D.nx σ H) \/ (J.go i H /\ ∃ N : St -> Hp -> Prop, (∀ σ' H', N σ' H' -> ∃ m', m' < m /\ W (i + 1) m' σ' H') /\ ∀ x H', J.yld i H x H' -> g x σ H' λ σ2 H2 => tb { D with nx := N, ct := N, bk := D.nx } σ2 H2)
noncomputable def pinsAt (fp : List Addr) (h : Heap) : List (Addr × Obj) := fp.filterMap λ b => (h.get? b).map λ o => (b, o)
theorem mem_pinsAt {fp : List Addr} {h : Heap} {b : Addr} {o : Obj} (hb : b ∈ fp) (e : h.get? b = some o) : (b, o) ∈ pinsAt fp h := List.mem_filterMap.mpr ⟨b, hb, by rw [e]; rfl⟩
theorem of_pinsAt {fp : List Addr} {h : Heap} {p : Addr × Obj} (hp : p ∈ pinsAt fp h) : p.1 ∈ fp /\ h.get? p.1 = some p.2 := by
 obtain ⟨b, hb, e⟩ := List.mem_filterMap.mp hp
 cases q : h.get? b with
 | none => rw [q] at e; cases e
 | some o =>
  rw [q] at e
  have e' : (b, o) = p := zV e
  subst e'
  exact ⟨hb, q⟩
theorem Inv.pinned {pins : List (Addr × Obj)} {σ : St} {H : Hp} {s : Shared} {fp : List Addr} (I : Inv X pins σ H s) (hf : ∀ b ∈ fp, FpOk X pins H b) (ho : ∀ b ∈ fp, ∃ o, s.heap.get? b = some o /\ ∀ v, o.data ≠ .cell v) : Inv X (pins ++ pinsAt fp s.heap) σ H s :=
 I.pins_of λ p hp => (Q25.mp hp).elim (λ z => I.pin p (Q14 _ z)) λ z => by
  obtain ⟨hb, e⟩ := of_pinsAt z
  obtain ⟨f0, f1, f2, _⟩ := hf p.1 hb
  obtain ⟨o, e', d⟩ := ho p.1 hb
  rw [e] at e'; cases e'
  exact ⟨e, f0, f1, f2, d⟩
theorem Inv.unpinned {pins pl : List (Addr × Obj)} {σ : St} {H : Hp} {s : Shared} (I : Inv X (pins ++ pl) σ H s) : Inv X pins σ H s := I.pins_of λ p hp => I.pin p (Q14 _ (List.mem_append_left _ hp))
theorem ps_for {iter : Expr} {body : List Stmt} {wi : TI} {g : TG} {tb : TS} {pos : Pos} (hp : PassesOwn (model X.prog X.w) X.A X.env X.xe) (hc : X.calm = true) (hi : PI X tg iter wi) (hg : PG X tg g) (hb : PSs X body tb)
 (hs : ∀ x, foldedSetIterable iter X.env x = pure x := by intro _; rfl) : PS X (.For tg iter body [] pos) (tFor wi g tb) := by
 intro pins s σ H D I h
 refine wpAny_For (thn (hi pins s σ H _ I h) λ v s1 h1 => thn h1 λ itv s2 h2 => ?_) hs
 obtain ⟨it, fp, tn, J, H2, e, I2, T, st2, f2, W, ⟨m0, w0⟩, turn⟩ := h2
 subst e
 have stat : ∀ {H' : Hp}, (∀ b ∈ fp, H' b = none) -> ∀ b ∈ fp, FpOk X pins H' b := λ hn b hb => ⟨hn b hb, (f2 b hb).2⟩
 refine codeAny_forLoop_any (λ n s' => ∃ i σ' H', Inv X pins σ' H' s' /\ tn i s'.heap /\ (∀ b ∈ fp, H' b = none) /\ W i n σ' H') ?_ m0 ⟨0, σ, H2, I2, st2, λ b hb => (f2 b hb).1, w0⟩
 rintro n s3 ⟨i, σ3, H3, I3, st3, fr3, w3⟩
 rcases turn i n σ3 H3 w3 with ⟨stop, qn⟩ | ⟨go, N, hN, step⟩
 · refine wpAny_passesOwn hp (thn (T.done X rfl rfl rfl hc i pins s3 σ3 H3 X.xe I3 (stat fr3) st3 stop) λ r s4 q_ => ?_)
   obtain ⟨hr, I4⟩ := q_
   subst hr
   exact wpAny_execs_nil ⟨σ3, H3, I4, qn⟩
 · refine wpAny_passesOwn hp (thn (T.item X rfl rfl rfl hc i pins s3 σ3 H3 X.xe I3 (stat fr3) st3 go) λ r s4 q_ => ?_)
   obtain ⟨u, hr, h4⟩ := q_
   subst hr
   refine wpAny_passesOwn hp (thn h4 λ _ s5 q_ => ?_)
   obtain ⟨x, H5, I5, r5, y5, st5, fr5⟩ := q_
   have I5' := I5.pinned (stat fr5) (T.obj _ _ st5)
   refine wpAny_passesOwn hp (thn (hg _ s5 σ3 H5 x u _ I5' r5 (step x H5 y5)) λ _ s6 q_ => ?_)
   obtain ⟨σ6, H6, I6, q6⟩ := q_
   refine wpAny_passesOwn hp (thn (hb _ s6 σ6 H6 _ I6 q6) λ f s7 q7 => ?_)
   have again : ∀ {σ7 : St} {H7 : Hp}, Inv X (pins ++ pinsAt fp s5.heap) σ7 H7 s7 -> N σ7 H7 -> ∃ m, m < n /\ ∃ i σ' H', Inv X pins σ' H' s7 /\ tn i s7.heap /\ (∀ b ∈ fp, H' b = none) /\ W i m σ' H' := λ {σ7 H7} I7 n7 => by
    obtain ⟨m', hm, w7⟩ := hN σ7 H7 n7
    refine ⟨m', hm, i + 1, σ7, H7, I7.unpinned, T.keep _ _ _ st5 λ b hb o e => (I7.pin (b, o) (Q14 _ (Q14 _ (mem_pinsAt hb e)))).1, λ b hb => ?_, w7⟩
    obtain ⟨o, e, d⟩ := T.obj _ _ st5 b hb
    exact (I7.pin (b, o) (Q14 _ (Q14 _ (mem_pinsAt hb e)))).2.1
   cases f with
   | next => obtain ⟨σ7, H7, I7, n7⟩ := q7; exact again I7 n7
   | cont => obtain ⟨σ7, H7, I7, n7⟩ := q7; exact again I7 n7
   | brk => obtain ⟨σ7, H7, I7, q7⟩ := q7; exact ⟨σ7, H7, I7.unpinned, q7⟩
   | ret v => obtain ⟨x7, σ7, H7, I7, r7, q7⟩ := q7; exact ⟨x7, σ7, H7, I7.unpinned, r7, q7⟩
end
noncomputable abbrev R2 := V -> V -> Hp -> VK -> Prop
def OpR (X : Cx) (f : Value -> Value -> Sem Value) (r : R2) : Prop :=
 ∀ (pins : List (Addr × Obj)) (s : Shared) (σ : St) (H : Hp) (x y : V) (v u : Value) (Q : VK), Inv X pins σ H s -> RelV x v -> RelV y u -> r x y H Q ->
  wpAny (model X.prog X.w) X.A (f v u) (EP X pins σ Q) X.xe s
def UnR (X : Cx) (f : Value -> Sem Value) (r : V -> Hp -> VK -> Prop) : Prop :=
 ∀ (pins : List (Addr × Obj)) (s : Shared) (σ : St) (H : Hp) (x : V) (v : Value) (Q : VK), Inv X pins σ H s -> RelV x v -> r x H Q ->
  wpAny (model X.prog X.w) X.A (f v) (EP X pins σ Q) X.xe s
def CallR (X : Cx) (f : Value) (r : List V -> Hp -> VK -> Prop) : Prop :=
 ∀ (pins : List (Addr × Obj)) (s : Shared) (σ : St) (H : Hp) (xs : List V) (us : List Value) (Q : VK), Inv X pins σ H s -> Vals xs us -> r xs H Q ->
  wpAny (model X.prog X.w) X.A (call f us) (EP X pins σ Q) X.xe s
def TruR (X : Cx) (r : V -> Hp -> (Bool -> Hp -> Prop) -> Prop) : Prop :=
 ∀ (pins : List (Addr × Obj)) (s : Shared) (σ : St) (H : Hp) (x : V) (v : Value) (Q : Bool -> Hp -> Prop), Inv X pins σ H s -> RelV x v -> r x H Q ->
  wpAny (model X.prog X.w) X.A (truthy v) (TP X pins σ Q) X.xe s
def tOp (r : R2) (ta tb : TE) : TE := λ σ H Q => ta σ H λ x H1 => tb σ H1 λ y H2 => r x y H2 Q
def tUn (r : V -> Hp -> VK -> Prop) (ta : TE) : TE := λ σ H Q => ta σ H λ x H1 => r x H1 Q
def rI (C : Int -> Int -> Prop) (g : Int -> Int -> V) : R2 := λ x y H Q => ∃ i j, x = .int i /\ y = .int j /\ C i j /\ Q (g i j) H
def rI0 (g : Int -> Int -> V) : R2 := λ x y H Q => ∃ i j, x = .int i /\ y = .int j /\ Q (g i j) H
def rU (g : Int -> V) : V -> Hp -> VK -> Prop := λ x H Q => ∃ i, x = .int i /\ Q (g i) H
section
variable {X : Cx} {a b c : Expr} {ta tb tc : TE} {pos : Pos}
theorem binT (ha : PE X a ta) (hb : PE X b tb) {pins : List (Addr × Obj)} {s : Shared} {σ : St} {H : Hp} {R : V -> V -> Hp -> Prop} (I : Inv X pins σ H s)
 (h : ta σ H λ x H1 => tb σ H1 λ y H2 => R x y H2) {Q : Value -> Shared -> Prop} {f : Value -> Value -> Sem Value}
 (hf : ∀ v u s2 x y H2, Inv X pins σ H2 s2 -> RelV x v -> RelV y u -> R x y H2 -> wpAny (model X.prog X.w) X.A (f v u) Q X.xe s2) :
 wpAny (model X.prog X.w) X.A (eval a X.env) (λ v s₁ => wpAny (model X.prog X.w) X.A (eval b X.env) (λ u s₂ => wpAny (model X.prog X.w) X.A (f v u) Q X.xe s₂) X.xe s₁) X.xe s := by
 refine thn (ha pins s σ H _ I h) λ v s1 q_ => ?_
 obtain ⟨x, H1, I1, r1, q1⟩ := q_
 refine thn (hb pins s1 σ H1 _ I1 q1) λ u s2 q_ => ?_
 obtain ⟨y, H2, I2, r2, q2⟩ := q_
 exact hf v u s2 x y H2 I2 r1 r2 q2
theorem pe_op {op : Operator} {r : R2} (ho : OpR X (binaryOp op) r) (ha : PE X a ta) (hb : PE X b tb) : PE X (.BinOp a op b pos) (tOp r ta tb) := by
 intro pins s σ H Q I h
 exact wpAny_BinOp (binT ha hb I h λ v u s2 x y H2 I2 rx ry q => ho pins s2 σ H2 x y v u Q I2 rx ry q)
theorem pe_un {op : UnaryOp} {r : V -> Hp -> VK -> Prop} (ho : UnR X (unaryOp op) r) (ha : PE X a ta) : PE X (.UnaryOp op a pos) (tUn r ta) := by
 intro pins s σ H Q I h
 exact UnaryOp_ (thn (ha pins s σ H _ I h) λ v s1 q_ => by obtain ⟨x, H1, I1, r1, q1⟩ := q_; exact ho pins s1 σ H1 x v Q I1 r1 q1)
theorem opI {f : Value -> Value -> Sem Value} {C : Int -> Int -> Prop} {g : Int -> Int -> Int}
 (rule : ∀ (i j : Int) (t u : Tok) (s : Shared) (Q : Value -> Shared -> Prop) (E : Value -> Shared -> Prop), C i j -> Q (.int (g i j) s.toks) { s with toks := s.toks + 1 } -> wpAny (model X.prog X.w) X.A (f (.int i t) (.int j u)) Q E s) :
 OpR X f (rI C λ i j => .int (g i j)) := by
 intro pins s σ H x y v u Q I rx ry h
 obtain ⟨i, j, rfl, rfl, hc, q⟩ := h
 obtain ⟨t, rfl⟩ := rx
 obtain ⟨t', rfl⟩ := ry
 exact rule i j t t' s _ _ hc ⟨.int (g i j), H, I.tok _, ⟨_, rfl⟩, q⟩
theorem opI0 {f : Value -> Value -> Sem Value} {g : Int -> Int -> Int}
 (rule : ∀ (i j : Int) (t u : Tok) (s : Shared) (Q : Value -> Shared -> Prop) (E : Value -> Shared -> Prop), Q (.int (g i j) s.toks) { s with toks := s.toks + 1 } -> wpAny (model X.prog X.w) X.A (f (.int i t) (.int j u)) Q E s) :
 OpR X f (rI0 λ i j => .int (g i j)) := by
 intro pins s σ H x y v u Q I rx ry h
 obtain ⟨i, j, rfl, rfl, q⟩ := h
 obtain ⟨t, rfl⟩ := rx
 obtain ⟨t', rfl⟩ := ry
 exact rule i j t t' s _ _ ⟨.int (g i j), H, I.tok _, ⟨_, rfl⟩, q⟩
theorem opB0 {f : Value -> Value -> Sem Value} {g : Int -> Int -> Bool}
 (rule : ∀ (i j : Int) (t u : Tok) (s : Shared) (Q : Value -> Shared -> Prop) (E : Value -> Shared -> Prop), Q (.bool (g i j)) s -> wpAny (model X.prog X.w) X.A (f (.int i t) (.int j u)) Q E s) :
 OpR X f (rI0 λ i j => .bl (g i j)) := by
 intro pins s σ H x y v u Q I rx ry h
 obtain ⟨i, j, rfl, rfl, q⟩ := h
 obtain ⟨t, rfl⟩ := rx
 obtain ⟨t', rfl⟩ := ry
 exact rule i j t t' s _ _ ⟨.bl (g i j), H, I, rfl, q⟩
def CDiv (i j : Int) : Prop := 0 < j /\ j < 1073741824
def CMul (i j : Int) : Prop := (-(2 ^ 64) < i /\ i < 2 ^ 64) \/ (-(2 ^ 64) < j /\ j < 2 ^ 64)
theorem CMul.ok {i j : Int} (h : CMul i j) : IntMulOk i j := by
 rcases h with ⟨h1, h2⟩ | ⟨h1, h2⟩
 · exact .of_left (intBits_le_64 h1 h2)
 · exact .of_right (intBits_le_64 h1 h2)
theorem op_add : OpR X (binaryOp .Add) (rI0 λ i j => .int (i + j)) := opI0 λ _ _ _ _ _ _ _ q => add_int q
theorem op_sub : OpR X (binaryOp .Sub) (rI0 λ i j => .int (i - j)) := opI0 λ _ _ _ _ _ _ _ q => sub_int q
theorem op_mul : OpR X (binaryOp .Mult) (rI CMul λ i j => .int (i * j)) := opI λ _ _ _ _ _ _ _ hc q => mul_int q hc.ok
theorem op_fdiv : OpR X (binaryOp .FloorDiv) (rI CDiv λ i j => .int (i / j)) := opI λ i j _ _ _ _ _ hc q => by
 have h1 : (0 : Int) < j := hc.1
 have h2 : j < 1073741824 := hc.2
 exact floordiv_int (by omega) (by rw [Int.fdiv_eq_ediv_of_nonneg i (by omega)]; exact q) (.inl (PyProof.noPylong_small (by omega)))
theorem op_mod : OpR X (binaryOp .Mod) (rI (λ _ j => 0 < j) λ i j => .int (i % j)) := opI λ i j _ _ _ _ _ hc q => by
 have h1 : (0 : Int) < j := hc
 exact mod_int' (by omega) (by rw [Int.fmod_eq_emod_of_nonneg i (by omega)]; exact q)
theorem iop_add : OpR X (inplaceOp .Add) (rI0 λ i j => .int (i + j)) := opI0 λ _ _ _ _ _ _ _ q => iadd_int q
theorem iop_mul : OpR X (inplaceOp .Mult) (rI CMul λ i j => .int (i * j)) := opI λ _ _ _ _ _ _ _ hc q => imul_int q hc.ok
theorem unI {f : Value -> Sem Value} {g : Int -> Int}
 (rule : ∀ (i : Int) (t : Tok) (s : Shared) (Q : Value -> Shared -> Prop) (E : Value -> Shared -> Prop), Q (.int (g i) s.toks) { s with toks := s.toks + 1 } -> wpAny (model X.prog X.w) X.A (f (.int i t)) Q E s) :
 UnR X f (rU λ i => .int (g i)) := by
 intro pins s σ H x v Q I rx h
 obtain ⟨i, rfl, q⟩ := h
 obtain ⟨t, rfl⟩ := rx
 exact rule i t s _ _ ⟨.int (g i), H, I.tok _, ⟨_, rfl⟩, q⟩
theorem un_neg : UnR X (unaryOp .USub) (rU λ i => .int (-i)) := unI λ _ _ _ _ _ q => neg_int q
end
section
variable {X : Cx} {a b c : Expr} {ta tb tc : TE} {pos : Pos}
theorem fin_bl {pins : List (Addr × Obj)} {σ : St} {H : Hp} {s : Shared} {Q : VK} {k k' : Bool} (I : Inv X pins σ H s) (q : Q (.bl k) H) (e : k = k') : EP X pins σ Q (.bool k') s := by
 subst e
 exact ⟨.bl k, H, I, rfl, q⟩
theorem op_lt : OpR X (compareOp .Lt) (rI0 λ i j => .bl (decide (i < j))) := opB0 λ _ _ _ _ _ _ _ q => lt_int q
theorem op_le : OpR X (compareOp .LtE) (rI0 λ i j => .bl (decide (i <= j))) := opB0 λ _ _ _ _ _ _ _ q => le_int q
theorem op_gt : OpR X (compareOp .Gt) (rI0 λ i j => .bl (decide (j < i))) := opB0 λ _ _ _ _ _ _ _ q => gt_int q
theorem op_isN : OpR X (compareOp .Is) (λ x y H Q => y = .non /\ Q (.bl (decide (x = .non))) H) := by
 intro pins s σ H x y v u Q I rx ry h
 obtain ⟨rfl, q⟩ := h
 cases ry
 refine is_none_gen (fin_bl I q ?_)
 cases x <;> first
  | (cases rx; rfl)
  | (obtain ⟨t, rfl⟩ := rx; rfl)
theorem op_notN : OpR X (compareOp .IsNot) (λ x y H Q => y = .non /\ Q (.bl (!decide (x = .non))) H) := by
 intro pins s σ H x y v u Q I rx ry h
 obtain ⟨rfl, q⟩ := h
 cases ry
 refine isnot_none_gen (fin_bl I q ?_)
 cases x <;> first
  | (cases rx; rfl)
  | (obtain ⟨t, rfl⟩ := rx; rfl)
theorem OpR.or {f : Value -> Value -> Sem Value} {r r' : R2} (h : OpR X f r) (h' : OpR X f r') : OpR X f (λ x y H Q => r x y H Q \/ r' x y H Q) := by
 intro pins s σ H x y v u Q I rx ry q
 rcases q with q | q
 · exact h pins s σ H x y v u Q I rx ry q
 · exact h' pins s σ H x y v u Q I rx ry q
theorem nomark (b : Expr) {op : CmpOp} (h : op ≠ .In := by decide) (h2 : op ≠ .NotIn := by decide) : behindInMarks op b = false := by
 have e1 : (op == CmpOp.In) = false := by cases op <;> first | rfl | exact absurd rfl h
 have e2 : (op == CmpOp.NotIn) = false := by cases op <;> first | rfl | exact absurd rfl h2
 cases b <;> simp [behindInMarks, e1, e2]
theorem pe_cmpR {op : CmpOp} {r : R2} (ho : OpR X (compareOp op) r) (ha : PE X a ta) (hb : PE X b tb) (hm : behindInMarks op b = false) : PE X (.Compare a [op] [b] pos) (tOp r ta tb) := by
 intro pins s σ H Q I h
 exact wpAny_Compare1 (binT ha hb I h λ v u s2 x y H2 I2 rx ry q => ho pins s2 σ H2 x y v u Q I2 rx ry q) hm
def tTest (t : TE) : TT := λ σ H Q => t σ H λ x H' => ∃ k, x = .bl k /\ Q k H'
theorem pt_cmpR {op : CmpOp} {r : R2} (ho : OpR X (compareOp op) r) (ha : PE X a ta) (hb : PE X b tb) (hm : behindInMarks op b = false) : PT X (.Compare a [op] [b] pos) (tTest (tOp r ta tb)) := by
 intro pins s σ H Q I h
 refine wpAny_isTrue_Compare1 (thn (ha pins s σ H _ I h) λ v s1 ⟨x, H1, I1, r1, q1⟩ => thn (hb pins s1 σ H1 _ I1 q1) λ u s2 ⟨y, H2, I2, r2, q2⟩ =>
  thn (ho pins s2 σ H2 x y v u _ I2 r1 r2 q2) λ c s3 ⟨z, H3, I3, r3, k, e, q3⟩ => ?_) hm
 subst e
 cases r3
 exact wpAny_truthy_bool ⟨H3, I3, q3⟩
def tChain (r r' : R2) (ta tb tc : TE) : TE := λ σ H Q => ta σ H λ x H1 => tb σ H1 λ y H2 => r x y H2 λ z H3 => ∃ k, z = .bl k /\
 (if k = true then tc σ H3 λ w' H4 => r' y w' H4 Q else Q (.bl false) H3)
theorem pe_chain {op op' : CmpOp} {r r' : R2} (ho : OpR X (compareOp op) r) (ho' : OpR X (compareOp op') r') (ha : PE X a ta) (hb : PE X b tb) (hc : PE X c tc)
 (hm : lastMarks [op, op'] [b, c] = false := by with_unfolding_all rfl) : PE X (.Compare a [op, op'] [b, c] pos) (tChain r r' ta tb tc) := by
 intro pins s σ H Q I h
 refine Compare_chain (thn (ha pins s σ H _ I h) λ v s1 ⟨x, H1, I1, r1, q1⟩ => chain_link (thn (hb pins s1 σ H1 _ I1 q1) λ u s2 ⟨y, H2, I2, r2, q2⟩ =>
  thn (ho pins s2 σ H2 x y v u _ I2 r1 r2 q2) λ d s3 ⟨z, H3, I3, r3, k, e, q3⟩ => ?_)) hm
 subst e
 cases r3
 refine wpAny_truthy_bool ?_
 cases k with
 | false => exact ite_ff ⟨.bl false, H3, I3, rfl, q3⟩
 | true => exact ite_tt (chain_last (thn (hc pins s3 σ H3 _ I3 q3) λ w' s4 q_ => by obtain ⟨z', H4, I4, r4, q4⟩ := q_; exact ho' pins s4 σ H4 y z' u w' Q I4 r2 r4 q4))
def TruV (K : Fg) (x : V) (H : Hp) (k : Bool) : Prop :=
 match x with
 | .non => k = false
 | .bl b => k = b
 | .int i => k = (i != 0)
 | .str y => y.length <= sizeLine /\ k = ((y.length : Int) != 0)
 | .byt y => y.size <= sizeLine /\ k = ((y.size : Int) != 0)
 | .ref p => (∃ xs, SqL K H p xs /\ k = !xs.isEmpty) \/ (∃ xs, SqT K H p xs /\ k = !xs.isEmpty) \/ ∃ kvs, H p = some (.dK kvs) /\ k = !kvs.isEmpty
 | _ => False
theorem isEmpty_kv {κ : Type} {kvs : List (κ × V)} {vs : List (κ × Value)} (r : KV kvs vs) : (!vs.isEmpty) = !kvs.isEmpty := by
 cases r <;> rfl
theorem isEmpty_of {xs : List V} {its : List Value} (r : Vals xs its) : (!its.toArray.isEmpty) = !xs.isEmpty := by
 cases r <;> simp
theorem line63 : (sizeLine : Nat) < 2 ^ 63 := by rw [sizeLine_eq]; decide
theorem tru_ok : TruR X (λ x H Q => ∃ k, TruV X.K x H k /\ Q k H) := by
 intro pins s σ H x v Q I rx h
 obtain ⟨k, e, q⟩ := h
 have hl := line63
 have hs : sizeLine = 16777216 := sizeLine_eq
 cases x with
 | non =>
  cases rx
  have e' : k = false := e
  subst e'
  exact truthy_none ⟨H, I, q⟩
 | bl b =>
  cases rx
  have e' : k = b := e
  subst e'
  exact wpAny_truthy_bool ⟨H, I, q⟩
 | int i =>
  obtain ⟨t, rfl⟩ := rx
  have e' : k = (i != 0) := e
  subst e'
  exact PySem.P.truthy_int ⟨H, I, q⟩
 | str y =>
  obtain ⟨t, rfl⟩ := rx
  obtain ⟨hy, e'⟩ : y.length <= sizeLine /\ k = ((y.length : Int) != 0) := e
  subst e'
  exact PySem.P.truthy_str (by omega) ⟨H, I.tok _, q⟩
 | byt y =>
  obtain ⟨t, rfl⟩ := rx
  obtain ⟨hy, e'⟩ : y.size <= sizeLine /\ k = ((y.size : Int) != 0) := e
  subst e'
  exact PySem.W.truthy_bytes (by omega) ⟨H, I.tok _, q⟩
 | ref p =>
  cases rx
  have e' : (∃ xs, SqL X.K H p xs /\ k = !xs.isEmpty) \/ (∃ xs, SqT X.K H p xs /\ k = !xs.isEmpty) \/ ∃ kvs, H p = some (.dK kvs) /\ k = !kvs.isEmpty := e
  rcases e' with ⟨xs, hx, e'⟩ | ⟨xs, hx, e'⟩ | ⟨kvs, hx, e'⟩
  · subst e'
    obtain ⟨its, r, pl, hz⟩ := I.list hx
    have hlen := r.length
    exact wpAny_truthy_list pl.isList (by simp only [zM]; omega) ⟨H, I.tok _, by rw [isEmpty_of r]; exact q⟩
  · subst e'
    obtain ⟨its, r, pl, hz⟩ := I.tuple hx
    have hlen := r.length
    exact truthy_tuple pl (by simp only [zM]; omega) ⟨H, I.tok _, by rw [isEmpty_of r]; exact q⟩
  · subst e'
    obtain ⟨hz, hS, vs, r, m⟩ : kvs.length <= sizeLine /\ (p == sysModules) = false /\ ∃ vs, KV kvs vs /\ s.heap.DictOf (mixKind X.prog X.w) p vs := I.hok p _ hx
    have hlen : kvs.length = vs.length := Paired.length r
    exact wpAny_truthy_dict hS m (by omega) ⟨H, I.tok _, by rw [isEmpty_kv r]; exact q⟩
 | _ => exact (show False from e).elim
theorem pt_truth (ha : PE X a ta) (he : ∀ whole, isTrue a X.env whole = (do let v <- whole; standAt a.pos; holding [v] (truthy v))) :
 PT X a (λ σ H Q => ta σ H λ x H' => ∃ k, TruV X.K x H' k /\ Q k H') := by
 intro pins s σ H Q I h
 exact isTrue_plain (thn (ha pins s σ H _ I h) λ v s1 q_ => by obtain ⟨x, H1, I1, r1, q1⟩ := q_; exact tru_ok pins s1 σ H1 x v Q I1 r1 q1) (he _)
theorem op_add_str : OpR X (binaryOp .Add) (λ x y H Q => ∃ i j, x = .str i /\ y = .str j /\ i.length + j.length <= sizeLine /\ Q (.str (i ++ j)) H) := by
 intro pins s σ H x y v u Q I rx ry h
 obtain ⟨i, j, rfl, rfl, hz, q⟩ := h
 obtain ⟨t, rfl⟩ := rx
 obtain ⟨t', rfl⟩ := ry
 exact add_str (λ t' tk => ⟨.str (i ++ j), H, I.tok _, ⟨_, rfl⟩, q⟩) hz
theorem vals1 {x : V} {us : List Value} (r : Vals [x] us) : ∃ u, us = [u] /\ RelV x u := by
 cases r with
 | cons r1 r2 => cases r2; exact ⟨_, rfl, r1⟩
def LenV (K : Fg) (x : V) (H : Hp) (n : Nat) : Prop :=
 match x with
 | .str y => y.length <= sizeLine /\ n = y.length
 | .byt y => y.size <= sizeLine /\ n = y.size
 | .ref p => (∃ xs, SqL K H p xs /\ n = xs.length) \/ ∃ xs, SqT K H p xs /\ n = xs.length
 | _ => False
theorem call_len : CallR X (.builtin "len") (λ xs H Q => ∃ x n, xs = [x] /\ LenV X.K x H n /\ Q (.int n) H) := by
 intro pins s σ H xs us Q I r h
 obtain ⟨x, n, rfl, e, q⟩ := h
 obtain ⟨u, rfl, rx⟩ := vals1 r
 have hl := line63
 have hs : sizeLine = 16777216 := sizeLine_eq
 cases x with
 | str y =>
  obtain ⟨t, rfl⟩ := rx
  obtain ⟨hy, e'⟩ : y.length <= sizeLine /\ n = y.length := e
  subst e'
  exact len_str (by omega) ⟨.int _, H, I.tok _, ⟨_, rfl⟩, q⟩
 | byt y =>
  obtain ⟨t, rfl⟩ := rx
  obtain ⟨hy, e'⟩ : y.size <= sizeLine /\ n = y.size := e
  subst e'
  exact PySem.W.len_bytes (by omega) ⟨.int _, H, I.tok _, ⟨_, rfl⟩, q⟩
 | ref p =>
  cases rx
  have e' : (∃ xs, SqL X.K H p xs /\ n = xs.length) \/ ∃ xs, SqT X.K H p xs /\ n = xs.length := e
  rcases e' with ⟨xs, hx, e'⟩ | ⟨xs, hx, e'⟩
  · subst e'
    obtain ⟨its, r', pl, hz⟩ := I.list hx
    have hlen := r'.length
    exact Calls.call_len_list pl.isList (by simp only [zM]; omega) ⟨.int xs.length, H, I.tok _, ⟨_, by simp only [zM]; rw [hlen]⟩, q⟩
  · subst e'
    obtain ⟨its, r', pl, hz⟩ := I.tuple hx
    have hlen := r'.length
    exact len_tuple pl (by simp only [zM]; omega) ⟨.int xs.length, H, I.tok _, ⟨_, by simp only [zM]; rw [hlen]⟩, q⟩
 | _ => exact (show False from e).elim
end
structure ObjM (h : Heap) (x dx C : Addr) (mA : Str -> Option Value) : Prop where
 obj : h.get? x = some (PySem.W.instObj C dx)
 ns : h.Ns1 dx mA
 ne : dx ≠ x
theorem lookIn_ns {h : Heap} {dx : Addr} {mA : Str -> Option Value} (n : h.Ns1 dx mA) : ∃ od, h.get? dx = some od /\ ∀ name, PySem.W.lookIn name od = some (mA name) := by
 obtain ⟨o, es, ep, ho, hd, hk, _, hm⟩ := n
 refine ⟨o, ho, λ name => ?_⟩
 have e := hm name
 unfold nsFind findBy at e
 rw [<- Array.find?_toList] at e
 unfold PySem.W.lookIn
 rw [hd]
 dsimp only
 split
 · rename_i y q
   rw [q] at e
   exact congrArg some e
 · rename_i q
   rw [q] at e
   have a : es.toList.any (·.refKey) = false := by
    rw [List.any_eq_false]
    intro y hy
    obtain ⟨z, t, hkey⟩ := hk y (Array.mem_toList_iff.mp hy)
    simp [DictEntry.refKey, hkey]
   have a' : ¬ es.toList.any (·.refKey) = true := by rw [a]; exact Qe
   rw [if_neg a']
   exact congrArg some e
theorem ObjM.look {h : Heap} {x dx C : Addr} {mA : Str -> Option Value} (I : ObjM h x dx C mA) : ∃ od, PySem.W.InstAt h x (PySem.W.instObj C dx) C (some od) /\ ∀ name, PySem.W.lookIn name od = some (mA name) :=
 let ⟨od, ho, hl⟩ := lookIn_ns I.ns
 ⟨od, ⟨I.obj, rfl, rfl, ho⟩, hl⟩
section
variable {prog : Program} {w : World} {A : Around} {E : Value -> Shared -> Prop} {s : Shared} {K : Fg} {x dx C f : Addr} {mA : Str -> Option Value} {name : Str} {v : Value}
end
section
variable {P : Program} {w : World} {H H' : Hp} {h h' : Heap} {a C dx : Addr} {fs fs' : List (Str × V)}
theorem ins_get (hok : HOk P w H h) (e : H a = some (.ins C dx fs)) : ∃ mA, ObjM h a dx C mA /\ (∀ f, RelO (fs.lookup f) (mA f)) /\ PySem.Within mA (fs.map (·.1)) /\ fs.length <= 1000 /\ H dx = some (.own a) := by
 obtain ⟨d, z, ne, ob, mA, n, r, q⟩ := (show ObjOk P w H h a (.ins C dx fs) from hok a _ e)
 exact ⟨mA, ⟨ob, n, ne⟩, r, q, z, d⟩
end
structure Cls (K : Fg) (C : Addr) : Prop where
 pg : PySem.W.plainGet K C Str.empty = true
 hd : PySem.W.hasDictIn K C = true
 po : PySem.W.plainOver K C = true
 sa : PySem.W.findIn K (.ref C) "__setattr__" = some (some (.builtin "object.__setattr__"))
theorem Cls.get {K : Fg} {C : Addr} (c : Cls K C) (f : Str) : PySem.W.plainGet K C f = true := c.pg
section
variable {X : Cx} {pins : List (Addr × Obj)} {σ : St} {H : Hp} {s : Shared} {a C dx : Addr} {fs : List (Str × V)} {f : Str} {v : V} {A : Around} {E : Value -> Shared -> Prop}
end
section
variable {X : Cx} {o e value : Expr} {f : Str} {pos pos' tpos : Pos} {ta tv : TE}
end
section
variable {X : Cx} {pins : List (Addr × Obj)} {σ : St} {H : Hp} {s : Shared} {A : Around} {E : Value -> Shared -> Prop} {Q : Value -> Shared -> Prop} {c : Value} {b : Bool}
inductive TyOf (K : Fg) (H : Hp) : V -> Value -> Prop where
 | non : TyOf K H .non (.type "NoneType")
 | bl (x : Bool) : TyOf K H (.bl x) (.type "bool")
 | int (i : Int) : TyOf K H (.int i) (.type "int")
 | str (x : Str) : TyOf K H (.str x) (.type "str")
 | flt (x : UInt64) : TyOf K H (.flt x) (.type "float")
 | lst {a : Addr} {xs : List V} (e : H a = some (.lst xs)) : TyOf K H (.ref a) (.type "list")
 | frz {a : Addr} {o : Obj} {xs : List V} (e : H a = some (.frz o (.lst xs))) : TyOf K H (.ref a) (.type "list")
 | tup {a : Addr} {xs : List V} (e : H a = some (.tup xs)) : TyOf K H (.ref a) (.type "tuple")
 | dK {a : Addr} {kvs : List (Key × V)} (e : H a = some (.dK kvs)) : TyOf K H (.ref a) (.type "dict")
 | dT {a : Addr} {kvs : List (List Key × V)} (e : H a = some (.dT kvs)) : TyOf K H (.ref a) (.type "dict")
 | ins {a C dx : Addr} {fs : List (Str × V)} (e : H a = some (.ins C dx fs)) (cl : Cls K C) (ha : PySem.W.findIn K (.ref C) "__class__" = some (some (.builtin "object.__class__")))
  (hn : PySem.W.specialIn K (.builtin "object.__class__") "__get__" = some (some (.builtin "getset_descriptor.__get__"))) (htk : PySem.W.takesIn K (.builtin "object.__class__") = some true)
  (hm : PySem.W.mroIn K C (.type "object") = some true) : TyOf K H (.ref a) (.ref C)
theorem isinst_ok {x : V} {u t : Value} (I : Inv X pins σ H s) (rx : RelV x u) (ty : TyOf X.K H x t) (e : PySem.W.kitOne X.K t c = some b) (h : ∀ tk, Q (.bool b) { s with toks := tk }) :
 wpAny (model X.prog X.w) A (call (.builtin "isinstance") [u, c]) Q E s := by
 cases ty with
 | non => cases (show u = Value.none from rx); exact PySem.W.kia_one PySem.W.kitx_none I.kIn True.intro e (λ z => nomatch z) h
 | bl y => cases (show u = Value.bool y from rx); exact PySem.W.kia_one PySem.W.kitx_bool I.kIn True.intro e (λ z => nomatch z) h
 | int i => obtain ⟨t, q⟩ := (show ∃ t, u = Value.int i t from rx); cases q; exact PySem.W.kia_one PySem.W.kitx_int I.kIn True.intro e (λ z => nomatch z) h
 | str y => obtain ⟨t, q⟩ := (show ∃ t, u = Value.str y t from rx); cases q; exact PySem.W.kia_one PySem.W.kitx_str I.kIn True.intro e (λ z => nomatch z) h
 | flt y => obtain ⟨t, q⟩ := (show ∃ t, u = Value.float y t from rx); cases q; exact PySem.W.kia_one PySem.W.kitx_float I.kIn True.intro e (λ z => nomatch z) h
 | @lst a xs ea =>
  cases (show u = Value.ref a from rx)
  obtain ⟨_, _, n, _, h1⟩ := (show ObjOk X.prog X.w H s.heap a (.lst xs) from I.hok a _ ea)
  exact PySem.W.kia_one PySem.W.kitx_list I.kIn ⟨_, h1, rfl⟩ e (λ z => nomatch z) h
 | @frz a ob xs ea =>
  cases (show u = Value.ref a from rx)
  obtain ⟨_, _, _, n, _, h1⟩ := (show ObjOk X.prog X.w H s.heap a (.frz ob (.lst xs)) from I.hok a _ ea)
  exact PySem.W.kia_one PySem.W.kitx_list I.kIn ⟨_, h1, rfl⟩ e (λ z => nomatch z) h
 | @tup a xs ea =>
  cases (show u = Value.ref a from rx)
  obtain ⟨_, _, _, p, _⟩ := (show ObjOk X.prog X.w H s.heap a (.tup xs) from I.hok a _ ea)
  obtain ⟨o, h1, h2, _⟩ := p
  exact PySem.W.kia_one PySem.W.kitx_tuple I.kIn ⟨o, h1, h2⟩ e (λ z => nomatch z) h
 | @dK a kvs ea =>
  cases (show u = Value.ref a from rx)
  obtain ⟨_, _, vs, _, p⟩ := (show ObjOk X.prog X.w H s.heap a (.dK kvs) from I.hok a _ ea)
  obtain ⟨o, es, ep, h1, h2, _⟩ := p
  exact PySem.W.kia_one PySem.W.kitx_dict I.kIn ⟨o, h1, h2.1⟩ e (λ z => nomatch z) h
 | @dT a kvs ea =>
  cases (show u = Value.ref a from rx)
  obtain ⟨_, _, xs, _, o, es, ep, h1, h2, _⟩ := (show ObjOk X.prog X.w H s.heap a (.dT kvs) from I.hok a _ ea)
  exact PySem.W.kia_one PySem.W.kitx_dict I.kIn ⟨o, h1, h2.1⟩ e (λ z => nomatch z) h
 | @ins a C dx fs ea cl ha hn htk hm =>
  cases (show u = Value.ref a from rx)
  obtain ⟨mA, O, _⟩ := ins_get I.hok ea
  obtain ⟨od, J, _⟩ := O.look
  exact PySem.W.kia_one (PySem.W.kitx_own (cl.get _) cl.hd ha hn htk hm) I.kIn J e (λ z => nomatch z) h
end
structure Room (k : Nat) (A : Around) : Prop where
 hd : A.handled = none
 dp : A.depth + 3 * k + 5 < recursionLimit
 un : A.units + 16 * k + 200 < cLine
theorem Room.mono {j k : Nat} {A : Around} (r : Room k A) (h : j <= k) : Room j A := ⟨r.hd, by have := r.dp; omega, by have := r.un; omega⟩
theorem Room.deeper {k : Nat} {A : Around} (r : Room (k + 1) A) (env : Env) : Room k (A.deeper env) :=
 ⟨r.hd, by have := r.dp; show A.depth + 1 + 3 * k + 5 < _; omega, by have := r.un; show A.units + 3 + 16 * k + 200 < _; omega⟩
theorem Room.in1 {k : Nat} {A : Around} (r : Room (k + 1) A) : Room k A.in1 :=
 ⟨r.hd, by have := r.dp; show A.depth + 3 * k + 5 < _; omega, by have := r.un; show A.units + 1 + 16 * k + 200 < _; omega⟩
theorem Room.depth {k : Nat} {A : Around} (r : Room k A) : A.depth < recursionLimit := by have := r.dp; omega
theorem Room.units {k : Nat} {A : Around} (r : Room k A) : A.units + 64 < cLine := by have := r.un; omega
def tNil : TA := λ _ H Q => Q [] H
def tCons (ta : TE) (tr : TA) : TA := λ σ H Q => ta σ H λ x H1 => tr σ H1 λ xs H2 => Q (x :: xs) H2
section
variable {X : Cx} {e : Expr} {es : List Expr} {te : TE} {t : TA} {pos : Pos}
theorem pa_nil : PA X [] tNil := λ _ _ _ _ H Q I h => Calls.spliced_nil ⟨[], H, I, .nil, h⟩
theorem pa_cons (ha : PE X e te) (hr : PA X es t) (hs : starEach (e :: es) X.env = (false, eval e X.env) :: starEach es X.env := by rfl) : PA X (e :: es) (tCons te t) := by
 intro pos pins s σ H Q I h
 rw [hs]
 show wpAny _ _ (spliced ((false, eval e X.env) :: backTo pos (starEach es X.env))) _ _ s
 refine Calls.spliced_cons (thn (ha pins s σ H _ I h) λ u s1 q_ => ?_)
 obtain ⟨x, H1, I1, r1, q1⟩ := q_
 exact thn (hr pos pins s1 σ H1 _ I1 q1) λ us s2 q_ => by obtain ⟨xs, H2, I2, r2, q2⟩ := q_; exact ⟨x :: xs, H2, I2, .cons r1 r2, q2⟩
def tTup (t : TA) : TE := λ σ H Q => t σ H λ xs H1 => xs.length <= sizeLine /\ ∀ p, H1 p = none -> Q (.ref p) (upd H1 p (.tup xs))
def tLst (t : TA) : TE := λ σ H Q => t σ H λ xs H1 => xs.length <= sizeLine /\ ∀ p, H1 p = none -> Q (.ref p) (upd H1 p (.lst xs))
theorem pe_tup {x1} (h : PA X es t) : PE X (.Tuple es x1 pos) (tTup t) := by
 intro pins s σ H Q I hq
 refine wpAny_Tuple_spliced (thn (h pos pins s σ H _ I hq) λ us s1 ⟨xs, H1, I1, r, z, q⟩ => ⟨by rw [<- r.length]; exact z, ?_⟩)
 have hf : H1 s1.heap.objs.size = none := I1.hok.fresh (Q1 _)
 refine ⟨.ref s1.heap.objs.size, upd H1 s1.heap.objs.size (.tup xs), I1.laid (t' := s1.toks) (λ b u e => hPo _ e) (Q1 _) ?_, rfl, q _ hf⟩
 exact ⟨z, us, r, ⟨_, hPs _ rfl, rfl, _, rfl⟩, _, hPs _ rfl, rfl⟩
theorem pe_lst (h : PA X es t) : PE X (.List es pos) (tLst t) := by
 intro pins s σ H Q I hq
 refine wpAny_List_spliced (thn (h pos pins s σ H _ I hq) λ us s1 ⟨xs, H1, I1, r, z, q⟩ => ⟨by rw [<- r.length]; exact z, ?_⟩)
 have hf : H1 s1.heap.objs.size = none := I1.hok.fresh (Q1 _)
 refine ⟨.ref s1.heap.objs.size, upd H1 s1.heap.objs.size (.lst xs), I1.laid (t' := s1.toks) (λ b u e => hPo _ e) (Q1 _) ?_, rfl, q _ hf⟩
 exact ⟨z, us, 0, r, hPs _ rfl⟩
end
noncomputable abbrev Sp := List V -> Hp -> VK -> XK -> Prop
noncomputable abbrev CXT := List Env -> Hp -> Shared -> XK -> Value -> Shared -> Prop
structure Env0 (P : Program) (w : World) (K : Fg) (mg : Str -> Option Value) (base : Heap) (A : Around) (outer : List Env) (s : Shared) (H : Hp) : Prop where
 frames : A.frames = some outer
 mod : Mod K mg base
 bs : ∀ b o, base.get? b = some o -> s.heap.get? b = some o /\ H b = none
 bsz : base.objs.size <= s.heap.objs.size
 funs : s.heap.FunFrames base outer
 frf : ∀ b ∈ frs outer, H b = none
 hok : HOk P w H s.heap
 bare : AllBare s.gens
def CE (outer : List Env) (P : Program) (w : World) (H : Hp) (s : Shared) (Q : VK) (u : Value) (s' : Shared) : Prop :=
 ∃ v H', s'.os = s.os /\ AllBare s'.gens /\ Un (frs outer) [] H H' s.heap s'.heap /\ HOk P w H' s'.heap /\ RelV v u /\ Q v H'
def CR (CX : CXT) (outer : List Env) (P : Program) (w : World) (H : Hp) (s : Shared) (Q : VK) (E : XK) (r : Result) (s' : Shared) : Prop :=
 match r with
 | .ok (.ret u) => CE outer P w H s Q u s'
 | .ok _ => False
 | .error e => CX outer H s E e s'
structure FnOk (P : Program) (w : World) (K : Fg) (mg : Str -> Option Value) (base : Heap) (CX : CXT) (k : Nat) (f : Addr) (fd : FuncData) (ps : List Str) (sp : Sp) : Prop where
 len : ∀ vs H Q E, sp vs H Q E -> vs.length = ps.length
 run : ∀ (A : Around) (outer : List Env) (s : Shared) (H : Hp) (args : Args) (us : List Value) (vs : List V) (Q : VK) (E : XK), Room k A -> Env0 P w K mg base A outer s H -> BindsTo s fd args (ps.zip us) -> Vals vs us -> sp vs H Q E ->
  codeAny (model P w) A (.call (.ref f) args) (CR CX outer P w H s Q E) s
theorem FnOk.imp {P : Program} {w : World} {K : Fg} {mg : Str -> Option Value} {base : Heap} {CX : CXT} {k : Nat} {f : Addr} {fd : FuncData} {ps : List Str} {sp sp' : Sp} (F : FnOk P w K mg base CX k f fd ps sp)
 (h : ∀ vs H Q E, sp' vs H Q E -> sp vs H Q E) : FnOk P w K mg base CX k f fd ps sp' :=
 ⟨λ vs H Q E q => F.len vs H Q E (h _ _ _ _ q), λ A outer s H args us vs Q E hr he hb hv hs => F.run A outer s H args us vs Q E hr he hb hv (h _ _ _ _ hs)⟩
theorem Env0.in1 {P : Program} {w : World} {K : Fg} {mg : Str -> Option Value} {base : Heap} {A : Around} {outer : List Env} {s : Shared} {H : Hp} (e : Env0 P w K mg base A outer s H) :
 Env0 P w K mg base A.in1 outer s H := ⟨e.frames, e.mod, e.bs, e.bsz, e.funs, e.frf, e.hok, e.bare⟩
section
variable {X : Cx} {pins : List (Addr × Obj)} {σ : St} {H : Hp} {s s' : Shared}
theorem Inv.env0 (I : Inv X pins σ H s) : Env0 X.prog X.w X.K X.mg X.base X.A X.stack s H :=
 ⟨I.ok.frames, I.ok.mod, I.bs, Q9 I.ok.bsz I.sz, I.stack, I.stkFree, I.hok, I.bare⟩
theorem Inv.after {Q : VK} {u : Value} (I : Inv X pins σ H s) (h : CE X.stack X.prog X.w H s Q u s') : EP X pins σ Q u s' := by
 obtain ⟨v, H', os, bare, un, hok, r, q⟩ := h
 obtain ⟨hh, g, d, t, os'⟩ := s'
 obtain rfl : os' = s.os := os
 exact ⟨v, H', I.call (h' := hh) (g' := g) (d' := d) (t' := t) (ch := []) un hok bare (λ b z => absurd z (by simp)), r, q⟩
end
def tCall (sp : Sp) (dvs : List V) (E : XK) (t : TA) : TE := λ σ H Q => t σ H λ vs H1 => sp (vs ++ dvs) H1 Q E
def Binds (K : Fg) (fd : FuncData) (ps : List Str) (ds : List Value) : Prop :=
 ∀ (s : Shared) (us : List Value), K.In s.heap -> (us ++ ds).length = ps.length -> BindsTo s fd ⟨us, []⟩ (ps.zip (us ++ ds))
theorem Binds.all {K : Fg} {fd : FuncData} {ps : List Str} (h : ∀ us : List Value, us.length = ps.length -> bindArgs fd ⟨us, []⟩ = pure (ps.zip us)) : Binds K fd ps [] := λ s us _ hl => by
 rw [Q7] at hl ⊢
 exact .of_eq (h us hl)
def Passes (CX : CXT) (X : Cx) (E : XK) : Prop := ∀ (pins : List (Addr × Obj)) (σ : St) (H : Hp) (s : Shared) (e : Value) (s' : Shared), Inv X pins σ H s -> CX X.stack H s E e s' -> X.xe e s'
section
variable {X : Cx} {CX : CXT} {k : Nat} {f C : Addr} {fd : FuncData} {ps : List Str} {sp : Sp} {dvs : List V} {ds : List Value} {E : XK} {x m : Str} {p pos apos : Pos} {e o : Expr} {es : List Expr} {ta : TE} {t : TA}
theorem run_fn {pins : List (Addr × Obj)} {σ : St} {H : Hp} {s : Shared} {Q : VK} {us : List Value} {vs : List V} (F : FnOk X.prog X.w X.K X.mg X.base CX k f fd ps sp) (hr : Room k X.A) (hb : Binds X.K fd ps ds) (hd : Vals dvs ds) (hx : Passes CX X E)
 (I : Inv X pins σ H s) (r : Vals vs us) (h : sp (vs ++ dvs) H Q E) : wpAny (model X.prog X.w) X.A (call (.ref f) us) (EP X pins σ Q) X.xe s := by
 have r2 : Vals (vs ++ dvs) (us ++ ds) := r.append hd
 have hl : (us ++ ds).length = ps.length := by rw [<- r2.length]; exact F.len _ _ _ _ h
 refine wpAny_call (codeAny_mono (F.run X.A X.stack s H ⟨us, []⟩ (us ++ ds) (vs ++ dvs) Q E hr I.env0 (hb s us I.kIn hl) r2 h) λ r s' hq => ?_)
 cases r with
 | error e => exact hx pins σ H s e s' I hq
 | ok fl =>
  cases fl with
  | ret u => exact I.after hq
  | next => exact False.elim hq
  | brk => exact False.elim hq
  | cont => exact False.elim hq
theorem pe_call (F : FnOk X.prog X.w X.K X.mg X.base CX k f fd ps sp) (hr : Room k X.A) (hg : Gl X x) (hm : X.mg x = some (.ref f)) (hk : PySem.W.keepIn X.K (.ref f) = true) (hb : Binds X.K fd ps ds) (hd : Vals dvs ds) (hx : Passes CX X E)
 (ha : PA X (e :: es) t) (hdb : (x == ("__debug__" : Str)) = false := by decide) (he : starEach (e :: es) X.env = (false, eval e X.env) :: starEach es X.env := by rfl) (hpl : (backTo pos (starEach es X.env)).any (·.1) = false := by rfl) :
 PE X (.Call (.Name x p) (e :: es) [] pos) (tCall sp dvs E t) := by
 intro pins s σ H Q I h
 refine wpAny_Call_Name_kw (ld_glob I hg hm ?_ hdb)
 refine PySem.W.callWith_K (h₀ := X.base) I.ok.mod.kin hk (thn (ha pos pins s σ H _ I h) λ us s1 ⟨vs, H1, I1, r, q⟩ => ⟨I1.kIn, ?_⟩) he hpl
 exact run_fn F hr hb hd hx I1 r q
end
section
variable {X : Cx} {CX : CXT} {k : Nat} {f C : Addr} {fd : FuncData} {ps ks : List Str} {sp : Sp} {E : XK} {x m : Str} {p pos apos kpos : Pos} {e o : Expr} {es : List Expr} {kws : List Keyword} {te ta : TE} {t tk : TA} {nm : Option Str}
variable {g : List Value -> List Value -> List Value} {gV : List V -> List V -> List V}
end
structure FnScope (N P : List Str) (sc : Scope) : Prop where
 kind : sc.kind = .function
 co : sc.isCoroutine = false
 gen : sc.isGenerator = false
 nd : N.Nodup
 pre : N.take P.length = P
 par : ∀ x ∈ P, sc.names.lookup x = some .local \/ sc.names.lookup x = some .cell
 nofree : ∀ y ∈ sc.names, y.2 ≠ .free
theorem bindL_out {kindOf : Str -> Option NameKind} {x : Str} : ∀ {binds : List (Str × Value)} {m : Str -> Option Value}, (∀ v, (x, v) ∉ binds) -> bindL kindOf binds m x = m x
 | [], _, _ => rfl
 | (n, v) :: r, m, h => by
  unfold bindL
  rw [bindL_out λ w hw => h w (lMc _ hw)]
  split
  · have : x ≠ n := by rintro rfl; exact h v lMs
    simp [this]
  · rfl
theorem bindC_out {kindOf : Str -> Option NameKind} {x : Str} : ∀ {binds : List (Str × Value)} {m : Str -> Option Value}, (∀ v, (x, v) ∉ binds) -> bindC kindOf binds m x = m x
 | [], _, _ => rfl
 | (n, v) :: r, m, h => by
  unfold bindC
  rw [bindC_out λ w hw => h w (lMc _ hw)]
  split
  · rfl
  · have : x ≠ n := by rintro rfl; exact h v lMs
    simp [this]
theorem bindL_get {kindOf : Str -> Option NameKind} {x : Str} {v : Value} : ∀ {P : List Str} {vs : List Value} {i : Nat} {m : Str -> Option Value}, P.Nodup -> P[i]? = some x -> vs[i]? = some v -> kindOf x = some .local ->
 bindL kindOf (P.zip vs) m x = some v
 | [], _, _, _, _, h, _, _ => by simp at h
 | _ :: _, [], _, _, _, _, h, _ => by simp at h
 | p :: P, w :: vs, 0, m, nd, h1, h2, hk => by
  simp at h1 h2; subst h1; subst h2
  show bindL kindOf ((p, w) :: P.zip vs) m p = _
  unfold bindL
  rw [bindL_out λ v hv => (List.nodup_cons.mp nd).1 (List.of_mem_zip hv).1, if_pos hk]
  simp
 | p :: P, w :: vs, i + 1, m, nd, h1, h2, hk => by
  show bindL kindOf ((p, w) :: P.zip vs) m x = _
  unfold bindL
  exact bindL_get (i := i) (List.nodup_cons.mp nd).2 (by simpa using h1) (by simpa using h2) hk
theorem bindC_get {kindOf : Str -> Option NameKind} {x : Str} {v : Value} : ∀ {P : List Str} {vs : List Value} {i : Nat} {m : Str -> Option Value}, P.Nodup -> P[i]? = some x -> vs[i]? = some v -> kindOf x ≠ some .local ->
 bindC kindOf (P.zip vs) m x = some v
 | [], _, _, _, _, h, _, _ => by simp at h
 | _ :: _, [], _, _, _, _, h, _ => by simp at h
 | p :: P, w :: vs, 0, m, nd, h1, h2, hk => by
  simp at h1 h2; subst h1; subst h2
  show bindC kindOf ((p, w) :: P.zip vs) m p = _
  unfold bindC
  rw [bindC_out λ v hv => (List.nodup_cons.mp nd).1 (List.of_mem_zip hv).1, if_neg hk]
  simp
 | p :: P, w :: vs, i + 1, m, nd, h1, h2, hk => by
  show bindC kindOf ((p, w) :: P.zip vs) m x = _
  unfold bindC
  exact bindC_get (i := i) (List.nodup_cons.mp nd).2 (by simpa using h1) (by simpa using h2) hk
def start (N : List Str) (vs : List V) : St := vs.map some ++ List.replicate (N.length - vs.length) none
noncomputable def cxOf (CX : CXT) (P : Program) (w : World) (K : Fg) (mg : Str -> Option Value) (base : Heap) (N : List Str) (qual : Str) (scope : Scope) (f : Addr) (cd : Value) (A : Around) (outer : List Env) (s : Shared) (H : Hp) (E : XK) : Cx where
 prog := P
 w := w
 K := K
 mg := mg
 base := base
 A := A.deeper (envOfC qual scope s.heap.objs.size f cd)
 N := N
 s₀ := s
 H₀ := H
 env := envOfC qual scope s.heap.objs.size f cd
 outer := outer
 stack := envOfC qual scope s.heap.objs.size f cd :: outer
 ex := []
 calm := true
 fn := λ _ => true
 pn := []
 xe := λ e s' => wpAny (model P w) (A.deeper (envOfC qual scope s.heap.objs.size f cd)) (leaving (envOfC qual scope s.heap.objs.size f cd) e) (λ _ s'' => CX outer H s E e s'') (λ e' s'' => CX outer H s E e' s'') s'
theorem cell_has {sc : Scope} {n : Nat} {x : Str} (h : sc.names.lookup x = some .cell) : ∃ c, (cellsFrom n sc.names []).lookup x = some c := by
 have q := PySem.W.cellsFrom_some sc.names n [] (.inl h)
 exact Option.isSome_iff_exists.mp q
theorem inv_start {CX : CXT} {P : Program} {w : World} {K : Fg} {mg : Str -> Option Value} {base : Heap} {N ps : List Str} {qual : Str} {scope : Scope} {f : Addr} {cd : Value} {A : Around} {outer : List Env} {s s1 : Shared} {H : Hp} {E : XK} {us : List Value} {vs : List V}
 (S : FnScope N ps scope) (hd : A.handled = none) (e0 : Env0 P w K mg base A outer s H) (hl : vs.length = ps.length) (r : Vals vs us)
 (x : InCallC s s.heap.objs.size (bindL (envOfC qual scope s.heap.objs.size f cd).kindOf (ps.zip us) λ _ => none) (cellsFrom (s.heap.objs.size + 1) scope.names []) (bindC (envOfC qual scope s.heap.objs.size f cd).kindOf (ps.zip us) λ _ => none) s1) :
 Inv (cxOf CX P w K mg base N qual scope f cd A outer s H E) [] (start N vs) H s1 := by
 have hpl : ps.length <= N.length := by have := congrArg List.length S.pre; rw [Q1a] at this; omega
 obtain ⟨h1, tk, rfl, hk⟩ := x.done
 have noA : ∀ b : Addr, b ∉ (cxOf CX P w K mg base N qual scope f cd A outer s H E).ex := λ b z => absurd (show b ∈ ([] : List Addr) from z) (by simp)
 refine ⟨⟨e0.mod, S.kind, rfl, rfl, Q1 _, λ y z c h1 h2 => ?_, λ y hy => ?_, λ y c _ h => ?_, λ _ => hd, Around.frames_deeper e0.frames, .inr ⟨rfl, rfl⟩, λ b z => absurd z (noA b), e0.bs, e0.bsz, λ b _ _ => noA b, λ b z => absurd z (noA b), e0.funs, e0.frf⟩,
  rfl, e0.bare, Un.kept hk, ⟨_, x.toInCall.ns, λ i y v h1 h2 h3 => ?_⟩, λ y c h => ⟨_, x.cell y c h⟩, e0.hok.fresh (Q1 _), λ y c h => ?_, λ p hp => absurd (show p ∈ ([] : List (Addr × Obj)) from hp) (by simp), e0.hok.kept hk, ?_⟩
 · exact name_of_addr x.apart (PySem.mem_of_lookup h1) (PySem.mem_of_lookup h2)
 · have hy : scope.names.lookup y = some .cell \/ scope.names.lookup y = some .free := hy
   rcases hy with hy | hy
   · exact cell_has hy
   · exact absurd rfl (S.nofree _ (PySem.mem_of_lookup hy))
 · exact nLe (x.above y c (PySem.mem_of_lookup h))
 · have hi : i < vs.length := by
    unfold start at h2
    by_cases hi : i < vs.length
    · exact hi
    · rw [Q6 (by simpa using hi)] at h2
      rw [Q8] at h2
      split at h2 <;> cases h2
   have ha : vs[i]? = some v := by
    unfold start at h2
    rw [Q5 (by simpa using hi), zK] at h2
    cases e : vs[i]? with
    | none => rw [e] at h2; cases h2
    | some a => rw [e] at h2; cases h2; rfl
   obtain ⟨u, hu, rv⟩ := r.get ha
   have hp : ps[i]? = some y := by
    rw [<- S.pre, List.getElem?_take_of_lt (by omega)]; exact h1
   have ndP : ps.Nodup := by rw [<- S.pre]; exact S.nd.sublist (List.take_sublist _ _)
   refine ⟨u, rv, ?_⟩
   rcases S.par y (List.mem_of_getElem? hp) with k | k
   · exact .inl ⟨k, bindL_get ndP hp hu k⟩
   · obtain ⟨c, e⟩ := cell_has (n := s.heap.objs.size + 1) k
     refine .inr ⟨.inl k, c, e, ?_⟩
     have q := x.cell y c e
     rw [bindC_get ndP hp hu (by show scope.names.lookup y ≠ _; rw [k]; decide)] at q
     exact q
 · exact e0.hok.fresh (nLe (x.above y c (PySem.mem_of_lookup h)))
 · unfold start
   show _ = N.length
   rw [zQ, zJ, Q18]
   omega
theorem fn_of {CX : CXT} {P : Program} {w : World} {K : Fg} {mg : Str -> Option Value} {base : Heap} {k : Nat} {f : Addr} {name qual : Str} {params : Arguments} {body : List Stmt} {scope : Scope} {dV kV doc pm cdv ct oc : Value} {an od : Option Addr}
 {osl : Array (Option Value)} {N ps : List Str} {sp : Sp} (lk : K.lookup f = some ⟨oc, od, .func (PySem.W.fnOf name qual params body scope dV kV doc pm an cdv ct), osl⟩) (hcd : PySem.W.codeIn K cdv qual = true) (S : FnScope N ps scope)
 (len : ∀ vs H Q E, sp vs H Q E -> vs.length = ps.length)
 (hbody : ∀ (A : Around) (outer : List Env) (s : Shared) (H : Hp) (vs : List V) (Q : VK) (E : XK), Room k (A.deeper (envOfC qual scope s.heap.objs.size f cdv)) -> sp vs H Q E ->
  ∃ t, PSs (cxOf CX P w K mg base N qual scope f cdv A outer s H E) body t /\ t { nx := λ _ H' => Q .non H', rt := Q } (start N vs) H) :
 FnOk P w K mg base CX (k + 1) f (PySem.W.fnOf name qual params body scope dV kV doc pm an cdv ct) ps sp := by
 refine ⟨len, λ A outer s H args us vs Q E hr e0 hb r hsp => ?_⟩
 have hl := len _ _ _ _ hsp
 have KX : K.In s.heap := e0.mod.kin.keeps λ b o e => (e0.bs b o e).1
 have lim : s.heap.NoLimit := e0.mod.nolimit.keeps λ b o e => (e0.bs b o e).1
 have hkind : ∀ y ∈ ps.zip us, scope.names.lookup y.1 = some .local \/ (scope.names.lookup y.1 = some .cell /\ ((cellsFrom (s.heap.objs.size + 1) scope.names []).lookup y.1).isSome = true) := λ ⟨n, v⟩ hy => by
  rcases S.par n (List.of_mem_zip hy).1 with q | q
  · exact .inl q
  · exact .inr ⟨q, PySem.W.cellsFrom_some _ _ _ (.inl q)⟩
 refine codeAny_call_function hr.depth (KX _ _ lk) rfl S.co S.gen rfl (PySem.W.codeRec_of KX hcd) (hb _ _ _ _ ?_)
 refine wpAny_newFunctionEnv_cells S.kind hkind λ env he s1 x => ?_
 subst he
 refine ⟨lim.keeps x.toInCall.keep, codeAny_func ?_⟩
 obtain ⟨t, ht, hq⟩ := hbody A outer s H vs Q E (hr.deeper _) hsp
 have I : Inv (cxOf CX P w K mg base N qual scope f cdv A outer s H E) [] (start N vs) H s1 := inv_start S hr.hd e0 hl r x
 refine wpAny_mono (ht [] s1 (start N vs) H _ I hq) (λ fl s' hs => ?_) λ e s' hs => hs
 have fin : ∀ {σ' : St} {H' : Hp} {v : V} {u : Value}, Inv (cxOf CX P w K mg base N qual scope f cdv A outer s H E) [] σ' H' s' -> RelV v u -> Q v H' -> CE outer P w H s Q u s' :=
  λ {σ' H' v u} J rv q => ⟨v, H', J.os, J.bare, J.base, J.hok, rv, q⟩
 cases fl with
 | ret u =>
  obtain ⟨v, σ', H', J, rv, q⟩ := hs
  exact fin J rv q
 | next =>
  obtain ⟨σ', H', J, q⟩ := hs
  exact fin (v := V.non) (u := Value.none) J rfl q
 | brk =>
  obtain ⟨_, _, _, q⟩ := hs
  exact False.elim q
 | cont =>
  obtain ⟨_, _, _, q⟩ := hs
  exact False.elim q
section
variable {X : Cx} {x : Str} {p pos : Pos} {e : Expr} {es : List Expr} {t : TA} {id T : String} {r : List V -> Hp -> VK -> Prop}
def tCB (r : List V -> Hp -> VK -> Prop) (t : TA) : TE := λ σ H Q => t σ H λ vs H1 => r vs H1 Q
theorem pe_callB (hc : CallR X (.builtin id) r) (hg : Gl X x) (hm : X.mg x = none) (hv : bootBuiltins x = some (.builtin id)) (ha : PA X (e :: es) t) (hn : x ≠ "__name__" := by decide) (hdb : (x == ("__debug__" : Str)) = false := by decide)
 (he : starEach (e :: es) X.env = (false, eval e X.env) :: starEach es X.env := by rfl) (hpl : (backTo pos (starEach es X.env)).any (·.1) = false := by rfl) : PE X (.Call (.Name x p) (e :: es) [] pos) (tCB r t) := by
 intro pins s σ H Q I h
 refine wpAny_Call_Name_kw (ld_blt I hg hm hv ?_ hn hdb)
 exact PyProof.Rows.callWith_builtin1 (thn (ha pos pins s σ H _ I h) λ us s1 q_ => by obtain ⟨vs, H1, I1, r1, q1⟩ := q_; exact hc pins s1 σ H1 vs us Q I1 r1 q1) he hpl
theorem pe_callTy (hc : CallR X (.type T) r) (hg : Gl X x) (hm : X.mg x = none) (hv : bootBuiltins x = some (.type T)) (ha : PA X (e :: es) t) (hn : x ≠ "__name__" := by decide) (hdb : (x == ("__debug__" : Str)) = false := by decide)
 (he : starEach (e :: es) X.env = (false, eval e X.env) :: starEach es X.env := by rfl) (hpl : (backTo pos (starEach es X.env)).any (·.1) = false := by rfl) : PE X (.Call (.Name x p) (e :: es) [] pos) (tCB r t) := by
 intro pins s σ H Q I h
 refine wpAny_Call_Name_kw (ld_blt I hg hm hv ?_ hn hdb)
 exact PyProof.Rows.callWith_type1 (thn (ha pos pins s σ H _ I h) λ us s1 q_ => by obtain ⟨vs, H1, I1, r1, q1⟩ := q_; exact hc pins s1 σ H1 vs us Q I1 r1 q1) he hpl
end
end L2
namespace HT
open PySem PyProof.Rows
section
open PySem.SeqAt
open PySem.AutoSeq1 (wpAny_loadPart')
open PySem.MeetsSeq PySem.MeetsSeq2 PySem.MeetsSeq3
end
section
variable {prog : Program} {w : World} {A : Around} {E : Value -> Shared -> Prop} {s : Shared}
theorem cat_tup {t b : Addr} {vs ws : List Value} {Q : Value -> Shared -> Prop} (ht : IsTup s.heap t vs.toArray) (hb : IsTup s.heap b ws.toArray) (hv : vs ≠ [])
 (h1 : ws = [] -> Q (.ref t) s) (h2 : ws ≠ [] -> Q (.ref s.heap.objs.size) { s with heap := s.heap.push { cls := .type "tuple", data := .seq (vs ++ ws).toArray } })
 (hsz : vs.length + ws.length <= sizeLine) : wpAny (model prog w) A (binaryOp .Add (.ref t) (.ref b)) Q E s := by
 obtain ⟨⟨cls, dd, data, sl⟩, ho, hc, n, hd⟩ := id ht
 obtain ⟨⟨cls2, dd2, data2, sl2⟩, ho2, hc2, n2, hd2⟩ := id hb
 simp only at hc hd hc2 hd2
 subst hc hd hc2 hd2
 have e : vs.toArray ++ ws.toArray = (vs ++ ws).toArray := by simp
 by_cases hw : ws = []
 · exact concat_meets ⟨_, ho, rfl⟩ ⟨_, ho2, rfl⟩ noFill_tuple_add seq_tuple_add PySem.F.slot_tuple_add PySem.F.entry_tuple_add (PySem.F.args_tuple_add_2 _ _)
    (tuple_addW1 t b vs.toArray ws.toArray n n2 dd dd2 sl sl2 (by simpa using hv) (by simp [hw])) ⟨ho, ho2, h1 hw⟩
 · refine concat_meets ⟨_, ho, rfl⟩ ⟨_, ho2, rfl⟩ noFill_tuple_add seq_tuple_add PySem.F.slot_tuple_add PySem.F.entry_tuple_add (PySem.F.args_tuple_add_2 _ _)
    (tuple_addW2 t b vs.toArray ws.toArray n n2 dd dd2 sl sl2 (by simpa using hv) (by simpa using hw) (by rw [zM, zM]; exact hsz)) ⟨ho, ho2, ?_⟩
   rw [e]
   exact h2 hw
noncomputable def sIx (n d : Nat) : Option Int -> Nat
 | none => d
 | some v => if v < 0 then (v + (n : Int)).toNat else min v.toNat n
theorem sIx_none (n d : Nat) : sIx n d none = d := rfl
theorem sIx_nat (n d k : Nat) : sIx n d (some (k : Int)) = min k n := by
 show (if (k : Int) < 0 then ((k : Int) + (n : Int)).toNat else min (k : Int).toNat n) = min k n
 rw [if_neg (by omega), Q20]
theorem sIx_le (n d : Nat) (hd : d <= n) (o : Option Int) : sIx n d o <= n := by
 cases o with
 | none => exact hd
 | some v =>
  show (if v < 0 then (v + (n : Int)).toNat else min v.toNat n) <= n
  by_cases hv : v < 0
  · rw [if_pos hv]; omega
  · rw [if_neg hv]; exact Nat.min_le_right _ _
theorem clip_eq (v : Int) (n d : Nat) : (if v < 0 then max (v + (n : Int)) 0 else min v (n : Int)) = ((sIx n d (some v) : Nat) : Int) := by
 show (if v < 0 then max (v + (n : Int)) 0 else min v (n : Int)) = (((if v < 0 then (v + (n : Int)).toNat else min v.toNat n) : Nat) : Int)
 by_cases hv : v < 0
 · simp only [if_pos hv]; omega
 · simp only [if_neg hv]; omega
theorem adjust_gen (lo hi : Option Int) (n : Nat) : Builtin.Slice.sliceAdjust lo hi 1 (n : Int) = (((sIx n 0 lo : Nat) : Int), ((sIx n n hi : Nat) : Int)) := by
 have h1 : ¬ ((1 : Int) < 0) := by omega
 unfold Builtin.Slice.sliceAdjust
 simp only [h1, if_false]
 refine Prod.ext ?_ ?_
 · cases lo with
   | none => rfl
   | some v => exact clip_eq v n 0
 · cases hi with
   | none => rfl
   | some v => exact clip_eq v n n
theorem places_gen (i j : Nat) : Builtin.Slice.slicePlaces (i : Int) (j : Int) 1 = j - i := by
 unfold Builtin.Slice.slicePlaces
 have h1 : (1 : Int) > 0 := by omega
 simp only [h1, if_true, Int.ediv_one]
 split <;> omega
theorem slicePart_ {v : Value} {o : Option Int} {Q : Option Int -> Shared -> Prop} (p : IsPart v o) (h : Q o s) : wpAny (model prog w) A (Builtin.Slice.slicePartIndex v) Q E s := by
 cases p with
 | none => exact slicePart_none h
 | int i t => exact slicePart_int h
theorem sliceApplied_gen {sl : Addr} {vl vu : Value} {lo hi : Option Int} {n : Nat} {Q : Int × Int × Nat -> Shared -> Prop} (hs : s.heap.IsSliceOf sl vl vu .none) (pl : IsPart vl lo) (pu : IsPart vu hi)
 (h : Q (((sIx n 0 lo : Nat) : Int), 1, sIx n n hi - sIx n 0 lo) s) : wpAny (model prog w) A (Builtin.Slice.sliceApplied (.ref sl) (pure (n : Int))) Q E s := by
 obtain ⟨os, hos, hcs, hds⟩ := id hs
 unfold Builtin.Slice.sliceApplied Builtin.Slice.sliceFields
 refine wB (wB (wpAny_field hos hds (x := vl) rfl (wB (wpAny_field hos hds (x := vu) rfl (wB (wpAny_field hos hds (x := .none) rfl (wP ?_)))))))
 refine wB (slicePart_none ?_)
 show wpAny _ _ (if ((1 : Int) == 0) = true then _ else _) _ _ s
 rw [if_neg (by decide)]
 refine wB (slicePart_ pl (wB (slicePart_ pu (wB (wP ?_)))))
 show wpAny _ _ (match Builtin.Slice.sliceAdjust lo hi 1 (n : Int) with | (lo, hi) => pure (lo, (1 : Int), Builtin.Slice.slicePlaces lo hi 1)) _ _ s
 rw [adjust_gen lo hi n]
 show wpAny _ _ (pure (((sIx n 0 lo : Nat) : Int), (1 : Int), Builtin.Slice.slicePlaces ((sIx n 0 lo : Nat) : Int) ((sIx n n hi : Nat) : Int) 1)) _ _ s
 rw [places_gen]
 exact wP h
theorem pick_gen (xs : Array Value) (i k : Nat) : ((List.range k).filterMap λ (m : Nat) => xs[((i : Int) + (m : Int) * 1).toNat]?).toArray = ((xs.toList.drop i).take k).toArray := by
 have e : (λ (m : Nat) => xs[((i : Int) + (m : Int) * 1).toNat]?) = λ m => xs[i + m]? := by
  funext m
  have : ((i : Int) + (m : Int) * 1).toNat = i + m := by omega
  rw [this]
 rw [e]
 have := pick_run xs i k
 rw [List.filterMap_map] at this
 have e2 : ((λ x => xs[x]?) ∘ λ x => i + x) = λ m => xs[i + m]? := rfl
 rw [e2] at this
 rw [this]
theorem getItem_tuple_cut {t sl : Addr} {items : Array Value} {vl vu : Value} {lo hi : Option Int} {Q : Value -> Shared -> Prop} (ht : IsTup s.heap t items) (hs : s.heap.IsSliceOf sl vl vu .none) (pl : IsPart vl lo) (pu : IsPart vu hi)
 (hw : ¬ (sIx items.size 0 lo = 0 /\ sIx items.size items.size hi = items.size))
 (h : Q (.ref s.heap.objs.size) { s with heap := s.heap.push { cls := .type "tuple", data := .seq ((items.toList.drop (sIx items.size 0 lo)).take (sIx items.size items.size hi - sIx items.size 0 lo)).toArray } })
 (hsz : items.size <= sizeLine) : wpAny (model prog w) A (getItem (.ref t) (.ref sl)) Q E s := by
 have htake : sizeOk (.seq ((items.toList.drop (sIx items.size 0 lo)).take (sIx items.size items.size hi - sIx items.size 0 lo)).toArray) := by
  show ((items.toList.drop (sIx items.size 0 lo)).take (sIx items.size items.size hi - sIx items.size 0 lo)).toArray.size <= sizeLine
  rw [zM, Q1a, List.length_drop, Q15]
  omega
 have hj : sIx items.size items.size hi <= items.size := sIx_le _ _ (Q1 _) hi
 obtain ⟨os, hos, hcs, hds⟩ := id hs
 have hTs : s.TypeIs (.ref sl) "slice" := ⟨os, hos, hcs⟩
 unfold getItem
 try with_reducible refine wpAny_holding ?_
 first | refine wB (wP ?_) | skip
 refine wB (wpAny_sequenceKey ht.typeIs (by decide) ?_)
 refine wB (wpAny_callSpecial?_slot (name := Str.ofString "__getitem__") ht.typeIs PyProof.Rows.slot_tuple_getitem
  (wpAny_call_entry PyProof.Rows.slot_tuple_getitem ht.typeIs entry_tuple_getitem ?_ (args_tuple_getitem _ _)))
 show wpAny _ _ (Builtin.Tuple.tupleItemsOf (.ref t) >>= _) _ _ s
 refine wB (tupleItemsOf_ ht ?_)
 refine wB (wpAny_typeOf hTs ?_)
 rw [if_pos (by decide)]
 refine wB (sliceApplied_gen hs pl pu ?_)
 have hno : ¬ ((((sIx items.size 0 lo : Nat) : Int) == 0 && (1 : Int) == 1 && (sIx items.size items.size hi - sIx items.size 0 lo) == items.size) = true) := by
  intro q
  rw [Q2, Q2] at q
  have q1 : ((sIx items.size 0 lo : Nat) : Int) = 0 := eq_of_beq q.1.1
  have q2 : sIx items.size items.size hi - sIx items.size 0 lo = items.size := eq_of_beq q.2
  exact hw ⟨by omega, by omega⟩
 show wpAny _ _ (if (((sIx items.size 0 lo : Nat) : Int) == 0 && (1 : Int) == 1 && (sIx items.size items.size hi - sIx items.size 0 lo) == items.size) = true then _ else _) _ _ s
 rw [if_neg hno, pick_gen]
 first
  | exact wB (m := Builtin.Tuple.tupleExact _) (wpAny_newObj_type (wP ⟨_, rfl, wP h⟩) htake)
  | exact wB (m := Builtin.Tuple.tupleExact _) (wpAny_newObj_type (wB (wP (wP ⟨_, rfl, wP h⟩))) htake)
  | exact wB (wB (m := Builtin.Tuple.tupleExact _) (wpAny_newObj_type (wP (wP ⟨_, rfl, wP h⟩)) htake))
  | exact wB (wB (m := Builtin.Tuple.tupleExact _) (wpAny_newObj_type (wP ⟨_, rfl, wP h⟩) htake))
end
end HT
namespace L2
open PySem PySem.Spec PyProof.Rows
noncomputable abbrev TO := St -> Hp -> (Option Int -> Hp -> Prop) -> Prop
def PO (X : Cx) (e : Option Expr) (t : TO) : Prop :=
 ∀ (pins : List (Addr × Obj)) (s : Shared) (σ : St) (H : Hp) (Q : Option Int -> Hp -> Prop), Inv X pins σ H s -> t σ H Q ->
  wpAny (model X.prog X.w) X.A (evalPart e X.env) (λ u s' => ∃ o H', Inv X pins σ H' s' /\ IsPart u o /\ Q o H') X.xe s
noncomputable def tNoPart : TO := λ _ H Q => Q none H
noncomputable def tPart (t : TE) : TO := λ σ H Q => t σ H λ x H1 => ∃ i, x = .int i /\ Q (some i) H1
section
variable {X : Cx} {e : Expr} {te : TE} {lo hi : Option Expr} {tl th : TO} {pos p2 : Pos}
theorem po_none : PO X none tNoPart := by
 intro pins s σ H Q I h
 rw [evalPart_none]
 exact wP ⟨none, H, I, .none, h⟩
theorem po_some (h : PE X e te) : PO X (some e) (tPart te) := by
 intro pins s σ H Q I hw
 rw [evalPart_some]
 refine thn (h pins s σ H _ I hw) λ u s1 q_ => ?_
 obtain ⟨x, H1, I1, r1, q1⟩ := q_
 obtain ⟨i, rfl, q⟩ := q1
 obtain ⟨t, rfl⟩ := r1
 exact ⟨some i, H1, I1, .int i t, q⟩
def SlR (X : Cx) (r : V -> Option Int -> Option Int -> Hp -> VK -> Prop) : Prop :=
 ∀ (pins : List (Addr × Obj)) (s : Shared) (σ : St) (H : Hp) (x : V) (v vl vu : Value) (lo hi : Option Int) (sl : Addr) (Q : VK), Inv X pins σ H s -> RelV x v -> s.heap.IsSliceOf sl vl vu .none -> IsPart vl lo -> IsPart vu hi -> r x lo hi H Q ->
  ∃ T id, typeLookup (.type T) "__getitem__" = pure (some (.builtin id)) /\ s.TypeIs v T /\ wpAny (model X.prog X.w) X.A (getItem v (.ref sl)) (EP X pins σ Q) X.xe s
theorem SlR.or {r r' : V -> Option Int -> Option Int -> Hp -> VK -> Prop} (h : SlR X r) (h' : SlR X r') : SlR X (λ x lo hi H Q => r x lo hi H Q \/ r' x lo hi H Q) := by
 intro pins s σ H x v vl vu lo hi sl Q I rx hs pl pu q
 rcases q with q | q
 · exact h pins s σ H x v vl vu lo hi sl Q I rx hs pl pu q
 · exact h' pins s σ H x v vl vu lo hi sl Q I rx hs pl pu q
def tSl (r : V -> Option Int -> Option Int -> Hp -> VK -> Prop) (te : TE) (tl th : TO) : TE := λ σ H Q => te σ H λ x H1 => tl σ H1 λ l H2 => th σ H2 λ u H3 => r x l u H3 Q
theorem pe_slice {r : V -> Option Int -> Option Int -> Hp -> VK -> Prop} (hr : SlR X r) (he : PE X e te) (hl : PO X lo tl) (hu : PO X hi th) : PE X (.Subscript e (.Slice lo hi none p2) pos) (tSl r te tl th) := by
 intro pins s σ H Q I h
 refine Subscript_ (thn (he pins s σ H _ I h) λ v s1 q_ => ?_)
 obtain ⟨x, H1, I1, r1, q1⟩ := q_
 refine wpAny_Slice (thn (hl pins s1 σ H1 _ I1 q1) λ vl s2 ⟨l, H2, I2, pl, q2⟩ => thn (hu pins s2 σ H2 _ I2 q2) λ vu s3 q_ => ?_)
 obtain ⟨u, H3, I3, pu, q3⟩ := q_
 rw [evalPart_none]
 refine wP ?_
 have I4 : Inv X pins σ H3 { s3 with heap := s3.heap.push { cls := .type "slice", data := .fields #[vl, vu, .none] } } := I3.kept (t' := s3.toks) λ b ob q => hPo _ q
 obtain ⟨T, id, hT, ht, hg⟩ := hr pins { s3 with heap := s3.heap.push { cls := .type "slice", data := .fields #[vl, vu, .none] } } σ H3 x v vl vu l u s3.heap.objs.size Q I4 r1 (Heap.IsSliceOf.new ..) pl pu q3
 show wpAny (model X.prog X.w) X.A (subscriptTail e (.Slice lo hi none p2) v (.ref s3.heap.objs.size)) (EP X pins σ Q) X.xe { s3 with heap := s3.heap.push { cls := .type "slice", data := .fields #[vl, vu, .none] } }
 exact tail_any (ops := [.ref s3.heap.objs.size, v]) ht hT hg (by with_unfolding_all rfl)
noncomputable def cutV (xs : List V) (lo hi : Option Int) : List V := (xs.drop (HT.sIx xs.length 0 lo)).take (HT.sIx xs.length xs.length hi - HT.sIx xs.length 0 lo)
theorem cutV_length (xs : List V) (lo hi : Option Int) : (cutV xs lo hi).length <= xs.length := by
 unfold cutV
 rw [Q1a, List.length_drop]
 omega
def rSlT (K : Fg) : V -> Option Int -> Option Int -> Hp -> VK -> Prop := λ x lo hi H Q => ∃ a xs, x = .ref a /\ SqT K H a xs /\
 ¬ (HT.sIx xs.length 0 lo = 0 /\ HT.sIx xs.length xs.length hi = xs.length) /\ ∀ p, H p = none -> Q (.ref p) (upd H p (.tup (cutV xs lo hi)))
theorem sl_tup : SlR X (rSlT X.K) := by
 intro pins s σ H x v vl vu lo hi sl Q I rx hs pl pu h
 obtain ⟨a, xs, rfl, hx, hw, q⟩ := h
 cases rx
 obtain ⟨its, r, ht, hz⟩ := I.tuple hx
 have hlen : its.toArray.size = xs.length := by rw [zM]; exact r.length.symm
 refine ⟨"tuple", _, PyProof.Rows.slot_tuple_getitem.lookup, ht.typeIs, ?_⟩
 refine HT.getItem_tuple_cut ht hs pl pu (by rw [hlen]; exact hw) ?_ (by rw [hlen]; exact hz)
 rw [hlen]
 refine ⟨.ref s.heap.objs.size, _, I.laid (t' := s.toks) (o := .tup (cutV xs lo hi)) (λ b ob q => hPo _ q) (Q1 _) ?_, rfl, q _ (I.hok.fresh (Q1 _))⟩
 exact ⟨Q9 (cutV_length xs lo hi) hz, _, (r.drop (HT.sIx xs.length 0 lo)).take (HT.sIx xs.length xs.length hi - HT.sIx xs.length 0 lo), IsTup.new _ _, _, hPs _ rfl, rfl⟩
def rCatT (K : Fg) : R2 := λ x y H Q => ∃ a b xs ys, x = .ref a /\ y = .ref b /\ SqT K H a xs /\ SqT K H b ys /\ xs ≠ [] /\ xs.length + ys.length <= sizeLine /\
 (ys = [] -> Q (.ref a) H) /\ (ys ≠ [] -> ∀ p, H p = none -> Q (.ref p) (upd H p (.tup (xs ++ ys))))
theorem Vals.nil_iff {xs : List V} {us : List Value} (r : Vals xs us) : us = [] ↔ xs = [] := by
 cases r with
 | nil => simp
 | cons _ _ => simp
theorem op_catT : OpR X (binaryOp .Add) (rCatT X.K) := by
 intro pins s σ H x y v u Q I rx ry h
 obtain ⟨a, b, xs, ys, rfl, rfl, ha, hb, hx, hz, q1, q2⟩ := h
 cases rx
 cases ry
 obtain ⟨its, r1, p1, _⟩ := I.tuple ha
 obtain ⟨its2, r2, p2, _⟩ := I.tuple hb
 refine HT.cat_tup p1 p2 (λ z => hx (r1.nil_iff.mp z)) (λ z => ⟨.ref a, H, I, rfl, q1 (r2.nil_iff.mp z)⟩) (λ z => ?_) (by rw [<- r1.length, <- r2.length]; exact hz)
 refine ⟨.ref s.heap.objs.size, _, I.laid (t' := s.toks) (o := .tup (xs ++ ys)) (λ b ob q => hPo _ q) (Q1 _) ?_, rfl, q2 (λ w => z (r2.nil_iff.mpr w)) _ (I.hok.fresh (Q1 _))⟩
 exact ⟨by rw [zQ]; exact hz, _, r1.append r2, IsTup.new _ _, _, hPs _ rfl, rfl⟩
end
noncomputable def ixN (n : Nat) (i : Int) : Option Nat := if 0 <= i then (if i < n then some i.toNat else none) else if -(n : Int) <= i then some (i + n).toNat else none
noncomputable def atI {α : Type} (xs : List α) (i : Int) : Option α := (ixN xs.length i).bind λ j => xs[j]?
theorem ixN_seq {n : Nat} {i : Int} {j : Nat} (h : ixN n i = some j) : seqIndex? i n = some j /\ j < n /\ -(n : Int) <= i /\ i < n := by
 unfold ixN at h
 by_cases h0 : 0 <= i
 · rw [if_pos h0] at h
   by_cases h1 : i < n
   · rw [if_pos h1] at h
     have e : i.toNat = j := zV h
     exact ⟨by rw [seqIndex_of h0 h1, e], by omega, by omega, h1⟩
   · rw [if_neg h1] at h; cases h
 · rw [if_neg h0] at h
   by_cases h1 : -(n : Int) <= i
   · rw [if_pos h1] at h
     have e : (i + n).toNat = j := zV h
     exact ⟨by rw [seqIndex_neg (by omega) h1, e], by omega, h1, by omega⟩
   · rw [if_neg h1] at h; cases h
theorem atI_get {α : Type} {xs : List α} {i : Int} {v : α} (h : atI xs i = some v) : ∃ j, seqIndex? i xs.length = some j /\ xs[j]? = some v /\ j < xs.length /\ -(xs.length : Int) <= i /\ i < xs.length := by
 unfold atI at h
 cases e : ixN xs.length i with
 | none => rw [e] at h; cases h
 | some j =>
  rw [e] at h
  obtain ⟨h1, h2, h3, h4⟩ := ixN_seq e
  exact ⟨j, h1, h, h2, h3, h4⟩
theorem atI_nat {α : Type} {xs : List α} {j : Nat} {v : α} (h : xs[j]? = some v) : atI xs (j : Int) = some v := by
 have hj : j < xs.length := (Qa.mp h).1
 have e : ixN xs.length (j : Int) = some j := by
  unfold ixN
  rw [if_pos (by omega), if_pos (by omega)]; simp
 unfold atI; rw [e]; exact h
theorem atI_last {α : Type} (xs : List α) (v : α) : atI (xs ++ [v]) (-1) = some v := by
 have hl : (xs ++ [v]).length = xs.length + 1 := by simp
 have e : ixN (xs ++ [v]).length (-1) = some xs.length := by
  unfold ixN
  rw [hl, if_neg (by decide), if_pos (by omega)]
  congr 1
  omega
 unfold atI
 rw [e]
 show (xs ++ [v])[xs.length]? = some v
 simp
def PlainIx (b : Expr) : Prop := ∀ o i, subscripted b false o i = operate [o, i] (getItem o i)
def IxR (X : Cx) (r : R2) : Prop :=
 ∀ (value slice : Expr) (pins : List (Addr × Obj)) (s : Shared) (σ : St) (H : Hp) (x y : V) (v u : Value) (Q : VK), Inv X pins σ H s -> RelV x v -> RelV y u -> r x y H Q ->
  subscripted slice false v u = operate [v, u] (getItem v u) -> wpAny (model X.prog X.w) X.A (subscriptTail value slice v u) (EP X pins σ Q) X.xe s
def MtR (X : Cx) (id : String) (r : V -> List V -> Hp -> VK -> Prop) : Prop :=
 ∀ (pins : List (Addr × Obj)) (s : Shared) (σ : St) (H : Hp) (x : V) (xs : List V) (v : Value) (us : List Value) (Q : VK), Inv X pins σ H s -> RelV x v -> Vals xs us -> r x xs H Q ->
  wpAny (model X.prog X.w) X.A (call (.builtin id) (v :: us)) (EP X pins σ Q) X.xe s
section
variable {X : Cx} {a b : Expr} {ta tb : TE} {pos : Pos}
theorem IxR.or {r r' : R2} (h : IxR X r) (h' : IxR X r') : IxR X (λ x y H Q => r x y H Q \/ r' x y H Q) := by
 intro value slice pins s σ H x y v u Q I rx ry q hs
 rcases q with q | q
 · exact h value slice pins s σ H x y v u Q I rx ry q hs
 · exact h' value slice pins s σ H x y v u Q I rx ry q hs
theorem pe_ix {r : R2} (hr : IxR X r) (ha : PE X a ta) (hb : PE X b tb) (hs : PlainIx b) : PE X (.Subscript a b pos) (tOp r ta tb) := by
 intro pins s σ H Q I h
 exact Subscript_ (binT ha hb I h λ v u s2 x y H2 I2 rx ry q => hr a b pins s2 σ H2 x y v u Q I2 rx ry q (hs _ _))
def rIxL (K : Fg) : R2 := λ x y H Q => ∃ p xs i v, x = .ref p /\ y = .int i /\ SqL K H p xs /\ atI xs i = some v /\ Q v H
def rIxT (K : Fg) : R2 := λ x y H Q => ∃ p xs i v, x = .ref p /\ y = .int i /\ SqT K H p xs /\ atI xs i = some v /\ Q v H
def rIxS : R2 := λ x y H Q => ∃ z i c, x = .str z /\ y = .int i /\ z.length <= sizeLine /\ atI z.cps.toList i = some c /\ Q (.str ⟨#[c]⟩) H
theorem ix_list : IxR X (rIxL X.K) := by
 intro value slice pins s σ H x y v u Q I rx ry h hs
 obtain ⟨p, xs, i, z, rfl, rfl, hq, he, q⟩ := h
 cases rx
 obtain ⟨t, rfl⟩ := ry
 obtain ⟨its, r, pl, hz⟩ := I.list hq
 obtain ⟨j, h1, h2, h3, h4, h5⟩ := atI_get he
 obtain ⟨w, ew, rw'⟩ := r.get h2
 have hl := r.length
 have hn := line63
 have fin : EP X pins σ Q w s := ⟨z, H, I, rw', q⟩
 by_cases h0 : 0 <= i
 · have hj : i.toNat = j := by
    rw [seqIndex_of h0 h5] at h1
    exact zV h1
   exact item_listR pl.isList h0 (by omega) (by rw [hj]; simpa using ew) fin hs
 · have hj : (i + (its.toArray.size : Int)).toNat = j := by
    rw [seqIndex_neg (by omega) h4] at h1
    rw [zM, <- hl]
    exact zV h1
   exact subscriptTail_builtinR (x := w) pl.isList.typeIs slot_list_getitem.lookup
    (wpAny_getItem_list_neg (Q := λ r s' => r = w /\ EP X pins σ Q r s') pl.isList (by omega) (by rw [zM] <;> omega) (by omega) (by rw [hj]; simpa using ew) ⟨rfl, fin⟩) hs
theorem ix_tup : IxR X (rIxT X.K) := by
 intro value slice pins s σ H x y v u Q I rx ry h hs
 obtain ⟨p, xs, i, z, rfl, rfl, hq, he, q⟩ := h
 cases rx
 obtain ⟨t, rfl⟩ := ry
 obtain ⟨its, r, pl, hz⟩ := I.tuple hq
 obtain ⟨j, h1, h2, h3, h4, h5⟩ := atI_get he
 obtain ⟨w, ew, rw'⟩ := r.get h2
 have hl := r.length
 have hn := line63
 have fin : EP X pins σ Q w s := ⟨z, H, I, rw', q⟩
 exact subscriptTail_builtinR (x := w) pl.typeIs slot_tuple_getitem.lookup
  (getItem_tuple (j := j) (Q := λ r s' => r = w /\ EP X pins σ Q r s') pl (by omega) (by omega) (by rw [zM, <- hl]; exact h1) (by simpa using ew) ⟨rfl, fin⟩) hs
theorem ix_str : IxR X rIxS := by
 intro value slice pins s σ H x y v u Q I rx ry h hs
 obtain ⟨z, i, c, rfl, rfl, hz, he, q⟩ := h
 obtain ⟨t, rfl⟩ := rx
 obtain ⟨t', rfl⟩ := ry
 obtain ⟨j, h1, h2, h3, h4, h5⟩ := atI_get he
 have hl : z.cps.toList.length = z.length := by simp [Str.length]
 rw [hl] at h1 h4 h5
 have hn := line63
 exact tail_any (typeIs_str s z t) slot_str_getitem.lookup (getItem_str (c := c) (by
  have e1 : decide (i < -(2 ^ 63 : Int)) = false := decide_eq_false (by omega)
  have e2 : decide (i >= 2 ^ 63) = false := decide_eq_false (by omega)
  rw [e1, e2, Bool.or_false]) (by rw [h1]; simpa using h2) ⟨.str ⟨#[c]⟩, H, I.tok _, ⟨_, rfl⟩, q⟩) hs
def rIx (K : Fg) : R2 := λ x y H Q => rIxL K x y H Q \/ rIxT K x y H Q \/ rIxS x y H Q
theorem ix_seq : IxR X (rIx X.K) := ix_list.or (ix_tup.or ix_str)
theorem slice_bounds (lo hi : Option Int) (n : Nat) : (sliceBounds lo hi none n).1 = ((HT.sIx n 0 lo : Nat) : Int) /\ (sliceBounds lo hi none n).2.1 = ((HT.sIx n n hi : Nat) : Int) /\ (sliceBounds lo hi none n).2.2 = 1 := by
 refine ⟨?_, ?_, rfl⟩
 · cases lo with
   | none => simp [sliceBounds, HT.sIx]
   | some i =>
    simp only [sliceBounds, HT.sIx, Option.getD_none, show (1 : Int) > 0 by decide, if_true]
    by_cases h : i < 0
    · simp only [h, if_true] <;> omega
    · simp only [h, if_false] <;> omega
 · cases hi with
   | none => simp [sliceBounds, HT.sIx]
   | some i =>
    simp only [sliceBounds, HT.sIx, Option.getD_none, show (1 : Int) > 0 by decide, if_true]
    by_cases h : i < 0
    · simp only [h, if_true] <;> omega
    · simp only [h, if_false] <;> omega
theorem slicePick_cut (its : List Value) (lo hi : Option Int) : slicePick its.toArray lo hi none = ((its.drop (HT.sIx its.length 0 lo)).take (HT.sIx its.length its.length hi - HT.sIx its.length 0 lo)).toArray := by
 obtain ⟨h1, h2, h3⟩ := slice_bounds lo hi its.toArray.size
 unfold slicePick
 rw [h1, h2, h3]
 simp only [sliceRange_one, pick_run, zM] <;> rfl
def rSlL (K : Fg) : V -> Option Int -> Option Int -> Hp -> VK -> Prop := λ x lo hi H Q => ∃ a xs, x = .ref a /\ SqL K H a xs /\ ∀ p, H p = none -> Q (.ref p) (upd H p (.lst (cutV xs lo hi)))
theorem sl_list : SlR X (rSlL X.K) := by
 intro pins s σ H x v vl vu lo hi sl Q I rx hs pl pu h
 obtain ⟨a, xs, rfl, hx, q⟩ := h
 cases rx
 obtain ⟨its, r, ht, hz⟩ := I.list hx
 have hlen := r.length
 refine ⟨"list", _, slot_list_getitem.lookup, ht.isList.typeIs, ?_⟩
 refine wpAny_getItem_list_slice ht.isList hs pl pu .none (by simp) ?_ (by rw [zM] <;> omega)
 rw [slicePick_cut, <- hlen]
 refine ⟨.ref s.heap.objs.size, _, I.laid (t' := s.toks) (o := .lst (cutV xs lo hi)) (λ b ob q => hPo _ q) (Q1 _) ?_, rfl, q _ (I.hok.fresh (Q1 _))⟩
 exact ⟨Q9 (cutV_length xs lo hi) hz, _, 0, (r.drop (HT.sIx xs.length 0 lo)).take (HT.sIx xs.length xs.length hi - HT.sIx xs.length 0 lo), hPs _ rfl⟩
noncomputable def flatV : V -> Bool
 | .non => true
 | .bl _ => true
 | .int _ => true
 | .str _ => true
 | _ => false
noncomputable def eqV : V -> V -> Bool
 | .non, .non => true
 | .bl a, .bl b => a == b
 | .bl a, .int b => (if a then 1 else 0) == b
 | .int a, .bl b => a == (if b then 1 else 0)
 | .int a, .int b => a == b
 | .str a, .str b => a == b
 | _, _ => false
theorem eqAt_V {A : Around} {s : Shared} {y x : V} {u v : Value} (ry : RelV y u) (rx : RelV x v) (fy : flatV y = true) (fx : flatV x = true) : SeqAt.EqAt A s u v (eqV y x) := by
 cases y with
 | non =>
  cases ry
  cases x with
  | non => cases rx; exact SeqAt.EqAt.same _
  | bl b => cases rx; exact SeqAt.EqAt.none_bool b
  | int b => obtain ⟨t, rfl⟩ := rx; exact SeqAt.EqAt.none_int b t
  | str b => obtain ⟨t, rfl⟩ := rx; exact SeqAt.EqAt.none_str b t
  | _ => exact absurd (show false = true from fx) Qe
 | bl a =>
  cases ry
  cases x with
  | non => cases rx; exact SeqAt.EqAt.bool_none a
  | bl b => cases rx; exact SeqAt.EqAt.bool_bool a b
  | int b => obtain ⟨t, rfl⟩ := rx; exact SeqAt.EqAt.bool_int a b t
  | str b => obtain ⟨t, rfl⟩ := rx; exact SeqAt.EqAt.bool_str a b t
  | _ => exact absurd (show false = true from fx) Qe
 | int a =>
  obtain ⟨t', rfl⟩ := ry
  cases x with
  | non => cases rx; exact SeqAt.EqAt.int_none a t'
  | bl b => cases rx; exact SeqAt.EqAt.int_bool a t' b
  | int b => obtain ⟨t, rfl⟩ := rx; exact SeqAt.EqAt.int_int a t' b t
  | str b => obtain ⟨t, rfl⟩ := rx; exact SeqAt.EqAt.int_str a t' b t
  | _ => exact absurd (show false = true from fx) Qe
 | str a =>
  obtain ⟨t', rfl⟩ := ry
  cases x with
  | non => cases rx; exact SeqAt.EqAt.str_none a t'
  | bl b => cases rx; exact SeqAt.EqAt.str_bool a t' b
  | int b => obtain ⟨t, rfl⟩ := rx; exact SeqAt.EqAt.str_int a t' b t
  | str b => obtain ⟨t, rfl⟩ := rx; exact SeqAt.EqAt.str_str a t' b t
  | _ => exact absurd (show false = true from fx) Qe
 | _ => exact absurd (show false = true from fy) Qe
noncomputable def eqU (x : V) (u : Value) : Bool := match u with
 | .none => eqV .non x
 | .bool b => eqV (.bl b) x
 | .int i _ => eqV (.int i) x
 | .str z _ => eqV (.str z) x
 | _ => false
theorem eqU_of {x y : V} {u : Value} (r : RelV y u) (f : flatV y = true) : eqU x u = eqV y x := by
 cases y with
 | non => cases r; rfl
 | bl b => cases r; rfl
 | int i => obtain ⟨t, rfl⟩ := r; rfl
 | str z => obtain ⟨t, rfl⟩ := r; rfl
 | _ => exact absurd (show false = true from f) Qe
theorem any_eqU {x : V} {xs : List V} {us : List Value} (h : Vals xs us) (f : xs.all flatV = true) : us.any (eqU x) = xs.any λ y => eqV y x := by
 induction h with
 | nil => rfl
 | cons r t ih =>
  rw [List.all_cons, Q2] at f
  rw [List.any_cons, List.any_cons, eqU_of r f.1, ih f.2]
theorem mem_eqAt {A : Around} {s : Shared} {x : V} {v : Value} (rx : RelV x v) (fx : flatV x = true) {xs : List V} {us : List Value} (h : Vals xs us) (f : xs.all flatV = true) : ∀ u ∈ us, SeqAt.EqAt A s u v (eqU x u) := by
 induction h with
 | nil => exact λ u hu => by cases hu
 | cons r t ih =>
  intro u' hu
  rw [List.all_cons, Q2] at f
  rcases Qb.mp hu with rfl | hu
  · rw [eqU_of r f.1]; exact eqAt_V r rx f.1 fx
  · exact ih f.2 u' hu
noncomputable def inV (x : V) (xs : List V) : Bool := xs.any λ y => eqV y x
def rIn (K : Fg) (neg : Bool) : R2 := λ x y H Q => ∃ p xs, y = .ref p /\ (SqL K H p xs \/ SqT K H p xs) /\ flatV x = true /\ xs.all flatV = true /\ Q (.bl (if neg then !inV x xs else inV x xs)) H
theorem op_in_seq : OpR X (compareOp .In) (rIn X.K false) := by
 intro pins s σ H x y v u Q I rx ry h
 obtain ⟨p, xs, rfl, hq, fx, fs, q⟩ := h
 cases ry
 rcases hq with hq | hq
 · obtain ⟨its, r, pl, hz⟩ := I.list hq
   refine SeqAt.in_listAt (eqU x) pl.isList (λ w hw => mem_eqAt rx fx r fs w (by simpa using hw)) ⟨.bl _, H, I, rfl, ?_⟩
   rw [show its.toArray.any (eqU x) = its.any (eqU x) by simp, any_eqU r fs]
   exact q
 · obtain ⟨its, r, pl, hz⟩ := I.tuple hq
   refine SeqAt.in_tupleAt (eqU x) pl (λ w hw => mem_eqAt rx fx r fs w (by simpa using hw)) ⟨.bl _, H, I, rfl, ?_⟩
   rw [show its.toArray.any (eqU x) = its.any (eqU x) by simp, any_eqU r fs]
   exact q
theorem call_list_of : CallR X (.type "list") (λ xs H Q => ∃ p ys, xs = [.ref p] /\ (SqL X.K H p ys \/ SqT X.K H p ys) /\ ∀ l, H l = none -> Q (.ref l) (upd H l (.lst ys))) := by
 intro pins s σ H xs us Q I r h
 obtain ⟨p, ys, rfl, hq, q⟩ := h
 obtain ⟨u, rfl, rx⟩ := vals1 r
 cases rx
 have fin : ∀ (its : List Value), Vals ys its -> ys.length <= sizeLine -> ∀ (h' : Heap) (c' : Nat), (∀ b o', s.heap.get? b = some o' -> h'.get? b = some o') ->
  h'.get? s.heap.objs.size = some { cls := .type "list", dict := none, data := .seq its.toArray c', slots := #[] } -> EP X pins σ Q (.ref s.heap.objs.size) { s with heap := h' } := λ its r' hz h' c' kp e =>
  ⟨.ref s.heap.objs.size, _, I.laid (t' := s.toks) kp (Q1 _) (show ObjOk X.prog X.w _ h' _ (.lst ys) from ⟨hz, its, c', r', e⟩), rfl, q _ (I.hok.fresh (Q1 _))⟩
 rcases hq with hq | hq
 · obtain ⟨its, r', pl, hz⟩ := I.list hq
   have hlen := r'.length
   obtain ⟨o, ho, hc, n, hd⟩ := pl.isList
   exact call_list_seq p (.inl rfl) ho hc hd (λ h' c' kp e => fin its r' hz h' c' kp e) (by simp only [zM] <;> omega)
 · obtain ⟨its, r', pl, hz⟩ := I.tuple hq
   have hlen := r'.length
   obtain ⟨o, ho, hc, n, hd⟩ := pl
   exact call_list_seq p (.inr rfl) ho hc hd (λ h' c' kp e => fin its r' hz h' c' kp e) (by simp only [zM] <;> omega)
theorem call_tuple_of : CallR X (.type "tuple") (λ xs H Q => ∃ p ys, xs = [.ref p] /\ ((SqL X.K H p ys /\ ∀ l, H l = none -> Q (.ref l) (upd H l (.tup ys))) \/ (SqT X.K H p ys /\ Q (.ref p) H))) := by
 intro pins s σ H xs us Q I r h
 obtain ⟨p, ys, rfl, h⟩ := h
 obtain ⟨u, rfl, rx⟩ := vals1 r
 cases rx
 rcases h with ⟨hq, q⟩ | ⟨hq, q⟩
 · obtain ⟨its, r', pl, hz⟩ := I.list hq
   have hlen := r'.length
   refine call_tuple_list pl.isList (λ h' kp => ?_) (by simp only [zM] <;> omega)
   have I1 : Inv X pins σ H { s with heap := h' } := I.kept (t' := s.toks) kp
   have I2 : Inv X pins σ (upd H h'.objs.size (.tup ys)) { s with heap := h'.push { cls := .type "tuple", data := .seq its.toArray } } :=
    I1.laid (t' := s.toks) (λ b o e => hPo _ e) (Q1 _) (show ObjOk X.prog X.w _ _ _ (.tup ys) from ⟨hz, its, r', IsTup.new _ _, _, hPs _ rfl, rfl⟩)
   exact ⟨.ref h'.objs.size, _, I2, rfl, q _ (I1.hok.fresh (Q1 _))⟩
 · obtain ⟨its, r', pl, hz⟩ := I.tuple hq
   exact call_tuple_same pl ⟨.ref p, H, I, rfl, q⟩
def tyV (K : Fg) (T : String) (x : V) (H : Hp) : Prop := match x with
 | .str _ => T = "str"
 | .int _ => T = "int"
 | .ref p => (T = "list" /\ ∃ xs, SqL K H p xs) \/ (T = "tuple" /\ ∃ o, K.lookup p = some o /\ o.cls = .type "tuple" /\ o.dict = none) \/
  (T = "dict" /\ ((∃ kvs, H p = some (.dK kvs)) \/ ∃ kvs, H p = some (.dT kvs))) \/ (T = "set" /\ ∃ S n, H p = some (.set S n))
 | _ => False
theorem tyV_is {pins : List (Addr × Obj)} {σ : St} {H : Hp} {s : Shared} {T : String} {x : V} {v : Value} (I : Inv X pins σ H s) (r : RelV x v) (ty : tyV X.K T x H) :
 s.TypeIs v T /\ ∀ a, v = .ref a -> ∃ ob, s.heap.get? a = some ob /\ ob.dict = none := by
 cases x with
 | str z =>
  obtain ⟨t, rfl⟩ := r
  cases (show T = "str" from ty)
  exact ⟨typeIs_str s z t, λ _ e => nomatch e⟩
 | int i =>
  obtain ⟨t, rfl⟩ := r
  cases (show T = "int" from ty)
  exact ⟨typeIs_int s i t, λ _ e => nomatch e⟩
 | ref p =>
  cases r
  rcases ty with ⟨rfl, xs, hq⟩ | ⟨rfl, o, hk, hc, hd⟩ | ⟨rfl, hk⟩ | ⟨rfl, S, n, hk⟩
  · obtain ⟨its, _, pl, _⟩ := I.list hq
    refine ⟨pl.isList.typeIs, λ a e => ?_⟩
    cases e
    obtain ⟨o, n, e, c, hd, _⟩ := pl
    exact ⟨o, e, hd⟩
  · refine ⟨⟨o, I.kIn p o hk, hc⟩, λ a e => ?_⟩
    cases e
    exact ⟨o, I.kIn _ o hk, hd⟩
  · have z : ∃ o, s.heap.get? p = some o /\ o.ExactDict := by
     rcases hk with ⟨kvs, hk⟩ | ⟨kvs, hk⟩
     · obtain ⟨_, _, _, _, o, _, _, e, ex, _⟩ := I.hok p _ hk
       exact ⟨o, e, ex⟩
     · obtain ⟨_, _, _, _, o, _, _, e, ex, _⟩ := I.hok p _ hk
       exact ⟨o, e, ex⟩
    obtain ⟨o, e, ex⟩ := z
    refine ⟨⟨o, e, ex.1⟩, λ a e2 => ?_⟩
    cases e2
    exact ⟨o, e, ex.2.1⟩
  · obtain ⟨o, _, _, _, e, ex, _⟩ := I.hok p _ hk
    refine ⟨⟨o, e, ex.1⟩, λ a e2 => ?_⟩
    cases e2
    exact ⟨o, e, ex.2.1⟩
 | _ => exact False.elim ty
def tBM (K : Fg) (T : String) (r : V -> List V -> Hp -> VK -> Prop) (to : TE) (t : TA) : TE := λ σ H Q => to σ H λ x H1 => tyV K T x H1 /\ t σ H1 λ xs H2 => r x xs H2 Q
variable {o e : Expr} {es : List Expr} {to : TE} {t : TA} {name : Str} {apos cpos : Pos} {T id : String} {r : V -> List V -> Hp -> VK -> Prop}
theorem pe_bm (pa : PlainAttrs T) (slot : Slot T name id) (hty : typeOf (.builtin id) = pure (.type "method_descriptor")) (hm : MtR X id r) (ho : PE X o to) (ha : PA X (e :: es) t)
 (hbase : attributeBase o name X.env (eval o X.env) = eval o X.env := by rfl)
 (hfew : ((backTo cpos (starEach (e :: es) X.env)).all (λ x => !x.1) && (backToKw cpos (keywordEach [] X.env)).all (λ x => x.1.isSome)
  && decide ((e :: es).length + ([] : List Keyword).length + (if ([] : List Keyword).isEmpty then 0 else 1) < 30)) = true := by rfl)
 (hline : (apos.endLine == cpos.line) = true := by rfl) (hs : starEach (e :: es) X.env = (false, eval e X.env) :: starEach es X.env := by rfl) (hplain : (backTo cpos (starEach es X.env)).any (·.1) = false := by rfl) :
 PE X (.Call (.Attribute o name apos) (e :: es) [] cpos) (tBM X.K T r to t) := by
 intro pins s σ H Q I h
 refine wpAny_Call_method_late hbase hfew hline rfl (thn (ho pins s σ H _ I h) λ v s1 q_ => ?_)
 obtain ⟨x, H1, I1, r1, ty, q1⟩ := q_
 obtain ⟨h1, h2⟩ := tyV_is I1 r1 ty
 refine ⟨T, id, pa, slot, hty, h1, h2, ?_⟩
 have hA := ha cpos pins s1 σ H1 _ I1 q1
 rw [hs] at hA ⊢
 refine Calls.callWith_builtin (by show (false || (backTo cpos (starEach es X.env)).any (·.1)) = false; rw [hplain] <;> rfl) (Calls.evalArgs_plain ?_)
 exact thn hA λ us s2 q_ => by obtain ⟨vs, H2, I2, r2, q2⟩ := q_; exact hm pins s2 σ H2 x vs v us Q I2 r1 r2 q2
end
def MtM (X : Cx) (id : String) (r : V -> List V -> Hp -> VK -> Prop) : Prop :=
 ∀ (pins : List (Addr × Obj)) (s : Shared) (σ : St) (H : Hp) (x : V) (xs : List V) (v : Value) (us : List Value) (Q : VK), Inv X pins σ H s -> RelV x v -> Vals xs us -> r x xs H Q ->
  wpAny (model X.prog X.w) X.A (call (.builtin id) (v :: us)) (EP X pins σ Q) X.xe s
theorem Vals.one : ∀ {x : V} {us : List Value}, Vals [x] us -> ∃ u, us = [u] /\ RelV x u
 | _, _, h => by cases h with | cons r t => cases t; exact ⟨_, rfl, r⟩
theorem Vals.two : ∀ {x y : V} {us : List Value}, Vals [x, y] us -> ∃ u v, us = [u, v] /\ RelV x u /\ RelV y v
 | _, _, _, h => by
  cases h with
  | cons r t =>
   obtain ⟨v, e, q⟩ := Vals.one t
   subst e
   exact ⟨_, _, rfl, r, q⟩
section
variable {X : Cx} {pins : List (Addr × Obj)} {σ : St} {H : Hp} {s : Shared} {l b : Addr} {xs ys zs : List V}
theorem Inv.lset {its its' : List Value} {n : Nat} {f : Array Value -> Array Value} {t' : Nat} (I : Inv X pins σ H s) (hH : H l = some (.lst xs))
 (e : s.heap.get? l = some { cls := .type "list", data := .seq its.toArray n }) (hf : f its.toArray = its'.toArray) (hv : Vals ys its') (hz : ys.length <= sizeLine) :
 Inv X pins σ (upd H l (.lst ys)) { s with heap := s.heap.update l (Obj.mapSeq f), toks := t' } := by
 have q := PySem.IsL.update e f
 rw [hf] at q
 refine I.write (x := l) (e := l) (by rw [hH]; exact trivial) (.inl rfl) (λ b' u hb hu => (hUo s.heap (Obj.mapSeq f) (Ne.symm hb)).trans hu) ⟨_, q⟩ ?_
 exact ⟨hz, its', _, hv, q⟩
theorem Inv.lnew {its : List Value} {t' : Nat} (I : Inv X pins σ H s) (hv : Vals ys its) (hz : ys.length <= sizeLine) :
 Inv X pins σ (upd H s.heap.objs.size (.lst ys)) { s with heap := s.heap.push { cls := .type "list", data := .seq its.toArray }, toks := t' } :=
 I.laid (λ _ _ q => hPo _ q) (Q1 _) ⟨hz, its, 0, hv, hPs _ rfl⟩
theorem Inv.fresh (I : Inv X pins σ H s) : H s.heap.objs.size = none := I.hok.fresh (Q1 _)
theorem Inv.lstM (I : Inv X pins σ H s) (hH : H l = some (.lst xs)) : xs.length <= sizeLine /\ ∃ (its : List Value) (n : Nat), Vals xs its /\ xs.length = its.length /\ s.heap.get? l = some { cls := .type "list", data := .seq its.toArray n } := by
 obtain ⟨z, its, n, r, e⟩ := I.hok l _ hH
 exact ⟨z, its, n, r, r.length, e⟩
theorem notLongL {n : Nat} (h : n <= sizeLine) : Builtin.List.listTooLong n = false := by
 unfold Builtin.List.listTooLong
 exact decide_eq_false (by omega)
end
section
variable {X : Cx}
def rAppend : V -> List V -> Hp -> VK -> Prop := λ x vs H Q => ∃ l xs y, x = .ref l /\ vs = [y] /\ H l = some (.lst xs) /\ xs.length < sizeLine /\ Q .non (upd H l (.lst (xs ++ [y])))
theorem mt_append : MtM X "list.append" rAppend := by
 intro pins s σ H x vs v us Q I rx rv h
 obtain ⟨l, xs, y, rfl, rfl, hH, hz, q⟩ := h
 cases rx
 obtain ⟨u, rfl, ru⟩ := rv.one
 obtain ⟨z, its, n, r, hl, e⟩ := I.lstM hH
 refine call_meets F.slot_list_append ⟨_, e, rfl⟩ F.entry_list_append (F.args_list_append_2 _ _) (PySem.list_append l its.toArray n u (by rw [zM]; omega)) ⟨e, ?_⟩
 refine ⟨.non, _, I.lset (its' := its ++ [u]) hH e (by simp) (r.append (.cons ru .nil)) ?_, rfl, q⟩
 rw [zQ, List.length_singleton]
 omega
def rExtend : V -> List V -> Hp -> VK -> Prop := λ x vs H Q => ∃ l b xs zs, x = .ref l /\ vs = [.ref b] /\ H l = some (.lst xs) /\ H b = some (.lst zs) /\ xs.length + zs.length <= sizeLine /\ Q .non (upd H l (.lst (xs ++ zs)))
theorem mt_extend : MtM X "list.extend" rExtend := by
 intro pins s σ H x vs v us Q I rx rv h
 obtain ⟨l, b, xs, zs, rfl, rfl, hH, hB, hz, q⟩ := h
 cases rx
 obtain ⟨u, rfl, ru⟩ := rv.one
 cases ru
 obtain ⟨z, its, n, r, hl, e⟩ := I.lstM hH
 obtain ⟨z2, its2, n2, r2, hl2, e2⟩ := I.lstM hB
 have hsz : its.toArray.size + its2.toArray.size <= sizeLine := by rw [zM, zM]; omega
 have hlong : ¬ (!its.toArray.isEmpty && Builtin.List.listTooLong (its.toArray.size + its2.toArray.size)) = true := by
  rw [notLongL hsz, Bool.and_false]
  exact Qe
 refine call_meets F.slot_list_extend ⟨_, e, rfl⟩ F.entry_list_extend (F.args_list_extend_2 _ _)
  (AutoSeq1.list_extend_list_list_0 l its.toArray n b its2.toArray n2 hlong (by rw [zM]; omega) (by omega)) ⟨e, e2, ?_⟩
 refine ⟨.non, _, I.lset (its' := its ++ its2) hH e (by simp) (r.append r2) ?_, rfl, q⟩
 rw [zQ]
 omega
def rCat : R2 := λ x y H Q => ∃ l b xs zs, x = .ref l /\ y = .ref b /\ H l = some (.lst xs) /\ H b = some (.lst zs) /\ xs.length + zs.length <= sizeLine /\ ∀ p, H p = none -> Q (.ref p) (upd H p (.lst (xs ++ zs)))
theorem op_cat : OpR X (binaryOp .Add) rCat := by
 intro pins s σ H x y v u Q I rx ry h
 obtain ⟨l, b, xs, zs, rfl, rfl, hH, hB, hz, q⟩ := h
 cases rx
 cases ry
 obtain ⟨z, its, n, r, hl, e⟩ := I.lstM hH
 obtain ⟨z2, its2, n2, r2, hl2, e2⟩ := I.lstM hB
 refine PySem.P.add_list e e2 ?_ (by rw [zM, zM]; omega)
 have ea : its.toArray ++ its2.toArray = (its ++ its2).toArray := by simp
 rw [ea]
 exact ⟨.ref _, _, I.lnew (t' := s.toks) (r.append r2) (by rw [zQ]; omega), rfl, q _ I.fresh⟩
end
section
variable {prog : Program} {w : World} {A : Around} {E : Value -> Shared -> Prop} {s : Shared}
end
section
variable {X : Cx}
end
end L2
namespace Att
open PySem PySem.W PySem.Calls PyProof.Rows
theorem ints_of_wellAll {P : Params} {h : Heap} : ∀ (ns : List Int) (vs : List Value), WellAll P h vs (ns.map WData.int) -> IntsAre vs ns := by
 intro ns
 induction ns with
 | nil =>
  intro vs w
  rw [zL] at w
  cases w
  exact .nil
 | cons n ns ih =>
  intro vs w
  rw [zI] at w
  cases w with
  | cons a b =>
   cases a
   exact .cons _ _ (ih _ b)
theorem script_of {l : OpenLaw} {n : Nat} (hn : l.most = some n) {P : Params} {h : Heap} {args : List WData} {vals : List Value}
 (hpre : l.row.toRowW.claim.pre args = true) (hwl : WellAll P h vals args) :
 ∃ a vs ns, vals = [Value.ref a] /\ args = [WData.list (ns.map WData.int)] /\ h.get? a = some { cls := .type "list", data := .seq vs.toArray } /\ IntsAre vs ns /\ ns.length <= n := by
 have hsh : WShape.hasAll [] args [.list .int] = true := (pre_splitW hpre).1
 have hc : l.pre.holds [] { args := args } = true := (pre_splitW hpre).2
 obtain ⟨d, r, rfl, h1, h2⟩ := hasAllW_cons hsh
 obtain rfl := hasAllW_nil h2
 obtain ⟨xs, rfl, h3⟩ := hasW_list h1
 obtain ⟨ns, rfl⟩ := items_int h3
 have hlen : ns.length <= n := by
  unfold OpenLaw.pre at hc
  have h4 : (WTm.not (.lt (.lit (.int (n : Int))) (.len (.arg 0)))).holds [] { args := [.list (ns.map .int)] } = true := by
   have h4 := (holds_andW hc).1
   rw [hn] at h4
   exact h4
  have h5 := condW_of h4 (w_not (w_lt w_lit (w_len_list (w_arg rfl))))
  rw [zJ] at h5
  refine Nat.le_of_not_lt λ q => ?_
  have q' : (n : Int) < ((ns.length : Nat) : Int) := by omega
  first
   | (rw [decide_eq_true q'] at h5; exact absurd h5 (by decide))
   | (simp at h5; omega)
 cases hwl with
 | cons w1 w2 =>
  cases w2
  cases w1 with
  | list ho hall => exact ⟨_, _, ns, rfl, rfl, ho, ints_of_wellAll ns _ hall, hlen⟩
theorem post_true (l : OpenLaw) (args : List WData) : l.row.toRowW.claim.post args (.bool true) args = true :=
 postW_of (r := l.row.toRowW) (X := (true == true))
  (show WShape.has [] (.bool true) .bool = true by first | rfl | decide | simp [WShape.has, WShape.arms, WShape.armsAll])
  (show (WTm.eq .res (.lit (.bool true))).value [] { args := args, res := some (.bool true), after := args } = some (.bool (true == true)) from w_eq_bool (w_res rfl) w_lit) rfl
theorem attach_call {l : OpenLaw} {n : Nat} {q : Program} {loose : List Str} {XP : (Str -> Option Value) -> Heap -> Prop} {YP : World -> Heap -> Prop} {d : DefRec}
 (hn : l.most = some n) (hdf : d.params.defaults = [])
 (call : ∀ (w : World) (s₀ s₁ : Shared) (mg mb : Str -> Option Value) (fa : Addr) (o : Obj) (pm cd doc : Value) (a : Addr) (vs : List Value) (ns : List Int),
  Ground q loose [] XP w s₀ mg mb s₁.heap -> YP w s₁.heap ->
  s₁.heap.get? fa = some o -> o.data = .func (docDef d.name d.params d.body d.scope pm cd doc) -> s₁.heap.CodeRec cd d.name -> mg d.name = some (.ref fa) ->
  s₁.heap.get? a = some { cls := .type "list", data := .seq vs.toArray } -> IntsAre vs ns -> ns.length <= n -> s₁.gens = #[] ->
  codeAny (model l.prog w) callerA (.call (.ref fa) ⟨[.ref a], []⟩) (λ r s' => r = .ok (.ret (.bool true)) /\ OldK s₁.heap s'.heap /\ s'.os = s₁.os /\ AllBare s'.gens) s₁) :
 WalkO q loose XP YP l.row.toRowW d [] (λ f vs => PySem.call f vs) := by
 intro w s₀ s₁ mg mb G Y fa o pm cd doc dV kV ho hd hcd hD hmg hg args vals as hpre hlay hrd hwl hlo
 obtain rfl : dV = .none := Dflts.none hD hdf
 obtain rfl : kV = .none := Dflts.noKw hD
 obtain ⟨a, vs, ns, rfl, rfl, hobj, hints, hlen⟩ := script_of hn hpre hwl
 refine enter_call (codeAny_mono (call w s₀ s₁ mg mb fa o pm cd doc a vs ns G Y ho (fd_plain hd) hcd hmg hobj hints hlen hg) λ r s' hq => ?_)
 obtain ⟨rfl, h2, h3, h4⟩ := hq
 exact ⟨.inl ⟨.bool true, .bool true, [], rfl, λ _ => rfl, .bool true, post_true l _, λ _ => ⟨List.Pairwise.nil, λ _ hm => (nomatch hm)⟩⟩, h2, h3, h4⟩
section
variable {prog : Program} {w : World} {A : Around} {E : Value -> Shared -> Prop} {s : Shared} {K : Frag}
noncomputable def noObjs (h : Heap) : Heap := { h with objs := #[] }
theorem noObjs_get (h : Heap) (b : Addr) : (noObjs h).get? b = none := by
 cases e : (noObjs h).get? b with
 | none => rfl
 | some o => exact absurd (hLs e) (Nat.not_lt_zero _)
noncomputable def ledger (h : Heap) (L d : Addr) : List (Addr × Obj) := (List.range h.objs.size).filterMap λ a => if a = L \/ a = d then none else (h.get? a).map λ o => (a, o)
theorem mem_ledger {h : Heap} {L d a : Addr} {o : Obj} : (a, o) ∈ ledger h L d ↔ a ≠ L /\ a ≠ d /\ h.get? a = some o := by
 unfold ledger
 rw [List.mem_filterMap]
 constructor
 · rintro ⟨b, _, e⟩
   split at e
   · cases e
   · rename_i hb
     obtain ⟨o', ho, e'⟩ := Q0.mp e
     cases e'
     exact ⟨λ q => hb (.inl q), λ q => hb (.inr q), ho⟩
 · rintro ⟨n1, n2, ho⟩
   refine ⟨a, List.mem_range.mpr (hLs ho), ?_⟩
   rw [if_neg (show ¬ (a = L \/ a = d) from λ q => q.elim n1 n2), ho] <;> rfl
theorem news_ledger {h : Heap} {L d : Addr} {od : Obj} (hne : d ≠ L) (ho : h.get? d = some od) : News (noObjs h) L h ([] ++ (d, od) :: ledger h L d) := by
 rintro ⟨a, o⟩ hp
 rcases Qb.mp hp with e | hp
 · cases e
   exact ⟨ho, hne, noObjs_get _ _⟩
 · obtain ⟨n1, n2, e⟩ := mem_ledger.mp hp
   exact ⟨e, n1, noObjs_get _ _⟩
theorem fr_all {h : Heap} {L : Addr} {m : Str -> Option Value} (n : h.Ns L m) : Fr (noObjs h) L h m :=
 ⟨n, λ b o e => (by rw [noObjs_get] at e; cases e), zU _⟩
end
end Att
namespace L2
open PySem PySem.Spec PyProof.Rows
theorem vals_ints {vs : List Value} {ns : List Int} (h : IntsAre vs ns) : Vals (ns.map V.int) vs := by
 induction h with
 | nil => exact .nil
 | cons n t h ih => exact .cons ⟨t, rfl⟩ ih
noncomputable def defArgs (s : Stmt) : Arguments := match s with
 | .FunctionDef _ a _ _ _ _ _ _ _ _ => a
 | _ => { posonlyargs := [], args := [], vararg := none, kwonlyargs := [], kw_defaults := [], kwarg := none, defaults := [] }
noncomputable def defBody (s : Stmt) : List Stmt := match s with
 | .FunctionDef _ _ b _ _ _ _ _ _ _ => b
 | _ => []
noncomputable def defScope (s : Stmt) : Scope := match s with
 | .FunctionDef _ _ _ _ _ _ sc _ _ _ => sc
 | _ => { kind := .function, names := [], isGenerator := false, isCoroutine := false }
abbrev CX0 : CXT := λ _ _ _ _ _ _ => False
abbrev E0 : XK := λ _ _ _ => False
theorem pass0 {X : Cx} : Passes CX0 X E0 := λ _ _ _ _ _ _ _ h => h.elim
structure Fun (K : Fg) (x qual : Str) (st : Stmt) (f : Addr) (fd : FuncData) : Prop where
 ex : ∃ (oc : Value) (od : Option Addr) (kV doc pm : Value) (an : Option Addr) (cdv ct : Value) (osl : Array (Option Value)),
  fd = PySem.W.fnOf x qual (defArgs st) (defBody st) (defScope st) .none kV doc pm an cdv ct /\ K.lookup f = some ⟨oc, od, .func fd, osl⟩ /\ PySem.W.codeIn K cdv qual = true
 kp : PySem.W.keepIn K (.ref f) = true
section
variable {P : Program} {w : World} {K : Fg} {mg : Str -> Option Value} {base : Heap}
theorem Fun.ok {x qual : Str} {st : Stmt} {f : Addr} {fd : FuncData} {N ps : List Str} {k : Nat} {sp : Sp} (F : Fun K x qual st f fd) (S : FnScope N ps (defScope st)) (len : ∀ vs H Q E, sp vs H Q E -> vs.length = ps.length)
 (hbody : ∀ (cdv : Value) (A : Around) (outer : List Env) (s : Shared) (H : Hp) (vs : List V) (Q : VK) (E : XK), Room k (A.deeper (envOfC qual (defScope st) s.heap.objs.size f cdv)) -> sp vs H Q E ->
  ∃ t, PSs (cxOf CX0 P w K mg base N qual (defScope st) f cdv A outer s H E).nox (defBody st) t /\ t { nx := λ _ H' => Q .non H', rt := Q } (start N vs) H) : FnOk P w K mg base CX0 (k + 1) f fd ps sp := by
 obtain ⟨oc, od, kV, doc, pm, an, cdv, ct, osl, rfl, lk, hcd⟩ := F.ex
 refine fn_of lk hcd S len λ A outer s H vs Q E hr hsp => ?_
 obtain ⟨t, h, q⟩ := hbody cdv A outer s H vs Q E hr hsp
 exact ⟨t, h.nox, q⟩
theorem Fun.binds {x qual : Str} {st : Stmt} {f : Addr} {fd : FuncData} {ps : List Str} (F : Fun K x qual st f fd)
 (h : ∀ (kV doc pm : Value) (an : Option Addr) (cdv ct : Value) (us : List Value), us.length = ps.length -> bindArgs (PySem.W.fnOf x qual (defArgs st) (defBody st) (defScope st) .none kV doc pm an cdv ct) ⟨us, []⟩ = pure (ps.zip us)) : Binds K fd ps [] := by
 obtain ⟨oc, od, kV, doc, pm, an, cdv, ct, osl, rfl, lk, hcd⟩ := F.ex
 exact .all (h kV doc pm an cdv ct)
theorem fun_mk {x qual : Str} {st : Stmt} {f : Addr} {oc : Value} {od an : Option Addr} {osl : Array (Option Value)} {kV doc pm cdv ct : Value} (l : K.lookup f = some ⟨oc, od, .func (PySem.W.fnOf x qual (defArgs st) (defBody st) (defScope st) .none kV doc pm an cdv ct), osl⟩)
 (c : PySem.W.codeIn K cdv qual = true) (k : PySem.W.keepIn K (.ref f) = true) : Fun K x qual st f (PySem.W.fnOf x qual (defArgs st) (defBody st) (defScope st) .none kV doc pm an cdv ct) := ⟨⟨oc, od, kV, doc, pm, an, cdv, ct, osl, rfl, l, c⟩, k⟩
end
theorem small1000 {n : Nat} (h : n <= 1000) : n < sizeLine := Nat.lt_of_le_of_lt h (by decide)
section
variable {X : Cx}
theorem pv (i : Nat) {x : Str} {pos : Pos} (hN : X.N[i]? = some x := by rfl) (hv : Vis X.env.scope x := by first | exact Or.inl rfl | exact Or.inr (Or.inl rfl) | exact Or.inr (Or.inr rfl)) (hd : (x == ("__debug__" : Str)) = false := by decide)
 (hcd : (x == ("__classdict__" : Str)) = false := by decide) : PE X (.Name x pos) (tVar i) := pe_var hN hv hd hcd
end
theorem iteF {A B : Prop} (h : B) : if false = true then A else B := by
 rw [if_neg Qe]
 exact h
theorem iteT {A B : Prop} (h : A) : if true = true then A else B := by
 rw [if_pos rfl]
 exact h
def Same (H H' : Hp) : Prop := ∀ b o, H b = some o -> H' b = some o
theorem Same.refl (H : Hp) : Same H H := λ _ _ h => h
theorem Same.trans {H H1 H2 : Hp} (a : Same H H1) (b : Same H1 H2) : Same H H2 := λ c o h => b c o (a c o h)
theorem Same.free {H H' : Hp} (e : Same H H') {l : Addr} (h : H' l = Option.none) : H l = Option.none := by
 cases q : H l with
 | none => rfl
 | some o =>
  rw [e l o q] at h
  cases h
theorem Same.seq {K : Fg} {H H' : Hp} {a : Addr} {xs : List V} (e : Same H H') (h : SqL K H a xs) : SqL K H' a xs := by
 rcases h with (h | ⟨o, h⟩) | h
 · exact .inl (.inl (e _ _ h))
 · exact .inl (.inr ⟨o, e _ _ h⟩)
 · exact .inr h
noncomputable def clOf (env : Env) : List (Str × NameKind) -> List (Str × Addr) -> List (Str × Addr)
 | [], acc => acc
 | (n, k) :: r, acc => if k == .free then clOf env r ((n, (env.cells.lookup n).getD 0) :: acc) else clOf env r acc
theorem clos_go {env : Env} : ∀ (names : List (Str × NameKind)) (acc : List (Str × Addr)), (∀ y ∈ names, y.2 = .free -> ∃ c, env.cells.lookup y.1 = some c) ->
 (forIn (m := Sem) names acc λ (x : Str × NameKind) cs => (if (x.2 == .free) = true then do let c <- cellOf env x.1; pure (ForInStep.yield ((x.1, c) :: cs)) else pure (ForInStep.yield cs))) = pure (clOf env names acc)
 | [], acc, _ => rfl
 | (n, k) :: r, acc, h => by
  have hr : ∀ y ∈ r, y.2 = .free -> ∃ c, env.cells.lookup y.1 = some c := λ y hy => h y (lMc _ hy)
  rw [List.forIn_cons]
  by_cases e : k = .free
  · subst e
    obtain ⟨c, hc⟩ := h (n, .free) lMs rfl
    have hc' : env.cells.lookup n = some c := hc
    have e1 : cellOf env n = pure c := by unfold cellOf; rw [hc']
    show ((if (NameKind.free == NameKind.free) = true then _ else _) >>= _) = pure (if (NameKind.free == NameKind.free) = true then _ else _)
    rw [if_pos (by rfl), if_pos (by rfl), e1, hc']
    exact clos_go r _ hr
  · have e' : (k == NameKind.free) = false := by simpa using e
    show ((if (k == NameKind.free) = true then _ else _) >>= _) = pure (if (k == NameKind.free) = true then _ else _)
    rw [e', if_neg (by simp), if_neg (by simp)]
    exact clos_go r _ hr
theorem closureFor_eq {scope : Scope} {env : Env} (h : ∀ y ∈ scope.names, y.2 = .free -> ∃ c, env.cells.lookup y.1 = some c) : closureFor scope env = pure (clOf env scope.names []) := by
 have q := clos_go scope.names [] h
 unfold closureFor
 show (forIn (m := Sem) scope.names [] _ >>= λ r => pure r) = _
 refine Eq.trans ?_ q
 exact bind_pure _
theorem clOf_mem {env : Env} : ∀ {names : List (Str × NameKind)} {acc : List (Str × Addr)} {x : Str} {c : Addr}, (∀ y ∈ names, y.2 = .free -> ∃ c, env.cells.lookup y.1 = some c) -> (x, c) ∈ clOf env names acc -> (x, c) ∈ acc \/ env.cells.lookup x = some c
 | [], acc, x, c, _, m => .inl m
 | (n, k) :: r, acc, x, c, h, m => by
  have hr : ∀ y ∈ r, y.2 = .free -> ∃ c, env.cells.lookup y.1 = some c := λ y hy => h y (lMc _ hy)
  by_cases e : k = .free
  · subst e
    obtain ⟨d, hd⟩ := h (n, .free) lMs rfl
    have hd' : env.cells.lookup n = some d := hd
    have m' : (x, c) ∈ clOf env r ((n, (env.cells.lookup n).getD 0) :: acc) := m
    rcases clOf_mem hr m' with q | q
    · rcases Qb.mp q with q | q
      · rw [hd'] at q
        injection q with q1 q2
        subst q1 q2
        exact .inr hd'
      · exact .inl q
    · exact .inr q
  · have e' : (k == NameKind.free) = false := by simpa using e
    have m' : (x, c) ∈ (if (k == NameKind.free) = true then clOf env r ((n, (env.cells.lookup n).getD 0) :: acc) else clOf env r acc) := m
    rw [e', if_neg (by simp)] at m'
    exact clOf_mem hr m'
theorem clOf_has {env : Env} : ∀ {names : List (Str × NameKind)} {acc : List (Str × Addr)} {x : Str}, ((x, NameKind.free) ∈ names \/ ∃ c, (x, c) ∈ acc) -> ∃ c, (x, c) ∈ clOf env names acc
 | [], acc, x, h => by
  rcases h with h | h
  · simp at h
  · exact h
 | (n, k) :: r, acc, x, h => by
  by_cases e : k = .free
  · subst e
    show ∃ c, (x, c) ∈ clOf env r ((n, (env.cells.lookup n).getD 0) :: acc)
    refine clOf_has ?_
    rcases h with h | ⟨c, h⟩
    · rcases Qb.mp h with h | h
      · injection h with h1 _
        subst h1
        exact .inr ⟨_, lMs⟩
      · exact .inl h
    · exact .inr ⟨c, lMc _ h⟩
  · have e' : (k == NameKind.free) = false := by simpa using e
    show ∃ c, (x, c) ∈ (if (k == NameKind.free) = true then clOf env r ((n, (env.cells.lookup n).getD 0) :: acc) else clOf env r acc)
    rw [e', if_neg (by simp)]
    refine clOf_has ?_
    rcases h with h | h
    · rcases Qb.mp h with h | h
      · injection h with _ h2
        exact absurd h2.symm e
      · exact .inl h
    · exact .inr h
theorem lookup_of_mem {β : Type} : ∀ {l : List (Str × β)} {x : Str} {c : β}, (x, c) ∈ l -> ∃ d, l.lookup x = some d
 | (n, k) :: r, x, c, h => by
  by_cases e : x = n
  · subst e; exact ⟨k, by simp⟩
  · rcases Qb.mp h with q | q
    · injection q with q1 _; exact absurd q1 e
    · obtain ⟨d, hd⟩ := lookup_of_mem q
      exact ⟨d, by rw [Qc]; have : (x == n) = false := by simpa using e
                   rw [this]; exact hd⟩
def PTs (X : Cx) (cs : List Expr) (t : TT) : Prop :=
 ∀ (pins : List (Addr × Obj)) (s : Shared) (σ : St) (H : Hp) (Q : Bool -> Hp -> Prop), Inv X pins σ H s -> t σ H Q ->
  wpAny (model X.prog X.w) X.A (forIn cs true λ c r => if r = true then do let ok <- isTrue c X.env (eval c X.env); pure (ForInStep.yield ok) else pure (ForInStep.yield r)) (TP X pins σ Q) X.xe s
def tYes : TT := λ _ H Q => Q true H
theorem pts_nil {X : Cx} : PTs X [] tYes := λ pins s σ H Q I h => wpAny_tests_nil ⟨H, I, h⟩
theorem pts_one {X : Cx} {c : Expr} {t : TT} (h : PT X c t) : PTs X [c] t := λ pins s σ H Q I q => wpAny_tests_one (h pins s σ H Q I q)
def st0 (n : Nat) (fr : List (Str × Nat)) (σ : St) : St := List.replicate n none ++ fr.map λ p => (σ[p.2]?).join
def tComp (n : Nat) (fr : List (Str × Nat)) (wi : TI) (g : TG) (tc : TT) (te : TE) : TE := λ σ H Q => wi σ H λ J H1 => ∀ acc, H1 acc = none ->
 ∃ W : Nat -> Nat -> St -> Hp -> Prop, (∃ m, W 0 m (st0 n fr σ) (upd H1 acc (.lst []))) /\ ∀ i m σ' H', W i m σ' H' ->
  (J.stop i H' /\ Q (.ref acc) H') \/ (J.go i H' /\ ∃ Nx : St -> Hp -> Prop, (∀ σ2 H2, Nx σ2 H2 -> ∃ m', m' < m /\ W (i + 1) m' σ2 H2) /\
   ∀ x H2, J.yld i H' x H2 -> g x σ' H2 λ σ2 H3 => tc σ2 H3 λ b H4 => if b = true then te σ2 H4 λ y H5 => ∃ ys, H5 acc = some (.lst ys) /\ ys.length < sizeLine /\ Nx σ2 (upd H5 acc (.lst (ys ++ [y]))) else Nx σ2 H4)
section
variable {prog : Program} {w : World} {A : Around} {R : Result -> Shared -> Prop} {s : Shared}
theorem compLoop_go {elt target iter : Expr} {ifs : List Expr} {scope : Scope} {pos : Pos} {it acc : Value} {env : Env} (I : Nat -> Shared -> Prop)
 (turn : ∀ n s, I n s -> wpAny (model prog w) A (pyNext it) (λ r s₁ => match r with
  | none => R (.ok .next) s₁
  | some v => wpAny (model prog w) A (letOwnedTupleGo target it v) (λ _ s₂ => wpAny (model prog w) A (assign target env v) (λ _ s₂ =>
   wpAny (model prog w) A (forIn ifs true λ c r => if r = true then do let ok <- isTrue c env (eval c env); pure (ForInStep.yield ok) else pure (ForInStep.yield r)) (λ ok s₃ =>
    if ok = true then wpAny (model prog w) A (eval elt env) (λ x s₄ =>
     wpAny (model prog w) A (call (.builtin "list.append") [acc, x]) (λ _ s₅ => ∃ m, m < n /\ I m s₅) (λ _ _ => False) s₄) (λ _ _ => False) s₃
    else ∃ m, m < n /\ I m s₃) (λ _ _ => False) s₂) (λ _ _ => False) s₂) (λ _ _ => False) s₁) (λ _ _ => False) s)
 (n : Nat) (h : I n s) :
 codeAny (model prog w) A (.compLoop (.ListComp elt [⟨target, iter, ifs, 0⟩] scope pos) 0 it acc env) R s := by
 refine codeAny_loop rfl I (λ n s hI => ?_) n h
 show wpAny _ A ((compTurn (.ListComp elt [⟨target, iter, ifs, 0⟩] scope pos) 0 it acc env).onRaise (λ x => do noteFrame x env; theTreesLotGoes x)) _ _ s
 refine wpAny_noted ?_
 rw [compTurn_list]
 refine wB (wpAny_standAt (wB (wpAny_mono (turn n s hI) (λ r s₁ h₁ => ?_) λ _ _ h' => h'.elim)))
 cases r with
 | none => exact wP h₁
 | some v =>
  refine wB (wpAny_mono h₁ (λ _ s₂ h₂ => ?_) λ _ _ h' => h'.elim)
  refine wB (wpAny_mono h₂ (λ _ s₂ h₂ => wB (wpAny_mono h₂ (λ ok s₃ h₃ => ?_) λ _ _ h' => h'.elim)) λ _ _ h' => h'.elim)
  cases ok with
  | false => exact wP ⟨rfl, h₃⟩
  | true =>
   exact wB (wB (wpAny_mono h₃ (λ x s₄ h₄ => wB (wpAny_mono h₄ (λ _ s₅ h₅ => wP (wP ⟨rfl, h₅⟩)) λ _ _ h' => h'.elim)) λ _ _ h' => h'.elim))
end
theorem HOk.sameBut {P : Program} {w : World} {H : Hp} {h h' : Heap} {C : Addr} (x : HOk P w H h) (n : H C = none) (sb : Heap.SameBut C h h') : HOk P w H h' := λ a o e =>
 (x a o e).stay (λ b u q z => (sb.2 b (by
  rcases q with q | q
  · subst q; exact ne_of_none e n
  · exact ne_of_none q n)).trans z) (λ _ q => q) (λ _ _ q => q) λ _ _ _ q => q
theorem relab_kind {env : Env} : ∀ {names : List (Str × NameKind)} {x : Str}, names.lookup x = some .free ->
 (((names.map λ (n, k) => if (k == NameKind.free && env.scope.kind == .function && env.kindOf n == some .cell) then (n, NameKind.cell) else (n, k)).lookup x = some .cell) \/
  ((names.map λ (n, k) => if (k == NameKind.free && env.scope.kind == .function && env.kindOf n == some .cell) then (n, NameKind.cell) else (n, k)).lookup x = some .free))
 | [], x, h => by simp at h
 | (n, k) :: r, x, h => by
  have e1 : ((n, k) :: r).map (λ (n, k) => if (k == NameKind.free && env.scope.kind == .function && env.kindOf n == some .cell) = true then (n, NameKind.cell) else (n, k)) =
   (if (k == NameKind.free && env.scope.kind == .function && env.kindOf n == some .cell) = true then (n, NameKind.cell) else (n, k)) :: r.map (λ (n, k) => if (k == NameKind.free && env.scope.kind == .function && env.kindOf n == some .cell) = true then (n, NameKind.cell) else (n, k)) := rfl
  rw [e1]
  cases hx : x == n with
  | true =>
   simp only [Qc, hx] at h
   have hk : k = .free := zV h
   by_cases c : (k == NameKind.free && env.scope.kind == .function && env.kindOf n == some .cell) = true
   · rw [if_pos c]; left; simp [Qc, hx]
   · rw [if_neg c]; right; simp [Qc, hx, hk]
  | false =>
   simp only [Qc, hx] at h
   have q := relab_kind (env := env) h
   by_cases c : (k == NameKind.free && env.scope.kind == .function && env.kindOf n == some .cell) = true
   · rw [if_pos c]; simpa only [Qc, hx] using q
   · rw [if_neg c]; simpa only [Qc, hx] using q
section
variable {X : Cx}
theorem st0_get {n : Nat} {fr : List (Str × Nat)} {own : List Str} {σ : St} {i : Nat} {x : Str} {v : V} (hn : own.length = n) (h1 : (own ++ fr.map (·.1))[i]? = some x) (h2 : (st0 n fr σ)[i]? = some (some v)) :
 ∃ p ∈ fr, p.1 = x /\ σ[p.2]? = some (some v) := by
 unfold st0 at h2
 by_cases hi : i < n
 · rw [Q5 (by simpa using hi), Q8, if_pos hi] at h2
   cases h2
 · rw [Q6 (by simpa using hi)] at h2
   rw [Q6 (by omega)] at h1
   rw [Q18, zK] at h2
   rw [hn, zK] at h1
   cases e : fr[i - n]? with
   | none => rw [e] at h1; cases h1
   | some p =>
    rw [e] at h1 h2
    refine ⟨p, List.mem_of_getElem? e, zV h1, ?_⟩
    have h3 : (σ[p.2]?).join = some v := zV h2
    cases q : σ[p.2]? with
    | none => rw [q] at h3; cases h3
    | some z => rw [q] at h3; exact congrArg some h3
end
open AutoSeq1 (wpAny_loadPart')
section
variable {prog : Program} {w : World} {A : Around} {E : Value -> Shared -> Prop} {s : Shared}
theorem nxT_item {it t : Addr} {i : Nat} {its : Array Value} {x : Value} {Q : Value -> Shared -> Prop} (hit : s.heap.IsTupleIter it t i) (ht : s.heap.IsTuple t its) (hx : its[i]? = some x)
 (k : ∀ h', h'.IsTupleIter it t (i + 1) -> Heap.SameBut it s.heap h' -> Q x { s with heap := h' }) : wpAny (model prog w) A (Builtin.SmallTypes.nextOf (.ref it)) Q E s := by
 have ty := hit.typeIs
 obtain ⟨ob, eo, ec, ed⟩ := hit
 obtain ⟨ot, et, _, n, edt⟩ := ht
 unfold Builtin.SmallTypes.nextOf
 refine wB (wpAny_callSpecial?_slot (name := Str.ofString "__next__") ty F.slot_tuple_iterator_next (wpAny_call_entry F.slot_tuple_iterator_next ty F.entry_tuple_iterator_next ?_ (F.args_tuple_iterator_next_1 _)))
 show wpAny _ _ (field (.ref it) 0 >>= _) _ _ s
 refine wB (wpAny_field eo ed (x := .ref t) rfl ?_)
 show wpAny _ _ (if (Value.ref t == Value.none) = true then _ else _) _ _ s
 rw [if_neg (show ¬ ((Value.ref t == Value.none) = true) from Qe)]
 show wpAny _ _ (field (.ref it) 1 >>= _) _ _ s
 refine wB (wpAny_field eo ed (x := .int i 0) rfl ?_)
 show wpAny _ _ (seqItems? (.ref t) >>= _) _ _ s
 refine wB (wpAny_seqItems et edt ?_)
 simp only [Q20, hx]
 refine wB (wpAny_setField eo ed (by simp) (wP ⟨x, rfl, wP (k _ ⟨_, hUs _ eo (Obj.isFreed_of_fields (Obj.data_mapFields ed _)), (Obj.cls_mapFields ..).trans ec, ?_⟩ (Heap.SameBut.update ..))⟩))
 rw [Obj.data_mapFields ed]
 simp [rawInt]
theorem nxT_end {it t : Addr} {i : Nat} {its : Array Value} {Q : Value -> Shared -> Prop} (hh : A.handled = none) (hit : s.heap.IsTupleIter it t i) (ht : s.heap.IsTuple t its) (hx : its[i]? = none)
 (k : ∀ h' e, Heap.ExtBut it s.heap h' -> (∃ o, h'.get? e = some o /\ o.cls = .type "StopIteration") -> E (.ref e) { s with heap := h' }) : wpAny (model prog w) A (Builtin.SmallTypes.nextOf (.ref it)) Q E s := by
 have ty := hit.typeIs
 obtain ⟨ob, eo, ec, ed⟩ := hit
 obtain ⟨ot, et, _, n, edt⟩ := ht
 unfold Builtin.SmallTypes.nextOf
 refine wB (wpAny_callSpecial?_slot (name := Str.ofString "__next__") ty F.slot_tuple_iterator_next (wpAny_call_entry F.slot_tuple_iterator_next ty F.entry_tuple_iterator_next ?_ (F.args_tuple_iterator_next_1 _)))
 show wpAny _ _ (field (.ref it) 0 >>= _) _ _ s
 refine wB (wpAny_field eo ed (x := .ref t) rfl ?_)
 show wpAny _ _ (if (Value.ref t == Value.none) = true then _ else _) _ _ s
 rw [if_neg (show ¬ ((Value.ref t == Value.none) = true) from Qe)]
 show wpAny _ _ (field (.ref it) 1 >>= _) _ _ s
 refine wB (wpAny_field eo ed (x := .int i 0) rfl ?_)
 show wpAny _ _ (seqItems? (.ref t) >>= _) _ _ s
 refine wB (wpAny_seqItems et edt ?_)
 simp only [Q20, hx]
 refine wB (wpAny_rule (wB (wpAny_setField eo ed (by simp) ?_)))
 show wpAny _ _ (newExc (.type "StopIteration") [] >>= _) _ _ _
 refine wB ?_
 simp only [newExc, newTuple]
 refine wB (wpAny_newObj_type ?_ (by size_fits))
 refine wB (m := firstArgMember _ _) (wpAny_of_eq (a := Value.none) (by first | rfl | (simp only [firstArgMember]; rfl)) ?_)
 refine wpAny_newObj_type ?_ (by size_fits)
 simp only [raiseNew]
 refine wB (wpAny_handled ?_)
 first | rw [show A.in1.handled = none from hh] | rw [hh]
 exact wB (wP (wpAny_throw (k _ _ (((Heap.SameBut.update ..).extBut.push _).push _) ⟨_, hPs _ rfl, rfl⟩)))
end
theorem drT {prog : Program} {w : World} {A : Around} (hh : A.handled = none) (it t : Addr) (ne : t ≠ it) (its : Array Value) :
 Draws prog w A it [it, t] its.size (λ i v => its[i]? = some v) (λ i h => h.IsTupleIter it t i /\ h.IsTuple t its) where
 live := λ _ _ st => by obtain ⟨⟨o, e, _⟩, _⟩ := st; exact ⟨o, e⟩
 frame := λ _ _ _ st k => ⟨st.1.at λ o e => k it (by simp) o e, st.2.at λ o e => k t (by simp) o e⟩
 item := λ i s Q E hi st k => nxT_item st.1 st.2 (x := its[i]) (by simp [hi]) λ h' a b => k _ h' s.toks (by simp [hi]) ⟨a, st.2.extBut b.extBut ne⟩ b
 done := λ s Q E st k => nxT_end hh st.1 st.2 (by simp) k
theorem enT_new (l : Addr) (its : Array Value) (n : Nat) (dct : Option Addr) (sl : Array (Option Value)) :
 Meets (Builtin.«enumerate.__new__» ⟨[.type "enumerate", .ref l], []⟩) (λ _ R s => s.heap.get? l = some { cls := .type "tuple", dict := dct, data := .seq its n, slots := sl } /\
  R (.ok (.ret (.ref (s.heap.push { cls := .type "tuple_iterator", data := .fields #[.ref l, .int 0 0] }).objs.size)))
   { s with heap := (s.heap.push { cls := .type "tuple_iterator", data := .fields #[.ref l, .int 0 0] }).push { cls := .type "enumerate", data := .fields #[.none, .bool false, .ref s.heap.objs.size, rawInt 0, .none, .none] } }) :=
 .of_wp λ prog w A R s h => by
  obtain ⟨hp, g, d, tk, os⟩ := s
  obtain ⟨hl, h⟩ := h
  have hsub := sub_enumerate
  have hT : Heap.IsTuple (Shared.heap ⟨hp, g, d, tk, os⟩) l its := ⟨_, hl, rfl, n, rfl⟩
  wp_walk using wpAny_loadPart' hl
  refine wpAny_stack_any λ st => wP ?_
  split
  · rename_i c _ _ _ _ _
    cases (c == Value.type "enumerate") <;> (wp_walk using wpAny_loadPart' hl, wpAny_pyIter_tuple hT; exact ⟨_, rfl, h⟩)
  · wp_walk using wpAny_loadPart' hl, wpAny_pyIter_tuple hT
    exact ⟨_, rfl, h⟩
section
variable {prog : Program} {w : World} {A : Around} {E : Value -> Shared -> Prop} {s : Shared}
theorem call_enT {l : Addr} {its : Array Value} {Q : Value -> Shared -> Prop} (hL : s.heap.IsTuple l its)
 (k : ∀ h', IsEnum h' (s.heap.objs.size + 1) s.heap.objs.size 0 .none -> h'.IsTupleIter s.heap.objs.size l 0 -> h'.objs.size = s.heap.objs.size + 2 -> (∀ b o, s.heap.get? b = some o -> h'.get? b = some o) -> Q (.ref (s.heap.objs.size + 1)) { s with heap := h' }) :
 wpAny (model prog w) A (call (.type "enumerate") [.ref l]) Q E s := by
 obtain ⟨⟨c, dct, dt, sl⟩, hl, hc, n, hd⟩ := hL
 have hc' : c = .type "tuple" := hc
 have hd' : dt = .seq its n := hd
 subst hc' hd'
 refine callType_new F.called_enumerate (by decide) (F.typeCall_enumerate_1 _) (F.newCall_enumerate_1 _) (λ obj => F.args_object_init_2 obj _) F.entry_enumerate_new (enT_new l its n dct sl) ⟨hl, ?_⟩
 generalize hg : s.heap.push { cls := .type "tuple_iterator", data := .fields #[.ref l, .int 0 0] } = g1
 have z1 : g1.objs.size = s.heap.objs.size + 1 := by rw [<- hg]; exact Q17 ..
 have he : IsEnum (g1.push { cls := .type "enumerate", data := .fields #[.none, .bool false, .ref s.heap.objs.size, rawInt 0, .none, .none] }) (s.heap.objs.size + 1) s.heap.objs.size 0 .none := by
  rw [<- z1]; exact hPs _ rfl
 show _ /\ _
 rw [z1]
 refine ⟨⟨_, he, rfl⟩, k _ he ⟨_, hPo _ (by rw [<- hg]; exact hPs _ rfl), rfl, rfl⟩ (by rw [Q17, z1]) λ b o x => hPo _ (by rw [<- hg]; exact hPo _ x)⟩
end
open AutoSeq1 (wpAny_loadPart')
structure ZA (z TI TO i1 i2 : Addr) (f1 f2 : List Addr) : Prop where
 a1 : TI ≠ z
 a2 : TO ≠ z
 a3 : i1 ≠ z
 a4 : i2 ≠ z
 a5 : TO ≠ i1
 a6 : TO ≠ i2
 b1 : z ∉ f1
 b2 : z ∉ f2
 b3 : TO ∉ f1
 b4 : TO ∉ f2
 b5 : i2 ∉ f1
 b6 : i1 ∉ f2
section
variable {prog : Program} {w : World} {A : Around} {E : Value -> Shared -> Prop} {s : Shared}
theorem pair_set {T : Addr} {a b x : Value} {k : Nat} {Q : Unit -> Shared -> Prop} (hT : IsPair s.heap T a b)
 (h : ∀ h', h'.get? T = some { cls := .type "tuple", data := .seq ((#[a, b] : Array Value).setIfInBounds k x) } -> Heap.SameBut T s.heap h' -> Q () { s with heap := h' }) : wpAny (model prog w) A (updateSeq T (·.setIfInBounds k x)) Q E s := wpAny_updateSeq_pair hT h
variable {z TI TO i1 i2 : Addr} {f1 f2 : List Addr} {n1 n2 k : Nat} {P1 P2 : Nat -> Value -> Prop} {S1 S2 : Nat -> Heap -> Prop} {a b : Value}
theorem zipD_item {Q : Value -> Shared -> Prop} (D1 : Draws prog w A i1 f1 n1 P1 S1) (D2 : Draws prog w A i2 f2 n2 P2 S2) (ap : ZA z TI TO i1 i2 f1 f2)
 (hz : IsZip s.heap z TI TO .none) (hTI : IsPair s.heap TI (.ref i1) (.ref i2)) (hTO : IsPair s.heap TO a b) (h1 : S1 k s.heap) (h2 : S2 k s.heap) (l1 : k < n1) (l2 : k < n2)
 (K : ∀ x y h' tk, P1 k x -> P2 k y -> IsZip h' z TI TO (rawInt s.heap.objs.size) -> IsPair h' TO x y -> S1 (k + 1) h' -> S2 (k + 1) h' -> IsPair h' s.heap.objs.size x y -> h'.objs.size = s.heap.objs.size + 1 ->
  (∀ c o, c ≠ z -> c ≠ TO -> c ≠ i1 -> c ≠ i2 -> s.heap.get? c = some o -> h'.get? c = some o) -> Q (.ref s.heap.objs.size) { s with heap := h', toks := tk }) :
 wpAny (model prog w) A (Builtin.«zip.__next__» ⟨[.ref z], []⟩) (λ fin s' => ∃ v, fin = .done (.ret v) /\ Q v s') E s := by
 obtain ⟨hp, g, d, tk0, os⟩ := s
 obtain ⟨o1, e1⟩ := D1.live _ _ h1
 obtain ⟨o2, e2⟩ := D2.live _ _ h2
 show wpAny _ _ (field (.ref z) 2 >>= _) _ _ _
 refine wB (wpAny_field hz rfl (x := .bool false) rfl ?_)
 show wpAny _ _ (field (.ref z) 3 >>= _) _ _ _
 refine wB (wpAny_field hz rfl (x := .ref TI) rfl ?_)
 refine wB (wpAny_seqItems hTI rfl ?_)
 show wpAny _ _ (Builtin.SmallTypes.ownedTupleIsFree (.ref z) >>= _) _ _ _
 refine wB ?_
 unfold Builtin.SmallTypes.ownedTupleIsFree
 refine wB (wpAny_field hz rfl (x := .none) rfl (wP ?_))
 simp only [if_true]
 refine wB (wpAny_rule ?_)
 refine wB (wpAny_field hz rfl (x := .ref TO) rfl ?_)
 refine wB (wpAny_setField_rec hz (by simp) λ g1 z1 c1 => ?_)
 have z1 : IsZip g1 z TI TO .ellipsis := z1
 have c1 : Heap.SameBut z hp g1 := c1
 refine wB ?_
 simp only [List.zipIdx_cons, List.zipIdx_nil, List.forIn_cons, List.forIn_nil]
 refine wB (wB (wpAny_onRaise ?_))
 show wpAny _ _ (Builtin.SmallTypes.nextOf (.ref i1) >>= _) _ _ _
 refine wB (D1.item k _ _ _ l1 (D1.frame _ _ _ h1 λ q hq o e => (c1.2 q λ y => ap.b1 (y ▸ hq)).trans e) λ x g2 t2 px s2 c2 => wP ?_)
 have c2 : Heap.SameBut i1 g1 g2 := c2
 have p2 : IsPair g2 TO a b := (c2.2 _ ap.a5).trans ((c1.2 _ ap.a2).trans hTO)
 refine wB (wpAny_seqItems p2 rfl ?_)
 refine wB (pair_set p2 λ g3 p3 c3 => ?_)
 have p3 : IsPair g3 TO x b := p3
 have c3 : Heap.SameBut TO g2 g3 := c3
 refine wB (wpAny_letGo (wP ?_))
 refine wB (wB (wpAny_onRaise ?_))
 show wpAny _ _ (Builtin.SmallTypes.nextOf (.ref i2) >>= _) _ _ _
 have m2 : S2 k g3 := D2.frame _ _ _ h2 λ q hq o e => (c3.2 q λ y => ap.b4 (y ▸ hq)).trans ((c2.2 q λ y => ap.b6 (y ▸ hq)).trans ((c1.2 q λ y => ap.b2 (y ▸ hq)).trans e))
 refine wB (D2.item k _ _ _ l2 m2 λ y g4 t4 py s4 c4 => wP ?_)
 have c4 : Heap.SameBut i2 g3 g4 := c4
 have p4 : IsPair g4 TO x b := (c4.2 _ ap.a6).trans p3
 refine wB (wpAny_seqItems p4 rfl ?_)
 refine wB (pair_set p4 λ g5 p5 c5 => ?_)
 have p5 : IsPair g5 TO x y := p5
 have c5 : Heap.SameBut TO g4 g5 := c5
 refine wB (wpAny_letGo (wP (wP ?_)))
 refine wB (wpAny_seqItems p5 rfl ?_)
 refine wB (wpAny_newTuple ?_)
 have zz : g5.objs.size = hp.objs.size := by rw [c5.1, c4.1, c3.1, c2.1, c1.1]
 have z5 : IsZip g5 z TI TO .ellipsis := (c5.2 _ ap.a2.symm).trans ((c4.2 _ ap.a4.symm).trans ((c3.2 _ ap.a2.symm).trans ((c2.2 _ ap.a3.symm).trans z1)))
 have k5 : ∀ c o, c ≠ z -> c ≠ TO -> c ≠ i1 -> c ≠ i2 -> hp.get? c = some o -> g5.get? c = some o := λ c o n1 n2 n3 n4 e => (c5.2 _ n2).trans ((c4.2 _ n4).trans ((c3.2 _ n2).trans ((c2.2 _ n3).trans ((c1.2 _ n1).trans e))))
 have w1 : S1 (k + 1) g5 := D1.frame _ _ _ s2 λ q hq o e => (c5.2 q λ y => ap.b3 (y ▸ hq)).trans ((c4.2 q λ y => ap.b5 (y ▸ hq)).trans ((c3.2 q λ y => ap.b3 (y ▸ hq)).trans e))
 have w2 : S2 (k + 1) g5 := D2.frame _ _ _ s4 λ q hq o e => (c5.2 q λ y => ap.b4 (y ▸ hq)).trans e
 have zl : z < g5.objs.size := hLs z5
 show wpAny _ _ (Builtin.SmallTypes.ownedTupleHandOut (.ref z) (.ref g5.objs.size) >>= _) _ _ _
 refine wB ?_
 unfold Builtin.SmallTypes.ownedTupleHandOut
 have z6 : IsZip (g5.push { cls := .type "tuple", data := .seq #[x, y] }) z TI TO .ellipsis := hPo _ z5
 refine wB (wpAny_setField_rec z6 (by simp) λ g7 z7 c7 => ?_)
 have z7 : IsZip g7 z TI TO (rawInt g5.objs.size) := z7
 have c7 : Heap.SameBut z (g5.push { cls := .type "tuple", data := .seq #[x, y] }) g7 := c7
 refine wpAny_setField_rec z7 (by simp) λ g8 z8 c8 => ?_
 have z8 : IsZip g8 z TI TO (rawInt g5.objs.size) := z8
 have c8 : Heap.SameBut z g7 g8 := c8
 have up : ∀ c o, c ≠ z -> g5.get? c = some o -> g8.get? c = some o := λ c o n e => (c8.2 _ n).trans ((c7.2 _ n).trans (hPo _ e))
 have t8 : IsPair g8 g5.objs.size x y := (c8.2 _ (nNg zl)).trans ((c7.2 _ (nNg zl)).trans (hPs _ rfl))
 have l8 : g8.objs.size = g5.objs.size + 1 := by rw [c8.1, c7.1, Q17]
 rw [zz] at z8 t8 l8
 refine wP ⟨_, rfl, ?_⟩
 show Q (.ref g5.objs.size) _
 rw [zz]
 exact K x y g8 _ px py z8 (up _ _ ap.a2 p5) (D1.frame _ _ _ w1 λ q hq o e => up q o (λ y => ap.b1 (y ▸ hq)) e) (D2.frame _ _ _ w2 λ q hq o e => up q o (λ y => ap.b2 (y ▸ hq)) e) t8 l8 λ c o n1 n2 n3 n4 e => up c o n1 (k5 c o n1 n2 n3 n4 e)
theorem zipD_end {Q : Fin -> Shared -> Prop} (D1 : Draws prog w A i1 f1 n1 P1 S1) (ap : ZA z TI TO i1 i2 f1 f2)
 (hz : IsZip s.heap z TI TO .none) (hTI : IsPair s.heap TI (.ref i1) (.ref i2)) (hTO : IsPair s.heap TO a b) (h1 : S1 n1 s.heap)
 (K : ∀ h' e, (∀ c o, c ≠ z -> c ≠ i1 -> s.heap.get? c = some o -> h'.get? c = some o) -> (∃ o, h'.get? e = some o /\ o.cls = .type "StopIteration") -> E (.ref e) { s with heap := h' }) :
 wpAny (model prog w) A (Builtin.«zip.__next__» ⟨[.ref z], []⟩) Q E s := by
 show wpAny _ _ (field (.ref z) 2 >>= _) _ _ _
 refine wB (wpAny_field hz rfl (x := .bool false) rfl ?_)
 show wpAny _ _ (field (.ref z) 3 >>= _) _ _ _
 refine wB (wpAny_field hz rfl (x := .ref TI) rfl ?_)
 refine wB (wpAny_seqItems hTI rfl ?_)
 show wpAny _ _ (Builtin.SmallTypes.ownedTupleIsFree (.ref z) >>= _) _ _ _
 refine wB ?_
 unfold Builtin.SmallTypes.ownedTupleIsFree
 refine wB (wpAny_field hz rfl (x := .none) rfl (wP ?_))
 simp only [if_true]
 refine wB (wpAny_rule ?_)
 refine wB (wpAny_field hz rfl (x := .ref TO) rfl ?_)
 refine wB (wpAny_setField_rec hz (by simp) λ g1 z1 c1 => ?_)
 have z1 : IsZip g1 z TI TO .ellipsis := z1
 have c1 : Heap.SameBut z s.heap g1 := c1
 refine wB ?_
 simp only [List.zipIdx_cons, List.zipIdx_nil, List.forIn_cons, List.forIn_nil]
 refine wB (wB (wpAny_onRaise ?_))
 show wpAny _ _ (Builtin.SmallTypes.nextOf (.ref i1) >>= _) _ _ _
 refine wB (D1.done _ _ _ (D1.frame _ _ _ h1 λ q hq o e => (c1.2 q λ y => ap.b1 (y ▸ hq)).trans e) λ g2 e c2 st => ?_)
 have c2 : Heap.ExtBut i1 g1 g2 := c2
 obtain ⟨oe, ho, hc⟩ := st
 have z2 : IsZip g2 z TI TO .ellipsis := c2 _ _ ap.a3.symm z1
 have ne : e ≠ z := λ y => by
  subst y
  have : g2.get? e = some oe := ho
  rw [z2] at this
  cases this
  simp at hc
 refine wpAny_setField_rec z2 (by simp) λ g3 _ c3 => ?_
 have c3 : Heap.SameBut z g2 g3 := c3
 exact K g3 e (λ c o n1 n2 y => (c3.2 _ n1).trans (c2 _ _ n2 ((c1.2 _ n1).trans y))) ⟨oe, (c3.2 _ ne).trans ho, hc⟩
theorem nextZ_item {Q : Option Value -> Shared -> Prop} (D1 : Draws prog w A.in1 i1 f1 n1 P1 S1) (D2 : Draws prog w A.in1 i2 f2 n2 P2 S2) (ap : ZA z TI TO i1 i2 f1 f2)
 (hz : IsZip s.heap z TI TO .none) (hTI : IsPair s.heap TI (.ref i1) (.ref i2)) (hTO : IsPair s.heap TO a b) (h1 : S1 k s.heap) (h2 : S2 k s.heap) (l1 : k < n1) (l2 : k < n2)
 (K : ∀ x y h' tk, P1 k x -> P2 k y -> IsZip h' z TI TO (rawInt s.heap.objs.size) -> IsPair h' TO x y -> S1 (k + 1) h' -> S2 (k + 1) h' -> IsPair h' s.heap.objs.size x y -> h'.objs.size = s.heap.objs.size + 1 ->
  (∀ c o, c ≠ z -> c ≠ TO -> c ≠ i1 -> c ≠ i2 -> s.heap.get? c = some o -> h'.get? c = some o) -> Q (some (.ref s.heap.objs.size)) { s with heap := h', toks := tk }) :
 wpAny (model prog w) A (pyNext (.ref z)) Q E s := by
 have ty : s.TypeIs (.ref z) "zip" := ⟨_, hz, rfl⟩
 unfold pyNext
 exact wB (wpAny_attempt (wpAny_callSpecial?_slot (name := Str.ofString "__next__") ty F.slot_zip_next (wpAny_call_entry F.slot_zip_next ty F.entry_zip_next
  (zipD_item D1 D2 ap hz hTI hTO h1 h2 l1 l2 λ x y h' tk q1 q2 q3 q4 q5 q6 q7 q8 q9 => wP (K x y h' tk q1 q2 q3 q4 q5 q6 q7 q8 q9)) (F.args_zip_next_1 _))))
theorem nextZ_end {Q : Option Value -> Shared -> Prop} (D1 : Draws prog w A.in1 i1 f1 n1 P1 S1) (ap : ZA z TI TO i1 i2 f1 f2)
 (hz : IsZip s.heap z TI TO .none) (hTI : IsPair s.heap TI (.ref i1) (.ref i2)) (hTO : IsPair s.heap TO a b) (h1 : S1 n1 s.heap)
 (K : ∀ h', (∀ c o, c ≠ z -> c ≠ i1 -> s.heap.get? c = some o -> h'.get? c = some o) -> Q none { s with heap := h' }) : wpAny (model prog w) A (pyNext (.ref z)) Q E s := by
 have ty : s.TypeIs (.ref z) "zip" := ⟨_, hz, rfl⟩
 unfold pyNext
 refine wB (wpAny_attempt (wpAny_callSpecial?_slot (name := Str.ofString "__next__") ty F.slot_zip_next (wpAny_call_entry F.slot_zip_next ty F.entry_zip_next (zipD_end D1 ap hz hTI hTO h1 λ h' e q st => ?_) (F.args_zip_next_1 _))))
 obtain ⟨o, ho, hc⟩ := st
 exact wB (wpAny_isInstance (T := "StopIteration") (b := true) ⟨o, ho, hc⟩ isSubtype_stop (wP (K _ q)))
end
theorem zipT_new (l1 l2 : Addr) (xs ys : Array Value) :
 Meets (Builtin.«zip.__new__» ⟨[.type "zip", .ref l1, .ref l2], []⟩) (λ _ R s => s.heap.IsTuple l1 xs /\ s.heap.IsTuple l2 ys /\
  ∀ g1 g2 g3 g4 g5, g1 = s.heap.push { cls := .type "tuple_iterator", data := .fields #[.ref l1, .int 0 0] } -> g2 = g1.push { cls := .type "tuple_iterator", data := .fields #[.ref l2, .int 0 0] } ->
   g3 = g2.push { cls := .type "tuple", data := .seq #[.ref s.heap.objs.size, .ref g1.objs.size] } -> g4 = g3.push { cls := .type "tuple", data := .seq #[.none, .none] } ->
   g5 = g4.push { cls := .type "zip", data := .fields #[.none, .bool false, .bool false, .ref g2.objs.size, .ref g3.objs.size] } -> R (.ok (.ret (.ref g4.objs.size))) { s with heap := g5 }) :=
 .of_wp λ prog w A R s h => by
  obtain ⟨hp, g, d, tk, os⟩ := s
  obtain ⟨h1, h2, h⟩ := h
  have hsub := sub_zip
  have m1 : Heap.IsTuple (Shared.heap ⟨hp, g, d, tk, os⟩) l1 xs := h1
  have m2 : Heap.IsTuple (Shared.heap ⟨hp.push { cls := .type "tuple_iterator", data := .fields #[.ref l1, .int 0 0] }, g, d, tk, os⟩) l2 ys := Heap.IsTuple.push h2 _
  wp_walk using wpAny_pyIter_tuple m1, wpAny_pyIter_tuple m2
  exact ⟨_, rfl, h _ _ _ _ _ rfl rfl rfl rfl rfl⟩
section
variable {prog : Program} {w : World} {A : Around} {E : Value -> Shared -> Prop} {s : Shared}
theorem call_zipT {l1 l2 : Addr} {xs ys : Array Value} {Q : Value -> Shared -> Prop} (h1 : s.heap.IsTuple l1 xs) (h2 : s.heap.IsTuple l2 ys)
 (k : ∀ h', IsZip h' (s.heap.objs.size + 4) (s.heap.objs.size + 2) (s.heap.objs.size + 3) .none -> IsPair h' (s.heap.objs.size + 2) (.ref s.heap.objs.size) (.ref (s.heap.objs.size + 1)) -> IsPair h' (s.heap.objs.size + 3) .none .none ->
  h'.IsTupleIter s.heap.objs.size l1 0 -> h'.IsTupleIter (s.heap.objs.size + 1) l2 0 -> h'.objs.size = s.heap.objs.size + 5 -> (∀ c o, s.heap.get? c = some o -> h'.get? c = some o) -> Q (.ref (s.heap.objs.size + 4)) { s with heap := h' }) :
 wpAny (model prog w) A (call (.type "zip") [.ref l1, .ref l2]) Q E s := by
 refine callType_new F.called_zip (by decide) (F.typeCall_zip_2 _ _) (F.newCall_zip_2 _ _) (λ obj => F.args_object_init_3 obj _ _) F.entry_zip_new (zipT_new l1 l2 xs ys) ⟨h1, h2, ?_⟩
 intro g1 g2 g3 g4 g5 e1 e2 e3 e4 e5
 have z1 : g1.objs.size = s.heap.objs.size + 1 := by rw [e1]; exact Q17 ..
 have z2 : g2.objs.size = s.heap.objs.size + 2 := by rw [e2, Q17, z1]
 have z3 : g3.objs.size = s.heap.objs.size + 3 := by rw [e3, Q17, z2]
 have z4 : g4.objs.size = s.heap.objs.size + 4 := by rw [e4, Q17, z3]
 have z5 : g5.objs.size = s.heap.objs.size + 5 := by rw [e5, Q17, z4]
 have u2 : ∀ {c o}, g1.get? c = some o -> g2.get? c = some o := λ e => by rw [e2]; exact hPo _ e
 have u3 : ∀ {c o}, g2.get? c = some o -> g3.get? c = some o := λ e => by rw [e3]; exact hPo _ e
 have u4 : ∀ {c o}, g3.get? c = some o -> g4.get? c = some o := λ e => by rw [e4]; exact hPo _ e
 have u5 : ∀ {c o}, g4.get? c = some o -> g5.get? c = some o := λ e => by rw [e5]; exact hPo _ e
 have q5 : IsZip g5 (s.heap.objs.size + 4) (s.heap.objs.size + 2) (s.heap.objs.size + 3) .none := by rw [<- z4, <- z3, <- z2, e5]; exact hPs _ rfl
 have q4 : IsPair g5 (s.heap.objs.size + 3) .none .none := by rw [<- z3]; exact u5 (by rw [e4]; exact hPs _ rfl)
 have q3 : IsPair g5 (s.heap.objs.size + 2) (.ref s.heap.objs.size) (.ref (s.heap.objs.size + 1)) := by rw [<- z2, <- z1]; exact u5 (u4 (by rw [e3]; exact hPs _ rfl))
 have q2 : g5.IsTupleIter (s.heap.objs.size + 1) l2 0 := ⟨_, by rw [<- z1]; exact u5 (u4 (u3 (by rw [e2]; exact hPs _ rfl))), rfl, rfl⟩
 have q1 : g5.IsTupleIter s.heap.objs.size l1 0 := ⟨_, u5 (u4 (u3 (u2 (by rw [e1]; exact hPs _ rfl)))), rfl, rfl⟩
 rw [z4]
 exact ⟨⟨_, q5, rfl⟩, k _ q5 q3 q4 q1 q2 z5 λ c o x => u5 (u4 (u3 (u2 (by rw [e1]; exact hPo _ x))))⟩
end
section
variable {X : Cx} {pins : List (Addr × Obj)} {σ : St} {H : Hp} {s : Shared}
theorem Inv.turnedN {ch : List Addr} {h' : Heap} {t' : Nat} {p : Addr} {o : HO} (I : Inv X pins σ H s) (hf : ∀ b ∈ ch, FpOk X pins H b) (k : ∀ b u, b ∉ ch -> s.heap.get? b = some u -> h'.get? b = some u)
 (hp : s.heap.objs.size <= p) (new : ObjOk X.prog X.w (upd H p o) h' p o) : Inv X pins σ (upd H p o) { s with heap := h', toks := t' } := by
 have hn : H p = none := I.hok.fresh hp
 have nit : ∀ b u, H b = some u -> b ∉ ch := λ b u e z => by rw [(hf b z).1] at e; cases e
 have old : ∀ b u, s.heap.get? b = some u -> b ≠ p := λ b u e => nNl (nLl (hLs e) hp)
 refine I.step (g' := s.gens) (d' := s.drawn) (ch := ch) (λ b hb => ⟨(hf b hb).2.2.2.1, (hf b hb).2.1, (hf b hb).2.2.2.2.1, (hf b hb).2.2.2.2.2⟩) (λ b o _ _ hc e _ => k b o hc e) (λ b o _ _ hc e _ => ⟨o.slots, k b o hc e⟩)
  (λ b u _ e n => by rw [upd_ne (old b u e)]; exact n) (λ b o hc e => ⟨o, k b o hc e⟩) (λ b xs e => by rw [upd_ne (ne_of_none e hn)]; exact e) (λ b u xs e => by rw [upd_ne (ne_of_none e hn)]; exact e)
  (λ b ps e => ⟨#[], by rw [upd_ne (ne_of_none e hn), e]; simp⟩) (λ m hm => ?_) (λ b u e => ?_) I.bare
 · obtain ⟨ob, es, ep, ho, r⟩ := hm
   exact ⟨ob, es, ep, k _ ob (λ z => (hf _ z).2.1 rfl) ho, r⟩
 · by_cases hb : b = p
   · subst hb; rw [upd_same] at e; cases e; exact new
   · rw [upd_ne hb] at e
     refine (I.hok b u e).stay (λ c v hc q => k c v ?_ q) (λ c q => by rw [upd_ne (ne_of_none q hn)]; exact q) (λ c xs q => by rw [upd_ne (ne_of_none q hn)]; exact q) λ c ob xs q => by rw [upd_ne (ne_of_none q hn)]; exact q
     rcases hc with z | z
     · rw [z]; exact nit b u e
     · exact nit c _ z
theorem Inv.turned0 {ch : List Addr} {h' : Heap} {t' : Nat} (I : Inv X pins σ H s) (hf : ∀ b ∈ ch, FpOk X pins H b) (k : ∀ b u, b ∉ ch -> s.heap.get? b = some u -> h'.get? b = some u) : Inv X pins σ H { s with heap := h', toks := t' } := by
 have nit : ∀ b u, H b = some u -> b ∉ ch := λ b u e z => by rw [(hf b z).1] at e; cases e
 refine I.step (g' := s.gens) (d' := s.drawn) (ch := ch) (λ b hb => ⟨(hf b hb).2.2.2.1, (hf b hb).2.1, (hf b hb).2.2.2.2.1, (hf b hb).2.2.2.2.2⟩) (λ b o _ _ hc e _ => k b o hc e) (λ b o _ _ hc e _ => ⟨o.slots, k b o hc e⟩)
  (λ _ _ _ _ n => n) (λ b o hc e => ⟨o, k b o hc e⟩) (λ _ _ e => e) (λ _ _ _ e => e) (λ b ps e => ⟨#[], by rw [e]; simp⟩) (λ m hm => ?_) (λ b u e => ?_) I.bare
 · obtain ⟨ob, es, ep, ho, r⟩ := hm
   exact ⟨ob, es, ep, k _ ob (λ z => (hf _ z).2.1 rfl) ho, r⟩
 · refine (I.hok b u e).stay (λ c v hc q => k c v ?_ q) (λ _ q => q) (λ _ _ q => q) λ _ _ _ q => q
   rcases hc with z | z
   · rw [z]; exact nit b u e
   · exact nit c _ z
end
structure Src (P : Program) (w : World) (K : Fg) (a it : Addr) (S : Hp -> List V -> Prop) (IT : Nat -> Heap -> Prop) : Prop where
 inj : ∀ (X : Cx), X.K = K -> ∀ (pins : List (Addr × Obj)) (σ : St) (H : Hp) (s : Shared) (xs ys : List V), Inv X pins σ H s -> S H xs -> S H ys -> xs = ys
 at_ : ∀ i h h', IT i h -> (∀ o, h.get? it = some o -> h'.get? it = some o) -> IT i h'
 ob : ∀ i h, IT i h -> ∃ o n, h.get? it = some o /\ o.cls = .type n /\ n ≠ "list" /\ n ≠ "tuple" /\ n ≠ "enumerate" /\ n ≠ "zip" /\ ∀ v, o.data ≠ .cell v
 dr : ∀ (X : Cx), X.prog = P -> X.w = w -> X.K = K -> ∀ (pins : List (Addr × Obj)) (σ : St) (H : Hp) (s : Shared) (xs : List V), Inv X pins σ H s -> S H xs -> ∃ (its : List Value) (SA : Heap -> Prop), Vals xs its /\ SA s.heap /\
  (∃ o n, s.heap.get? a = some o /\ o.cls = .type n /\ (n = "list" \/ n = "tuple")) /\ ∀ A : Around, A.handled = none -> a ≠ it -> Draws P w A it [it, a] its.toArray.size (λ i v => its.toArray[i]? = some v) λ i h => IT i h /\ SA h
theorem srcT {P : Program} {w : World} {K : Fg} (a it : Addr) : Src P w K a it (λ H xs => SqT K H a xs) (λ i h => h.IsTupleIter it a i) where
 inj := λ X hK pins σ H s xs ys I h1 h2 => by subst hK; exact I.tuple_inj h1 h2
 at_ := λ i h h' x e => x.at e
 ob := λ i h x => by obtain ⟨o, e, c, d⟩ := x; exact ⟨o, _, e, c, by decide, by decide, by decide, by decide, λ v z => by rw [d] at z; cases z⟩
 dr := λ X hP hw hK pins σ H s xs I h => by
  subst hP hw hK
  obtain ⟨its, rv, p, hz⟩ := I.tuple h
  refine ⟨its, λ h => h.IsTuple a its.toArray, rv, p, ?_, λ A hh ne => drT hh it a ne its.toArray⟩
  obtain ⟨o, e, c, _⟩ := p
  exact ⟨o, _, e, c, .inr rfl⟩
theorem srcL {P : Program} {w : World} {K : Fg} (a it : Addr) : Src P w K a it (λ H xs => SqL K H a xs) (λ i h => h.IsListIter it a i) where
 inj := λ X hK pins σ H s xs ys I h1 h2 => by subst hK; exact I.list_inj h1 h2
 at_ := λ i h h' x e => x.at e
 ob := λ i h x => by obtain ⟨o, e, c, d⟩ := x; exact ⟨o, _, e, c, by decide, by decide, by decide, by decide, λ v z => by rw [d] at z; cases z⟩
 dr := λ X hP hw hK pins σ H s xs I h => by
  subst hP hw hK
  obtain ⟨its, rv, p, hz⟩ := I.list h
  refine ⟨its, λ h => h.IsList a its.toArray, rv, p.isList, ?_, λ A hh ne => Draws.list hh it a ne its.toArray⟩
  obtain ⟨o, e, c, _⟩ := p.isList
  exact ⟨o, _, e, c, .inl rfl⟩
theorem type_ne {h : Heap} {a b : Addr} {o u : Obj} {n m : String} (e : h.get? a = some o) (c : o.cls = .type n) (e' : h.get? b = some u) (c' : u.cls = .type m) (d : n ≠ m) : a ≠ b := λ z => by
 subst z
 rw [e] at e'
 cases e'
 rw [c] at c'
 exact d (by injection c')
def Ite (S : Hp -> List V -> Prop) : It :=
 ⟨λ i H => ∃ xs x, S H xs /\ xs[i]? = some x, λ i H x H' => ∃ p v, H p = none /\ x = .ref p /\ H' = upd H p (.tup [.int (i : Nat), v]) /\ ∀ xs, S H xs -> xs[i]? = some v, λ i H => ∃ xs, S H xs /\ xs.length = i⟩
theorem turn_enum {P : Program} {w : World} {K : Fg} {es : List Expr} {k1 : Nat} {tp : Pos} {a e it : Addr} {S : Hp -> List V -> Prop} {IT : Nat -> Heap -> Prop} (R : Src P w K a it S IT) :
 Turn P w K (.Tuple es k1 tp) (Ite S) [e, it] e (λ i h => (∃ old, IsEnum h e it (i : Nat) old) /\ IT i h) where
 mem := by simp
 obj := λ i h st b hb => by
  obtain ⟨⟨old, he⟩, hi⟩ := st
  have hb' : b = e \/ b = it := by simpa using hb
  rcases hb' with z | z
  · subst z; exact ⟨_, he, λ v z => by cases z⟩
  · subst z
    obtain ⟨o, n, q, _, _, _, _, _, d⟩ := R.ob _ _ hi
    exact ⟨o, q, d⟩
 keep := λ i h h' st k => by
  obtain ⟨⟨old, he⟩, hi⟩ := st
  exact ⟨⟨old, k e (by simp) _ he⟩, R.at_ _ _ _ hi λ o q => k it (by simp) o q⟩
 item := by
  intro X hP hw hK hc i pins s σ H E I hf st hg
  obtain ⟨xs, x, hq, hx⟩ := hg
  obtain ⟨⟨old, he⟩, hi⟩ := st
  obtain ⟨its, SA, rv, sa, ⟨oa, na, ea, ca, da⟩, dr⟩ := R.dr X hP hw hK pins σ H s xs I hq
  obtain ⟨oi, ni, ei, ci, d1, d2, d3, _, _⟩ := R.ob _ _ hi
  have nai : a ≠ it := type_ne ea ca ei ci (by rcases da with z | z <;> (subst z; first | exact d1.symm | exact d2.symm))
  have nea : e ≠ a := type_ne he rfl ea ca (by rcases da with z | z <;> (subst z; decide))
  have nei : e ≠ it := type_ne he rfl ei ci (Ne.symm d3)
  obtain ⟨u, hu, ru⟩ := rv.get hx
  have hh : X.A.in1.handled = none := I.ok.hd hc
  have hlt : i < its.toArray.size := by have := (Qa.mp hu).1; simpa using this
  subst hP hw
  refine wpAny_pyNext_enum_itemD (dr _ hh nai) he ⟨hi, sa⟩ hlt nei (by simp [nei, nea]) λ y h' tk py heo st' ht hsz hk => ?_
  have ey : y = u := by
   have : its[i]? = some y := by simpa using py
   rw [hu] at this; exact (zV this).symm
  subst ey
  refine ⟨_, rfl, wpAny_letOwnedTupleGo_enum heo λ h2 he2 c2 => ?_⟩
  have c2 : Heap.SameBut e h' h2 := c2
  have el : e < s.heap.objs.size := hLs he
  have t2 : h2.get? s.heap.objs.size = some { cls := .type "tuple", data := .seq #[.int i tk, y] } := (c2.2 _ (nNg el)).trans ht
  have I2 : Inv X pins σ (upd H s.heap.objs.size (.tup [.int (i : Nat), x])) { s with heap := h2, toks := tk + 1 } := I.turnedN (ch := [e, it]) hf (λ b o hb q => by
   have hb' : b ≠ e /\ b ≠ it := by simpa using hb
   exact (c2.2 _ hb'.1).trans (hk b o hb'.1 hb'.2 q)) (Q1 _) ⟨by show 2 <= sizeLine; decide, [.int i tk, y], .cons ⟨tk, rfl⟩ (.cons ru .nil), ⟨_, t2, rfl, _, rfl⟩, _, t2, rfl⟩
  have hn : H s.heap.objs.size = none := I.hok.fresh (Q1 _)
  refine ⟨.ref s.heap.objs.size, _, I2, rfl, ⟨_, x, hn, rfl, rfl, λ ys hy => by rw [R.inj X hK pins σ H s ys xs I hy hq]; exact hx⟩, ⟨⟨_, by simpa using he2⟩, R.at_ _ _ _ st'.1 λ o q => (c2.2 _ nei.symm).trans q⟩, λ b hb => ?_⟩
  have lb : b < s.heap.objs.size := by
   have hb' : b = e \/ b = it := by simpa using hb
   rcases hb' with z | z
   · rw [z]; exact el
   · rw [z]; exact hLs ei
  rw [upd_ne (nNl lb)]
  exact (hf b hb).1
 done := by
  intro X hP hw hK hc i pins s σ H E I hf st hg
  obtain ⟨xs, hq, hx⟩ := hg
  obtain ⟨⟨old, he⟩, hi⟩ := st
  obtain ⟨its, SA, rv, sa, ⟨oa, na, ea, ca, da⟩, dr⟩ := R.dr X hP hw hK pins σ H s xs I hq
  obtain ⟨oi, ni, ei, ci, d1, d2, d3, _, _⟩ := R.ob _ _ hi
  have nai : a ≠ it := type_ne ea ca ei ci (by rcases da with z | z <;> (subst z; first | exact d1.symm | exact d2.symm))
  have hh : X.A.in1.handled = none := I.ok.hd hc
  subst hP hw
  have hl : its.toArray.size = i := by rw [<- hx, rv.length]; simp
  refine wpAny_pyNext_enum_endD (dr _ hh nai) he (by rw [hl]; exact ⟨hi, sa⟩) λ h' eb => ⟨rfl, I.turned0 (t' := s.toks) (ch := [e, it]) hf λ b u hb q => ?_⟩
  have hb' : b ≠ e /\ b ≠ it := by simpa using hb
  exact eb b u hb'.2 q
 self := λ A i s Q E st h => by
  obtain ⟨⟨old, he⟩, hi⟩ := st
  exact wpAny_pyIter_enum he h
def Itz (S1 S2 : Hp -> List V -> Prop) : It :=
 ⟨λ i H => ∃ xs ys x y, S1 H xs /\ S2 H ys /\ xs[i]? = some x /\ ys[i]? = some y,
  λ i H x H' => ∃ p v u, H p = none /\ x = .ref p /\ H' = upd H p (.tup [v, u]) /\ (∀ xs, S1 H xs -> xs[i]? = some v) /\ ∀ ys, S2 H ys -> ys[i]? = some u,
  λ i H => ∃ xs, S1 H xs /\ xs.length = i⟩
theorem turn_zip {P : Program} {w : World} {K : Fg} {es : List Expr} {k1 : Nat} {tp : Pos} {a1 a2 z TI TO i1 i2 : Addr} {S1 S2 : Hp -> List V -> Prop} {IT1 IT2 : Nat -> Heap -> Prop} (R1 : Src P w K a1 i1 S1 IT1) (R2 : Src P w K a2 i2 S2 IT2) (n12 : i1 ≠ i2) (nT : TI ≠ TO) :
 Turn P w K (.Tuple es k1 tp) (Itz S1 S2) [z, TI, TO, i1, i2] z (λ i h => IsZip h z TI TO .none /\ IsPair h TI (.ref i1) (.ref i2) /\ (∃ a b, IsPair h TO a b) /\ IT1 i h /\ IT2 i h /\ a1 ≠ TO /\ a2 ≠ TO) where
 mem := by simp
 obj := λ i h st b hb => by
  obtain ⟨hz, hTI, ⟨a, b', hTO⟩, h1, h2, _, _⟩ := st
  have hb' : b = z \/ b = TI \/ b = TO \/ b = i1 \/ b = i2 := by simpa using hb
  rcases hb' with q | q | q | q | q
  · subst q; exact ⟨_, hz, λ v z => by cases z⟩
  · subst q; exact ⟨_, hTI, λ v z => by cases z⟩
  · subst q; exact ⟨_, hTO, λ v z => by cases z⟩
  · subst q
    obtain ⟨o, n, q, _, _, _, _, _, d⟩ := R1.ob _ _ h1
    exact ⟨o, q, d⟩
  · subst q
    obtain ⟨o, n, q, _, _, _, _, _, d⟩ := R2.ob _ _ h2
    exact ⟨o, q, d⟩
 keep := λ i h h' st k => by
  obtain ⟨hz, hTI, ⟨a, b', hTO⟩, h1, h2, q1, q2⟩ := st
  exact ⟨k z (by simp) _ hz, k TI (by simp) _ hTI, ⟨a, b', k TO (by simp) _ hTO⟩, R1.at_ _ _ _ h1 λ o q => k i1 (by simp) o q, R2.at_ _ _ _ h2 λ o q => k i2 (by simp) o q, q1, q2⟩
 item := by
  intro X hP hw hK hc i pins s σ H E I hf st hg
  obtain ⟨xs, ys, x, y, hq1, hq2, hx, hy⟩ := hg
  obtain ⟨hz, hTI, ⟨a, b', hTO⟩, h1, h2, q1, q2⟩ := st
  obtain ⟨is1, SA1, rv1, sa1, ⟨oa1, na1, ea1, ca1, da1⟩, dr1⟩ := R1.dr X hP hw hK pins σ H s xs I hq1
  obtain ⟨is2, SA2, rv2, sa2, ⟨oa2, na2, ea2, ca2, da2⟩, dr2⟩ := R2.dr X hP hw hK pins σ H s ys I hq2
  obtain ⟨o1, n1, e1, c1, d11, d12, d13, d14, _⟩ := R1.ob _ _ h1
  obtain ⟨o2, n2, e2, c2, d21, d22, d23, d24, _⟩ := R2.ob _ _ h2
  have s11 : a1 ≠ i1 := type_ne ea1 ca1 e1 c1 (by rcases da1 with z | z <;> (subst z; first | exact d11.symm | exact d12.symm))
  have s22 : a2 ≠ i2 := type_ne ea2 ca2 e2 c2 (by rcases da2 with z | z <;> (subst z; first | exact d21.symm | exact d22.symm))
  have s12 : a1 ≠ i2 := type_ne ea1 ca1 e2 c2 (by rcases da1 with z | z <;> (subst z; first | exact d21.symm | exact d22.symm))
  have s21 : a2 ≠ i1 := type_ne ea2 ca2 e1 c1 (by rcases da2 with z | z <;> (subst z; first | exact d11.symm | exact d12.symm))
  have sz1 : a1 ≠ z := type_ne ea1 ca1 hz rfl (by rcases da1 with z | z <;> (subst z; decide))
  have sz2 : a2 ≠ z := type_ne ea2 ca2 hz rfl (by rcases da2 with z | z <;> (subst z; decide))
  have tz : TI ≠ z := type_ne hTI rfl hz rfl (by decide)
  have oz : TO ≠ z := type_ne hTO rfl hz rfl (by decide)
  have iz1 : i1 ≠ z := type_ne e1 c1 hz rfl d14
  have iz2 : i2 ≠ z := type_ne e2 c2 hz rfl d24
  have oi1 : TO ≠ i1 := type_ne hTO rfl e1 c1 (Ne.symm d12)
  have oi2 : TO ≠ i2 := type_ne hTO rfl e2 c2 (Ne.symm d22)
  have ti1 : TI ≠ i1 := type_ne hTI rfl e1 c1 (Ne.symm d12)
  have ti2 : TI ≠ i2 := type_ne hTI rfl e2 c2 (Ne.symm d22)
  obtain ⟨u, hu, ru⟩ := rv1.get hx
  obtain ⟨v, hv, rv⟩ := rv2.get hy
  have hh : X.A.in1.handled = none := I.ok.hd hc
  have l1 : i < is1.toArray.size := by have := (Qa.mp hu).1; simpa using this
  have l2 : i < is2.toArray.size := by have := (Qa.mp hv).1; simpa using this
  subst hP hw
  have ap : ZA z TI TO i1 i2 [i1, a1] [i2, a2] := ⟨tz, oz, iz1, iz2, oi1, oi2, by simp [iz1.symm, sz1.symm], by simp [iz2.symm, sz2.symm], by simp [oi1, q1.symm], by simp [oi2, q2.symm], by simp [n12.symm, s12.symm], by simp [n12, s21.symm]⟩
  refine nextZ_item (dr1 _ hh s11) (dr2 _ hh s22) ap hz hTI hTO ⟨h1, sa1⟩ ⟨h2, sa2⟩ l1 l2 λ x' y' h' tk p1 p2 z' to' w1 w2 t' sz' hk => ?_
  have ex : x' = u := by
   have : is1[i]? = some x' := by simpa using p1
   rw [hu] at this; exact (zV this).symm
  have ey : y' = v := by
   have : is2[i]? = some y' := by simpa using p2
   rw [hv] at this; exact (zV this).symm
  subst ex ey
  refine ⟨_, rfl, wpAny_letOwnedTupleGo_zip z' λ g2 z2 cc => ?_⟩
  have cc : Heap.SameBut z h' g2 := cc
  have zl : z < s.heap.objs.size := hLs hz
  have t2 : IsPair g2 s.heap.objs.size x' y' := (cc.2 _ (nNg zl)).trans t'
  have I2 : Inv X pins σ (upd H s.heap.objs.size (.tup [x, y])) { s with heap := g2, toks := tk } := I.turnedN (ch := [z, TI, TO, i1, i2]) hf (λ b o hb q => by
   have hb' : b ≠ z /\ b ≠ TI /\ b ≠ TO /\ b ≠ i1 /\ b ≠ i2 := by simpa using hb
   exact (cc.2 _ hb'.1).trans (hk b o hb'.1 hb'.2.2.1 hb'.2.2.2.1 hb'.2.2.2.2 q)) (Q1 _) ⟨by show 2 <= sizeLine; decide, [x', y'], .cons ru (.cons rv .nil), ⟨_, t2, rfl, _, rfl⟩, _, t2, rfl⟩
  have hn : H s.heap.objs.size = none := I.hok.fresh (Q1 _)
  refine ⟨.ref s.heap.objs.size, _, I2, rfl, ⟨_, x, y, hn, rfl, rfl, λ zs hz' => by rw [R1.inj X hK pins σ H s zs xs I hz' hq1]; exact hx, λ zs hz' => by rw [R2.inj X hK pins σ H s zs ys I hz' hq2]; exact hy⟩,
   ⟨z2, (cc.2 _ tz).trans (hk _ _ tz nT ti1 ti2 hTI), ⟨_, _, (cc.2 _ oz).trans to'⟩, R1.at_ _ _ _ w1.1 λ o q => (cc.2 _ iz1).trans q, R2.at_ _ _ _ w2.1 λ o q => (cc.2 _ iz2).trans q, q1, q2⟩, λ b hb => ?_⟩
  have lb : b < s.heap.objs.size := by
   have hb' : b = z \/ b = TI \/ b = TO \/ b = i1 \/ b = i2 := by simpa using hb
   rcases hb' with q | q | q | q | q <;> rw [q]
   · exact zl
   · exact hLs hTI
   · exact hLs hTO
   · exact hLs e1
   · exact hLs e2
  rw [upd_ne (nNl lb)]
  exact (hf b hb).1
 done := by
  intro X hP hw hK hc i pins s σ H E I hf st hg
  obtain ⟨xs, hq1, hx⟩ := hg
  obtain ⟨hz, hTI, ⟨a, b', hTO⟩, h1, h2, q1, q2⟩ := st
  obtain ⟨is1, SA1, rv1, sa1, ⟨oa1, na1, ea1, ca1, da1⟩, dr1⟩ := R1.dr X hP hw hK pins σ H s xs I hq1
  obtain ⟨o1, n1, e1, c1, d11, d12, d13, d14, _⟩ := R1.ob _ _ h1
  obtain ⟨o2, n2, e2, c2, d21, d22, d23, d24, _⟩ := R2.ob _ _ h2
  have s11 : a1 ≠ i1 := type_ne ea1 ca1 e1 c1 (by rcases da1 with z | z <;> (subst z; first | exact d11.symm | exact d12.symm))
  have s12 : a1 ≠ i2 := type_ne ea1 ca1 e2 c2 (by rcases da1 with z | z <;> (subst z; first | exact d21.symm | exact d22.symm))
  have sz1 : a1 ≠ z := type_ne ea1 ca1 hz rfl (by rcases da1 with z | z <;> (subst z; decide))
  have tz : TI ≠ z := type_ne hTI rfl hz rfl (by decide)
  have oz : TO ≠ z := type_ne hTO rfl hz rfl (by decide)
  have iz1 : i1 ≠ z := type_ne e1 c1 hz rfl d14
  have iz2 : i2 ≠ z := type_ne e2 c2 hz rfl d24
  have oi1 : TO ≠ i1 := type_ne hTO rfl e1 c1 (Ne.symm d12)
  have oi2 : TO ≠ i2 := type_ne hTO rfl e2 c2 (Ne.symm d22)
  have hh : X.A.in1.handled = none := I.ok.hd hc
  subst hP hw
  have hl : is1.toArray.size = i := by rw [<- hx, rv1.length]; simp
  have ap : ZA z TI TO i1 i2 [i1, a1] [] := ⟨tz, oz, iz1, iz2, oi1, oi2, by simp [iz1.symm, sz1.symm], by simp, by simp [oi1, q1.symm], by simp, by simp [n12.symm, s12.symm], by simp⟩
  refine nextZ_end (dr1 _ hh s11) ap hz hTI hTO (by rw [hl]; exact ⟨h1, sa1⟩) λ h' eb => ⟨rfl, I.turned0 (t' := s.toks) (ch := [z, TI, TO, i1, i2]) hf λ b u hb q => ?_⟩
  have hb' : b ≠ z /\ b ≠ TI /\ b ≠ TO /\ b ≠ i1 /\ b ≠ i2 := by simpa using hb
  exact eb b u hb'.1 hb'.2.2.2.1 q
 self := λ A i s Q E st h => wpAny_pyIter_zip st.1 h
section
variable {X : Cx} {es : List Expr} {k1 : Nat} {tp : Pos}
def iZipT (K : Fg) (ta : TA) : TI := λ σ H R => ta σ H λ vs H1 => ∃ a b, vs = [.ref a, .ref b] /\ (∃ xs, SqT K H1 a xs) /\ (∃ ys, SqT K H1 b ys) /\ R (Itz (λ H xs => SqT K H a xs) λ H xs => SqT K H b xs) H1
theorem pi_zipT {a b : Expr} {ta : TA} {p pos : Pos} (hg : Gl X "zip") (hm : X.mg "zip" = none) (ha : PA X [a, b] ta) (hs : starEach [a, b] X.env = [(false, eval a X.env), (false, eval b X.env)] := by rfl) (hs2 : starEach [b] X.env = [(false, eval b X.env)] := by rfl) :
 PI X (.Tuple es k1 tp) (.Call (.Name "zip" p) [a, b] [] pos) (iZipT X.K ta) := by
 intro pins s σ H R I h
 refine Call_ (ld_blt I hg hm boot_zip (PyProof.Rows.callWith_type1 (thn (ha pos pins s σ H _ I h) λ us s1 q_ => ?_) (by rw [hs, hs2]) (by rw [hs2]; rfl)))
 obtain ⟨vs, H1, I1, r1, q1⟩ := q_
 obtain ⟨c, d, e, ⟨xs, hx⟩, ⟨ys, hy⟩, q⟩ := q1
 subst e
 cases r1 with
 | cons r rr =>
  cases rr with
  | cons r' rr =>
   cases rr
   cases r
   cases r'
   obtain ⟨its, rv, pt, hz⟩ := I1.tuple hx
   obtain ⟨its2, rv2, pt2, hz2⟩ := I1.tuple hy
   refine call_zipT (show s1.heap.IsTuple c its.toArray from pt) (show s1.heap.IsTuple d its2.toArray from pt2) λ h' q1 q2 q3 q4 q5 q6 q7 => ?_
   have lc := pt.lt
   have ld := pt2.lt
   refine wpAny_pyIter_zip q1 ⟨_, [_, _, _, _, _], _, _, H1, rfl, I1.kept (t' := s1.toks) q7, turn_zip (TI := s1.heap.objs.size + 2) (TO := s1.heap.objs.size + 3) (srcT c s1.heap.objs.size) (srcT d (s1.heap.objs.size + 1)) (nNl (Q23 _)) (nNl (Q23 _)), ⟨q1, q2, ⟨_, _, q3⟩, q4, q5, nNl (nLl lc (Q24 _ _)), nNl (nLl ld (Q24 _ _))⟩, λ b hb => ?_, q⟩
   have hb' : b = s1.heap.objs.size + 4 \/ b = s1.heap.objs.size + 2 \/ b = s1.heap.objs.size + 3 \/ b = s1.heap.objs.size \/ b = s1.heap.objs.size + 1 := by simpa using hb
   have hle : s1.heap.objs.size <= b := by
    rcases hb' with z | z | z | z | z <;> rw [z]
    all_goals first | exact Q1 _ | exact Q24 _ _
   exact I1.fpOk hle (I1.hok.fresh hle)
end
mutual
noncomputable def IsD (K : Fg) (H : Hp) (x : V) : PyData -> Prop
 | .none => x = .non
 | .bool b => x = .bl b
 | .int i => x = .int i
 | .str y => x = .str y
 | .list ds => ∃ a xs, x = .ref a /\ SqL K H a xs /\ AllD K H xs ds
 | .tuple ds => ∃ a xs, x = .ref a /\ SqT K H a xs /\ AllD K H xs ds
 | .dict _ => False
noncomputable def AllD (K : Fg) (H : Hp) (xs : List V) : List PyData -> Prop
 | [] => xs = []
 | d :: ds => ∃ x r, xs = x :: r /\ IsD K H x d /\ AllD K H r ds
end
theorem Same.seqT {K : Fg} {H H' : Hp} {a : Addr} {xs : List V} (e : Same H H') (h : SqT K H a xs) : SqT K H' a xs := by
 rcases h with h | h
 · rcases h with h | ⟨o, h⟩
   · exact .inl (.inl (e _ _ h))
   · exact .inl (.inr ⟨o, e _ _ h⟩)
 · exact .inr h
theorem same_new {H : Hp} {p : Addr} (h : H p = none) (o : HO) : Same H (upd H p o) := λ b u q => by rw [upd_ne (ne_of_none q h)]; exact q
mutual
theorem IsD.same {K : Fg} {H H' : Hp} (s : Same H H') : ∀ {x : V} (d : PyData), IsD K H x d -> IsD K H' x d
 | _, .none, h => h
 | _, .bool _, h => h
 | _, .int _, h => h
 | _, .str _, h => h
 | _, .list ds, h => by
  obtain ⟨a, xs, e, q, r⟩ := h
  exact ⟨a, xs, e, s.seq q, AllD.same s ds r⟩
 | _, .tuple ds, h => by
  obtain ⟨a, xs, e, q, r⟩ := h
  exact ⟨a, xs, e, s.seqT q, AllD.same s ds r⟩
 | _, .dict _, h => h.elim
theorem AllD.same {K : Fg} {H H' : Hp} (s : Same H H') : ∀ {xs : List V} (ds : List PyData), AllD K H xs ds -> AllD K H' xs ds
 | _, [], h => h
 | _, d :: ds, h => by
  obtain ⟨x, r, e, q, t⟩ := h
  exact ⟨x, r, e, IsD.same s d q, AllD.same s ds t⟩
end
section
variable {X : Cx} {pins : List (Addr × Obj)} {σ : St} {H : Hp} {s : Shared}
mutual
theorem IsD.reads (I : Inv X pins σ H s) : ∀ {x : V} {u : Value} (d : PyData), IsD X.K H x d -> RelV x u -> ∃ as, Reads s.heap u d as
 | _, _, .none, h, r => by rw [show _ = V.non from h] at r; cases r; exact ⟨_, .none⟩
 | _, _, .bool b, h, r => by rw [show _ = V.bl b from h] at r; cases r; exact ⟨_, .bool b⟩
 | _, _, .int i, h, r => by rw [show _ = V.int i from h] at r; obtain ⟨t, rfl⟩ := r; exact ⟨_, .int i t⟩
 | _, _, .str y, h, r => by rw [show _ = V.str y from h] at r; obtain ⟨t, rfl⟩ := r; exact ⟨_, .str y t⟩
 | _, _, .list ds, h, r => by
  obtain ⟨a, xs, e, q, al⟩ := h
  subst e
  cases r
  obtain ⟨its, rv, p, _⟩ := I.list q
  obtain ⟨o, h1, h2, n, h3⟩ := p.isList
  obtain ⟨as, ra⟩ := AllD.reads I ds al rv
  exact ⟨_, .list h1 h2 h3 (by simpa using ra)⟩
 | _, _, .tuple ds, h, r => by
  obtain ⟨a, xs, e, q, al⟩ := h
  subst e
  cases r
  obtain ⟨its, rv, p, _⟩ := I.tuple q
  obtain ⟨o, h1, h2, n, h3⟩ := p
  obtain ⟨as, ra⟩ := AllD.reads I ds al rv
  exact ⟨_, .tuple h1 h2 h3 (by simpa using ra)⟩
 | _, _, .dict _, h, _ => h.elim
theorem AllD.reads (I : Inv X pins σ H s) : ∀ {xs : List V} {us : List Value} (ds : List PyData), AllD X.K H xs ds -> Vals xs us -> ∃ as, ReadsAll s.heap us ds as
 | _, _, [], h, r => by rw [show _ = [] from h] at r; cases r; exact ⟨_, .nil⟩
 | _, _, d :: ds, h, r => by
  obtain ⟨x, rr, e, q, al⟩ := h
  subst e
  cases r with
  | cons r1 r2 =>
   obtain ⟨as, ra⟩ := IsD.reads I d q r1
   obtain ⟨bs, rb⟩ := AllD.reads I ds al r2
   exact ⟨_, .cons ra rb⟩
end
def cmpOk (d : PyData) : Prop := d.canLay0 = true /\ d.depth <= 60
def rEqD (K : Fg) (neg : Bool) : R2 := λ x y H Q => ∃ da db, IsD K H x da /\ IsD K H y db /\ cmpOk da /\ cmpOk db /\ Q (.bl (if neg then !PyData.eqv da db else PyData.eqv da db)) H
theorem op_eqD (hu : X.A.units + 64 < cLine) : OpR X (compareOp .Eq) (rEqD X.K false) := by
 intro pins s σ H x y v u Q I rx ry h
 obtain ⟨da, db, hx, hy, ca, cb, q⟩ := h
 obtain ⟨as, ra⟩ := hx.reads I _ rx
 obtain ⟨bs, rb⟩ := hy.reads I _ ry
 exact SeqAt.compareEq_reads ra rb ca.1 cb.1 (by have := ca.2; omega) ⟨.bl _, H, I, rfl, q⟩
theorem op_neD (hu : X.A.units + 64 < cLine) : OpR X (compareOp .NotEq) (rEqD X.K true) := by
 intro pins s σ H x y v u Q I rx ry h
 obtain ⟨da, db, hx, hy, ca, cb, q⟩ := h
 obtain ⟨as, ra⟩ := hx.reads I _ rx
 obtain ⟨bs, rb⟩ := hy.reads I _ ry
 exact SeqAt.compareNe_reads ra rb ca.1 cb.1 (by have := ca.2; omega) ⟨.bl _, H, I, rfl, q⟩
def rAll (K : Fg) : List V -> Hp -> VK -> Prop := λ xs H Q => ∃ (p : Addr) (bs : List Bool), xs = [.ref p] /\ SqL K H p (bs.map V.bl) /\ Q (.bl (bs.all id)) H
theorem all_range {bs : List Bool} : (List.range bs.length).all (λ i => bs.getD i true) = bs.all id := by
 rw [Bool.eq_iff_iff, Qd, Qd]
 constructor
 · intro h x hx
   obtain ⟨i, hi, e⟩ := List.mem_iff_getElem.mp hx
   have := h i (by simpa using hi)
   rw [gDq, gEq hi, e] at this
   exact this
 · intro h i hi
   have hi' : i < bs.length := by simpa using hi
   rw [gDq, gEq hi']
   exact h _ (Qf hi')
theorem call_all (hc : X.calm = true) : CallR X (.builtin "all") (rAll X.K) := by
 intro pins s σ H xs us Q I rv h
 obtain ⟨p, bs, rfl, hq, q⟩ := h
 obtain ⟨u, rfl, r⟩ := rv.one
 cases r
 obtain ⟨its, rr, pl, hz⟩ := I.list hq
 have hl : its.length = bs.length := by rw [<- rr.length, zJ]
 have hh : X.A.in1.handled = none := I.ok.hd hc
 have lp : p < s.heap.objs.size := by obtain ⟨o, e, _⟩ := pl.isList; exact hLs e
 refine call_all_walk (wpAny_pyIter_list pl.isList ⟨_, _, _, _, _, _, λ i => bs.getD i true, rfl, Walks.list hh s.heap.objs.size p (nNl lp) its.toArray, ⟨⟨_, hPs _ rfl, rfl, rfl⟩, pl.isList.push _⟩, ?_, λ h' tk k => ?_⟩)
 · intro i v s' Q' E' hP hQ
   have hP' : its[i]? = some v := by simpa using hP
   have hi : i < its.length := (Qa.mp hP').1
   have hb : (bs.map V.bl)[i]? = some (.bl (bs[i]'(by omega))) := by rw [zK, gEq (by omega)]; rfl
   obtain ⟨u, hu, ru⟩ := rr.get hb
   rw [hP'] at hu
   cases hu
   cases ru
   have e : bs.getD i true = bs[i]'(by omega) := by rw [gDq, gEq (by omega)]; rfl
   have hQ' : Q' (bs.getD i true) s' := hQ
   rw [e] at hQ'
   exact wpAny_truthy_bool hQ'
 · have e : (List.range its.toArray.size).all (λ i => bs.getD i true) = bs.all id := by rw [zM, hl, all_range]
   rw [e]
   refine ⟨.bl _, H, ?_, rfl, q⟩
   refine I.kept λ b o eb => k b o ?_ (hPo _ eb)
   simp only [Q1d]
   exact nNl (hLs eb)
def rRemove : V -> List V -> Hp -> VK -> Prop := λ x vs H Q => ∃ (l : Addr) (ns : List Int) (n : Int), x = .ref l /\ vs = [.int n] /\ H l = some (.lst (ns.map V.int)) /\ n ∈ ns /\ Q .non (upd H l (.lst ((ns.erase n).map V.int)))
theorem map_erase (n : Int) (ns : List Int) : ∀ {us : List Value}, Vals (ns.map V.int) us -> n ∈ ns -> ∃ j, ∃ (hj : j < us.length), eqU (.int n) us[j] = true /\ (∀ m (hm : m < us.length), m < j -> eqU (.int n) us[m] = false) /\ Vals ((ns.erase n).map V.int) (us.eraseIdx j) := by
 induction ns with
 | nil => intro us _ h; simp at h
 | cons a r ih =>
  intro us rv h
  cases rv with
  | @cons _ b _ l2 r1 r2 =>
   obtain ⟨t, rfl⟩ := (show ∃ t, b = Value.int a t from r1)
   by_cases e : a = n
   · subst e
     refine ⟨0, by simp, ?_, λ m _ hm => absurd hm (Nat.not_lt_zero _), ?_⟩
     · show eqV (.int a) (.int a) = true
       simp [eqV]
     · simpa using r2
   · have hr : n ∈ r := by
      rcases Qb.mp h with z | z
      · exact absurd z.symm e
      · exact z
     obtain ⟨j, hj, h1, h2, h3⟩ := ih r2 hr
     refine ⟨j + 1, by simpa using hj, by simpa using h1, λ m hm hmj => ?_, ?_⟩
     · cases m with
       | zero =>
        show eqV (.int a) (.int n) = false
        simp [eqV, e]
       | succ m => simpa using h2 m (by simpa using hm) (by omega)
     · rw [List.erase_cons_tail (by simpa using e)]
       exact .cons ⟨t, rfl⟩ h3
theorem mt_remove : MtM X "list.remove" rRemove := by
 intro pins s σ H x vs v us Q I rx rv h
 obtain ⟨l, ns, n, rfl, rfl, hH, hm, q⟩ := h
 cases rx
 obtain ⟨u, rfl, ru⟩ := rv.one
 obtain ⟨z, its, k, r, hl, e⟩ := I.lstM hH
 obtain ⟨t, rfl⟩ := (show ∃ t, u = Value.int n t from ru)
 obtain ⟨j, hj, h1, h2, h3⟩ := map_erase n ns r hm
 have hz : its.length <= sizeLine := by rw [<- hl]; exact z
 refine call_meets F.slot_list_remove ⟨_, e, rfl⟩ F.entry_list_remove (F.args_list_remove_2 _ _) (MeetsSeq.list_remove l its.toArray k (.int n t) (eqU (.int n)) ?_ j (by simpa using hj) (by simpa using h1) (λ m hm hmj => by simpa using h2 m (by simpa using hm) hmj) (by rw [zM]; exact hz)) ⟨e, ?_⟩
 · intro y hy
   have hy' : y ∈ its := by simpa using hy
   obtain ⟨i, hi, ei⟩ := List.mem_iff_getElem.mp hy'
   have hl' : (ns.map V.int).length = its.length := r.length
   have hi' : i < ns.length := by rw [zJ] at hl'; omega
   obtain ⟨u, hu, ru⟩ := r.get (i := i) (x := .int ns[i]) (by rw [zK, gEq hi'] <;> rfl)
   rw [gEq hi, ei] at hu
   cases hu
   obtain ⟨t', rfl⟩ := ru
   exact MeetsSeq.EqGives.int ns[i] n t' t
 · refine ⟨.non, _, I.lset (its' := its.eraseIdx j) hH e (by simp [Array.eraseIdxIfInBounds, hj]) h3 ?_, rfl, q⟩
   rw [zJ]
   have := List.length_erase_le (a := n) (l := ns)
   rw [zJ] at z
   omega
end
section
variable {prog : Program} {w : World} {A : Around} {E : Value -> Shared -> Prop} {s : Shared}
theorem cut_whole {t sl : Addr} {items : Array Value} {vl vu : Value} {lo hi : Option Int} {Q : Value -> Shared -> Prop} (ht : IsTup s.heap t items) (hs : s.heap.IsSliceOf sl vl vu .none) (pl : IsPart vl lo) (pu : IsPart vu hi)
 (hw : HT.sIx items.size 0 lo = 0 /\ HT.sIx items.size items.size hi = items.size) (h : Q (.ref t) s) : wpAny (model prog w) A (getItem (.ref t) (.ref sl)) Q E s := by
 obtain ⟨os, hos, hcs, hds⟩ := id hs
 have hTs : s.TypeIs (.ref sl) "slice" := ⟨os, hos, hcs⟩
 unfold getItem
 try with_reducible refine wpAny_holding ?_
 first | refine wB (wP ?_) | skip
 refine wB (wpAny_sequenceKey ht.typeIs (by decide) ?_)
 refine wB (wpAny_callSpecial?_slot (name := Str.ofString "__getitem__") ht.typeIs PyProof.Rows.slot_tuple_getitem (wpAny_call_entry PyProof.Rows.slot_tuple_getitem ht.typeIs entry_tuple_getitem ?_ (args_tuple_getitem _ _)))
 show wpAny _ _ (Builtin.Tuple.tupleItemsOf (.ref t) >>= _) _ _ s
 refine wB (tupleItemsOf_ ht ?_)
 refine wB (wpAny_typeOf hTs ?_)
 rw [if_pos (by decide)]
 refine wB (HT.sliceApplied_gen hs pl pu ?_)
 rw [hw.1, hw.2]
 show wpAny _ _ (if (((0 : Nat) : Int) == 0 && (1 : Int) == 1 && (items.size - 0) == items.size) = true then _ else _) _ _ s
 rw [if_pos (by simp)]
 show wpAny _ _ (Builtin.Tuple.tupleIsExact (.ref t) >>= _) _ _ s
 refine wB ?_
 unfold Builtin.Tuple.tupleIsExact
 refine wB (wpAny_typeOf ht.typeIs (wP ?_))
 first
  | exact wB (wpAny_rule (wP ⟨_, rfl, wP h⟩))
  | (simp only [beq_self_eq_true, if_true]; exact wB (wpAny_rule (wB (wP (wP ⟨_, rfl, wP h⟩)))))
  | (simp only [beq_self_eq_true, if_true]; exact wB (wpAny_rule (wP ⟨_, rfl, wP h⟩)))
end
section
variable {X : Cx}
def rSlW (K : Fg) : V -> Option Int -> Option Int -> Hp -> VK -> Prop := λ x lo hi H Q => ∃ a xs, x = .ref a /\ SqT K H a xs /\ HT.sIx xs.length 0 lo = 0 /\ HT.sIx xs.length xs.length hi = xs.length /\ Q (.ref a) H
theorem sl_tupW : SlR X (rSlW X.K) := by
 intro pins s σ H x v vl vu lo hi sl Q I rx hs pl pu h
 obtain ⟨a, xs, rfl, hx, h1, h2, q⟩ := h
 cases rx
 obtain ⟨its, r, ht, hz⟩ := I.tuple hx
 have hlen : its.toArray.size = xs.length := by rw [zM]; exact r.length.symm
 refine ⟨"tuple", _, PyProof.Rows.slot_tuple_getitem.lookup, ht.typeIs, cut_whole ht hs pl pu (by rw [hlen]; exact ⟨h1, h2⟩) ⟨.ref a, H, I, rfl, q⟩⟩
end
section
variable {prog : Program} {w : World} {A : Around} {E : Value -> Shared -> Prop} {s : Shared}
theorem cat_nil {t b : Addr} {vs ws : List Value} {Q : Value -> Shared -> Prop} (ht : IsTup s.heap t vs.toArray) (hb : IsTup s.heap b ws.toArray) (hv : vs = []) (h : Q (.ref b) s) : wpAny (model prog w) A (binaryOp .Add (.ref t) (.ref b)) Q E s := by
 obtain ⟨⟨cls, dd, data, sl⟩, ho, hc, n, hd⟩ := id ht
 obtain ⟨⟨cls2, dd2, data2, sl2⟩, ho2, hc2, n2, hd2⟩ := id hb
 simp only at hc hd hc2 hd2
 subst hc hd hc2 hd2
 exact concat_meets ⟨_, ho, rfl⟩ ⟨_, ho2, rfl⟩ noFill_tuple_add seq_tuple_add PySem.F.slot_tuple_add PySem.F.entry_tuple_add (PySem.F.args_tuple_add_2 _ _) (tuple_addW0 t b vs.toArray ws.toArray n n2 dd dd2 sl sl2 (by simp [hv])) ⟨ho, ho2, h⟩
end
section
variable {X : Cx}
end
structure Own (P : Program) (w : World) (K : Fg) (mg : Str -> Option Value) (base : Heap) (k : Nat) (x : Str) (ps : List Str) (sp : Sp) : Prop where
 ex : ∃ (f : Addr) (fd : FuncData), FnOk P w K mg base CX0 k f fd ps sp /\ mg x = some (.ref f) /\ PySem.W.keepIn K (.ref f) = true /\ Binds K fd ps []
section
variable {X : Cx}
theorem pe_own {k n : Nat} {x : Str} {ps : List Str} {sp : Sp} {p pos : Pos} {e : Expr} {es : List Expr} {t : TA} (O : Own X.prog X.w X.K X.mg X.base k x ps sp) (hr : Room n X.A) (ha : PA X (e :: es) t) (hkn : k <= n := by decide) (hg : Gl X x := by rfl)
 (hdb : (x == ("__debug__" : Str)) = false := by decide) (he : starEach (e :: es) X.env = (false, eval e X.env) :: starEach es X.env := by rfl) (hpl : (backTo pos (starEach es X.env)).any (·.1) = false := by rfl) :
 PE X (.Call (.Name x p) (e :: es) [] pos) (tCall sp [] E0 t) := by
 obtain ⟨f, fd, F, m, kp, b⟩ := O.ex
 exact pe_call F (hr.mono hkn) hg m kp b .nil pass0 ha hdb he hpl
end
structure Bt (mg : Str -> Option Value) : Prop where
 len : mg "len" = none
 isinstance : mg "isinstance" = none
 range : mg "range" = none
 int : mg "int" = none
 bool : mg "bool" = none
 tuple : mg "tuple" = none
 list : mg "list" = none
 all : mg "all" = none
 enumerate : mg "enumerate" = none
 zip : mg "zip" = none
 sum : mg "sum" = none
 sorted : mg "sorted" = none
 max : mg "max" = none
 min : mg "min" = none
 set : mg "set" = none
 str : mg "str" = none
theorem boot_isi : bootBuiltins "isinstance" = some (.builtin "isinstance") := by decide +kernel
theorem small {n : Nat} (h : n <= 1000) : n <= sizeLine := nLe (small1000 h)
section
variable {X : Cx}
end
section
variable {X : Cx}
theorem kx_in (K : Fg) (h : X.K = K := by rfl) : OpR X (compareOp .In) (rIn K false) := h ▸ op_in_seq
theorem kx_eqD (K : Fg) (hu : X.A.units + 64 < cLine) (h : X.K = K := by rfl) : OpR X (compareOp .Eq) (rEqD K false) := h ▸ op_eqD hu
theorem kx_neD (K : Fg) (hu : X.A.units + 64 < cLine) (h : X.K = K := by rfl) : OpR X (compareOp .NotEq) (rEqD K true) := h ▸ op_neD hu
def rListOf (K : Fg) : List V -> Hp -> VK -> Prop := λ xs H Q => ∃ p ys, xs = [.ref p] /\ (SqL K H p ys \/ SqT K H p ys) /\ ∀ l, H l = none -> Q (.ref l) (upd H l (.lst ys))
def rTupleOf (K : Fg) : List V -> Hp -> VK -> Prop := λ xs H Q => ∃ p ys, xs = [.ref p] /\ ((SqL K H p ys /\ ∀ l, H l = none -> Q (.ref l) (upd H l (.tup ys))) \/ (SqT K H p ys /\ Q (.ref p) H))
theorem kx_list (K : Fg) (h : X.K = K := by rfl) : CallR X (.type "list") (rListOf K) := h ▸ call_list_of
theorem kx_tuple (K : Fg) (h : X.K = K := by rfl) : CallR X (.type "tuple") (rTupleOf K) := h ▸ call_tuple_of
theorem kx_all (K : Fg) (h : X.K = K := by rfl) (hc : X.calm = true := by rfl) : CallR X (.builtin "all") (rAll K) := h ▸ call_all hc
theorem kx_zip {es : List Expr} {k1 : Nat} {tp : Pos} {a b : Expr} {ta : TA} {p pos : Pos} (K : Fg) (hm : X.mg "zip" = none) (ha : PA X [a, b] ta) (h : X.K = K := by rfl) (hg : Gl X "zip" := by rfl) (hs : starEach [a, b] X.env = [(false, eval a X.env), (false, eval b X.env)] := by rfl) (hs2 : starEach [b] X.env = [(false, eval b X.env)] := by rfl) :
 PI X (.Tuple es k1 tp) (.Call (.Name "zip" p) [a, b] [] pos) (iZipT K ta) := h ▸ pi_zipT hg hm ha hs hs2
theorem kx_pair {es : List Expr} {k1 : Nat} {t : TGs} {n : Nat} {pos : Pos} (K : Fg) (h2 : PGs X es t) (h : X.K = K := by rfl) (hc : X.calm = true := by rfl) (hn : (assignEach es X.env).length = n := by rfl) (hst : (assignEach es X.env).findIdx? (·.1) = none := by rfl) : PG X (.Tuple es k1 pos) (gTup K n t) := h ▸ pg_tup hc h2 hn hst
def tTru (K : Fg) (ta : TE) : TT := λ σ H Q => ta σ H λ x H' => ∃ k, TruV K x H' k /\ Q k H'
theorem kx_tru {a : Expr} {ta : TE} (K : Fg) (ha : PE X a ta) (h : X.K = K := by rfl) (he : ∀ whole, isTrue a X.env whole = (do let v <- whole; standAt a.pos; holding [v] (truthy v)) := by intro _; rfl) : PT X a (tTru K ta) := h ▸ pt_truth ha he
end
theorem inV_int (c : Int) : ∀ u : List Int, inV (.int c) (u.map V.int) = decide (c ∈ u)
 | [] => rfl
 | a :: u => by
  have ih := inV_int c u
  show (eqV (.int a) (.int c) || inV (.int c) (u.map V.int)) = _
  rw [ih]
  show ((a == c) || decide (c ∈ u)) = _
  by_cases e : a = c
  · subst e; simp
  · have e' : ¬ c = a := λ z => e z.symm
    have : (a == c) = false := by simpa using e
    rw [this]
    simp [e']
theorem flat_ints : ∀ u : List Int, (u.map V.int).all flatV = true
 | [] => rfl
 | _ :: u => by
  show (true && (u.map V.int).all flatV) = true
  rw [flat_ints u]
  rfl
theorem cells_mem : ∀ {names : List (Str × NameKind)} {n : Nat} {acc : List (Str × Addr)} {x : Str} {c : Addr}, (x, c) ∈ cellsFrom n names acc -> (x, c) ∈ acc \/ (n <= c /\ (x, NameKind.cell) ∈ names)
 | [], n, acc, x, c, h => .inl h
 | (y, k) :: r, n, acc, x, c, h => by
  unfold cellsFrom at h
  by_cases hk : (k == .cell) = true
  · rw [if_pos hk] at h
    have hk' : k = .cell := by simpa using hk
    rcases cells_mem h with q | ⟨q1, q2⟩
    · rcases Qb.mp q with q | q
      · injection q with q1 q2
        subst q1 q2
        exact .inr ⟨Q1 _, by rw [hk']; exact lMs⟩
      · exact .inl q
    · exact .inr ⟨Nat.le_of_succ_le q1, lMc _ q2⟩
  · rw [if_neg hk] at h
    rcases cells_mem h with q | ⟨q1, q2⟩
    · exact .inl q
    · exact .inr ⟨q1, lMc _ q2⟩
theorem cells_inj : ∀ {names : List (Str × NameKind)} {n : Nat} {acc : List (Str × Addr)} {x y : Str} {c : Addr}, (∀ z ∈ acc, z.2 < n) -> (x, c) ∈ cellsFrom n names acc -> (y, c) ∈ cellsFrom n names acc -> n <= c -> x = y
 | [], n, acc, x, y, c, ha, h1, _, hc => absurd (ha _ h1) (Nat.not_lt.mpr hc)
 | (z, k) :: r, n, acc, x, y, c, ha, h1, h2, hc => by
  unfold cellsFrom at h1 h2
  by_cases hk : (k == .cell) = true
  · rw [if_pos hk] at h1 h2
    have ha' : ∀ w ∈ (z, n) :: acc, w.2 < n + 1 := λ w hw => by
     rcases Qb.mp hw with q | q
     · rw [q]; exact Q23 _
     · exact Q1c (ha w q)
    by_cases e : c = n
    · subst e
      have only : ∀ {u : Str}, (u, c) ∈ cellsFrom (c + 1) r ((z, c) :: acc) -> u = z := λ {u} hu => by
       rcases cells_mem hu with q | ⟨q, _⟩
       · rcases Qb.mp q with q | q
         · injection q
         · exact absurd (ha _ q) (zT _)
       · exact absurd q (Nat.not_succ_le_self _)
      rw [only h1, only h2]
    · exact cells_inj ha' h1 h2 (Nat.succ_le_of_lt (Nat.lt_of_le_of_ne hc (λ q => e q.symm)))
  · rw [if_neg hk] at h1 h2
    exact cells_inj ha h1 h2 hc
theorem cells_new {lo : Nat} : ∀ {names : List (Str × NameKind)} {n : Nat} {acc : List (Str × Addr)} {x : Str} {c : Addr}, lo <= n -> (names.lookup x = some .cell \/ ∃ c0, acc.lookup x = some c0 /\ lo <= c0) -> (cellsFrom n names acc).lookup x = some c -> lo <= c
 | [], n, acc, x, c, hn, h, e => by
  rcases h with h | ⟨c0, h1, h2⟩
  · simp at h
  · have e' : acc.lookup x = some c := e
    rw [h1] at e'
    cases e'
    exact h2
 | (y, k) :: r, n, acc, x, c, hn, h, e => by
  unfold cellsFrom at e
  by_cases hk : (k == .cell) = true
  · rw [if_pos hk] at e
    refine cells_new (Nat.le_succ_of_le hn) ?_ e
    cases hx : x == y with
    | true => exact .inr ⟨n, by simp [Qc, hx], hn⟩
    | false =>
     rcases h with h | ⟨c0, h1, h2⟩
     · exact .inl (by simpa only [Qc, hx] using h)
     · exact .inr ⟨c0, by simpa only [Qc, hx] using h1, h2⟩
  · rw [if_neg hk] at e
    refine cells_new hn ?_ e
    rcases h with h | h
    · cases hx : x == y with
      | true =>
       simp only [Qc, hx] at h
       have : k = .cell := zV h
       rw [this] at hk
       exact absurd rfl hk
      | false => exact .inl (by simpa only [Qc, hx] using h)
    · exact .inr h
theorem cells_old : ∀ {names : List (Str × NameKind)} {n : Nat} {acc : List (Str × Addr)} {x : Str}, (∀ y ∈ names, y.1 = x -> y.2 ≠ .cell) -> (cellsFrom n names acc).lookup x = acc.lookup x
 | [], _, _, _, _ => rfl
 | (y, k) :: r, n, acc, x, h => by
  have hr : ∀ z ∈ r, z.1 = x -> z.2 ≠ .cell := λ z hz => h z (lMc _ hz)
  unfold cellsFrom
  by_cases hk : (k == .cell) = true
  · rw [if_pos hk, cells_old hr]
    have hk' : k = .cell := by simpa using hk
    have hx : (x == y) = false := by
     have : y ≠ x := λ q => h (y, k) lMs q hk'
     simpa using λ q : x = y => this q.symm
    simp only [Qc, hx]
  · rw [if_neg hk, cells_old hr]
theorem push_cells : ∀ {names : List (Str × NameKind)} {h : Heap} {acc : List (Str × Addr)} {x : Str} {c : Addr}, (∀ z ∈ acc, z.2 < h.objs.size) -> (x, c) ∈ cellsFrom h.objs.size names acc -> h.objs.size <= c -> (pushCells h names).IsCell c none
 | [], h, acc, x, c, ha, hm, hc => absurd (ha _ hm) (Nat.not_lt.mpr hc)
 | (y, k) :: r, h, acc, x, c, ha, hm, hc => by
  unfold cellsFrom at hm
  unfold pushCells
  by_cases hk : (k == .cell) = true
  · rw [if_pos hk] at hm ⊢
    have z : (h.push { cls := .type "cell", data := .cell none }).objs.size = h.objs.size + 1 := Q17 ..
    have ha' : ∀ w ∈ (y, h.objs.size) :: acc, w.2 < (h.push { cls := .type "cell", data := .cell none }).objs.size := λ w hw => by
     rw [z]
     rcases Qb.mp hw with q | q
     · rw [q]; exact Q23 _
     · exact Q1c (ha w q)
    by_cases e : c = h.objs.size
    · exact ⟨_, pushCells_keeps _ _ _ _ (by rw [e]; exact hPs _ rfl), rfl⟩
    · rw [<- z] at hm
      exact push_cells ha' hm (by rw [z]; exact Nat.succ_le_of_lt (Nat.lt_of_le_of_ne hc λ q => e q.symm))
  · rw [if_neg hk] at hm ⊢
    exact push_cells ha hm hc
theorem relab_cf {env : Env} : ∀ {names : List (Str × NameKind)} {x : Str},
 (((names.map λ (n, k) => if (k == NameKind.free && env.scope.kind == .function && env.kindOf n == some .cell) then (n, NameKind.cell) else (n, k)).lookup x = some .cell) \/
  ((names.map λ (n, k) => if (k == NameKind.free && env.scope.kind == .function && env.kindOf n == some .cell) then (n, NameKind.cell) else (n, k)).lookup x = some .free)) ->
 names.lookup x = some .cell \/ names.lookup x = some .free
 | [], x, h => by rcases h with h | h <;> simp at h
 | (n, k) :: r, x, h => by
  have e1 : ((n, k) :: r).map (λ (n, k) => if (k == NameKind.free && env.scope.kind == .function && env.kindOf n == some .cell) = true then (n, NameKind.cell) else (n, k)) =
   (if (k == NameKind.free && env.scope.kind == .function && env.kindOf n == some .cell) = true then (n, NameKind.cell) else (n, k)) :: r.map (λ (n, k) => if (k == NameKind.free && env.scope.kind == .function && env.kindOf n == some .cell) = true then (n, NameKind.cell) else (n, k)) := rfl
  rw [e1] at h
  cases hx : x == n with
  | true =>
   by_cases c : (k == NameKind.free && env.scope.kind == .function && env.kindOf n == some .cell) = true
   · have : k = .free := by
      simp only [Q2] at c
      simpa using c.1.1
     subst this
     right
     simp [Qc, hx]
   · rw [if_neg c] at h
     simpa only [Qc, hx] using h
  | false =>
   have : ((r.map λ (n, k) => if (k == NameKind.free && env.scope.kind == .function && env.kindOf n == some .cell) = true then (n, NameKind.cell) else (n, k)).lookup x = some .cell) \/
    ((r.map λ (n, k) => if (k == NameKind.free && env.scope.kind == .function && env.kindOf n == some .cell) = true then (n, NameKind.cell) else (n, k)).lookup x = some .free) := by
    by_cases c : (k == NameKind.free && env.scope.kind == .function && env.kindOf n == some .cell) = true
    · rw [if_pos c] at h; simpa only [Qc, hx] using h
    · rw [if_neg c] at h; simpa only [Qc, hx] using h
   have q := relab_cf this
   simpa only [Qc, hx] using q
section
variable {M : Model} {A : Around} {E : Value -> Shared -> Prop} {s : Shared}
theorem nfe_cells {scope : Scope} {cl : List (Str × Addr)} {env : Env} {Q : Env -> Shared -> Prop}
 (hQ : Q { scope := scope, locals := s.heap.objs.size, globals := env.globals, cells := cellsFrom (s.heap.objs.size + 1) scope.names cl, qual := env.qual, func := none, code := env.code, frame := env.frame, builtins := env.builtins }
  { s with heap := pushCells (s.heap.push { cls := .type "dict", data := .dict #[] }) scope.names }) : wpAny M A (newFunctionEnv scope env.globals cl [] env.qual none .none (some env)) Q E s := by
 simp only [newFunctionEnv, Option.isSome_some, if_true]
 refine wB (wpAny_alloc ?_)
 refine wB (wpAny_layCells _ (λ name kind cells => by cases hkc : kind == NameKind.cell <;> simp [hkc]) _ _ _ _ ?_)
 rw [show ({ s with heap := s.heap.push { cls := .type "dict", data := .dict #[] } } : Shared).heap.objs.size = s.heap.objs.size + 1 from Q17 ..]
 simp only [List.forIn_nil]
 exact wB (wP (wP hQ))
end
noncomputable def cxCp (X : Cx) (N : List Str) (sc : Scope) (C : Addr) (fp : List Addr) (s : Shared) (H : Hp) : Cx :=
 { X with N := N, s₀ := s, H₀ := H, env := compEnvC sc (cellsFrom (C + 1) sc.names (clOf X.env sc.names [])) C X.env, outer := X.stack, ex := fp, fn := λ x => sc.names.lookup x == some .cell, pn := [], xe := λ _ _ => False }
section
variable {X : Cx}
theorem cp_cells {pins : List (Addr × Obj)} {σ : St} {H : Hp} {s : Shared} {sc : Scope} (I : Inv X pins σ H s) (hfree : ∀ y ∈ sc.names, y.2 = .free -> X.env.kindOf y.1 = some .cell \/ X.env.kindOf y.1 = some .free) {x : Str} {c : Addr}
 (e : (x, c) ∈ cellsFrom (s.heap.objs.size + 2) sc.names (clOf X.env sc.names [])) : (X.env.cells.lookup x = some c /\ c < s.heap.objs.size) \/ s.heap.objs.size + 2 <= c := by
 have hcl : ∀ y ∈ sc.names, y.2 = .free -> ∃ c, X.env.cells.lookup y.1 = some c := λ y hy e => I.ok.has _ (hfree y hy e)
 rcases cells_mem e with q | ⟨q, _⟩
 · rcases clOf_mem hcl q with q | q
   · simp at q
   · obtain ⟨v, hv⟩ := I.cell x c q
     obtain ⟨o, ho, _⟩ := hv
     exact .inl ⟨q, hLs ho⟩
 · exact .inr q
theorem cp_acc {pins : List (Addr × Obj)} {σ : St} {H : Hp} {s : Shared} {sc : Scope} (I : Inv X pins σ H s) (hfree : ∀ y ∈ sc.names, y.2 = .free -> X.env.kindOf y.1 = some .cell \/ X.env.kindOf y.1 = some .free) :
 ∀ z ∈ clOf X.env sc.names [], z.2 < s.heap.objs.size := λ z hz => by
 have hcl : ∀ y ∈ sc.names, y.2 = .free -> ∃ c, X.env.cells.lookup y.1 = some c := λ y hy e => I.ok.has _ (hfree y hy e)
 rcases clOf_mem (x := z.1) (c := z.2) hcl hz with q | q
 · simp at q
 · obtain ⟨v, hv⟩ := I.cell _ _ q
   obtain ⟨o, ho, _⟩ := hv
   exact hLs ho
theorem cp_ok {pins : List (Addr × Obj)} {σ : St} {H : Hp} {s : Shared} {N : List Str} {sc : Scope} {fp : List Addr} (I : Inv X pins σ H s) (hk : sc.kind = .function)
 (hfree : ∀ y ∈ sc.names, y.2 = .free -> X.env.kindOf y.1 = some .cell \/ X.env.kindOf y.1 = some .free) (hf : ∀ b ∈ fp, FpOk X pins H b) (hb : ∀ b ∈ fp, b < s.heap.objs.size) :
 (cxCp X N sc (s.heap.objs.size + 1) fp s H).Ok := by
 have cc : ∀ x c, (cellsFrom (s.heap.objs.size + 2) sc.names (clOf X.env sc.names [])).lookup x = some c -> (X.env.cells.lookup x = some c /\ c < s.heap.objs.size) \/ s.heap.objs.size + 2 <= c := λ x c e => cp_cells I hfree (PySem.mem_of_lookup e)
 have ca : ∀ z ∈ clOf X.env sc.names [], z.2 < s.heap.objs.size + 2 := λ z hz => nLl (cp_acc I hfree z hz) (Q24 _ _)
 exact {
  mod := I.ok.mod
  kind := hk
  glob := I.ok.glob
  blt := I.ok.blt
  above := Nat.le_succ _
  inj := λ x y c h1 h2 => by
   have h1' : (cellsFrom (s.heap.objs.size + 2) sc.names (clOf X.env sc.names [])).lookup x = some c := h1
   have h2' : (cellsFrom (s.heap.objs.size + 2) sc.names (clOf X.env sc.names [])).lookup y = some c := h2
   rcases cc x c h1' with ⟨q1, l1⟩ | q1
   · rcases cc y c h2' with ⟨q2, _⟩ | q2
     · exact I.ok.inj x y c q1 q2
     · exact absurd (nLl l1 (Q9 (Q24 _ 2) q2)) (zT _)
   · exact cells_inj ca (PySem.mem_of_lookup h1') (PySem.mem_of_lookup h2') q1
  has := λ x h => by
   have h' := relab_cf h
   have q : ((cellsFrom (s.heap.objs.size + 2) sc.names (clOf X.env sc.names [])).lookup x).isSome = true := by
    rcases h' with h' | h'
    · exact PySem.W.cellsFrom_some _ _ _ (.inl h')
    · obtain ⟨c, hc⟩ := clOf_has (env := X.env) (acc := []) (.inl (PySem.mem_of_lookup h'))
      obtain ⟨d, hd⟩ := lookup_of_mem hc
      exact PySem.W.cellsFrom_some _ _ _ (.inr (by rw [hd]; rfl))
   exact Option.isSome_iff_exists.mp q
  cab := λ x c h e => by
   have h' : sc.names.lookup x = some .cell := by simpa [cxCp] using h
   exact Q9 (Q24 _ 2) (cells_new (Q1 _) (.inl h') e)
  hd := I.ok.hd
  frames := I.ok.frames
  stk := .inl rfl
  exf := λ b hb' => ⟨nNl (Q1c (hb b hb')), λ x c e => by
   rcases cc x c e with ⟨q, _⟩ | q
   · exact (hf b hb').2.2.2.2.1 x c q
   · exact nNg (nLl (hb b hb') (Q9 (Q24 _ 2) q))⟩
  bs := I.bs
  bsz := Q9 I.ok.bsz I.sz
  noex := λ b o e hb' => by
   rcases (hf b hb').2.2.2.1 with q | q
   · exact I.ok.noex b o e q
   · exact absurd (nLl (hLs e) (Q9 I.ok.bsz q)) (zT _)
  exfs := λ b hb' hs => by
   have q := I.stkSub b hs
   rcases Qb.mp q with q | q
   · exact (hf b hb').2.1 q
   · exact (hf b hb').2.2.1 q
  funs := I.stack
  frf := I.stkFree }
theorem cp_start {pins : List (Addr × Obj)} {σ : St} {H : Hp} {s : Shared} {h1 : Heap} {own : List Str} {fr : List (Str × Nat)} {n : Nat} {sc : Scope} {fp : List Addr} {m : Str -> Option Value} {t' : Nat} (I : Inv X pins σ H s) (hk : sc.kind = .function)
 (hfree : ∀ y ∈ sc.names, y.2 = .free -> X.env.kindOf y.1 = some .cell \/ X.env.kindOf y.1 = some .free) (hfr : ∀ p ∈ fr, X.N[p.2]? = some p.1 /\ sc.names.lookup p.1 = some .free /\ ∀ y ∈ sc.names, y.1 = p.1 -> y.2 ≠ .cell) (hn : own.length = n) (hf : ∀ b ∈ fp, FpOk X pins H b) (hb : ∀ b ∈ fp, b < s.heap.objs.size)
 (ns : h1.Ns (s.heap.objs.size + 1) m) (hD : h1.get? s.heap.objs.size = some { cls := .type "list", data := .seq ([] : List Value).toArray }) (old : ∀ b o, s.heap.get? b = some o -> h1.get? b = some o)
 (hnc : ∀ x c, (x, c) ∈ cellsFrom (s.heap.objs.size + 2) sc.names (clOf X.env sc.names []) -> s.heap.objs.size + 2 <= c -> h1.IsCell c none) :
 Inv (cxCp X (own ++ fr.map (·.1)) sc (s.heap.objs.size + 1) fp s H) [] (st0 n fr σ) (upd H s.heap.objs.size (.lst [])) { s with heap := h1, toks := t' } := by
 have hcl : ∀ y ∈ sc.names, y.2 = .free -> ∃ c, X.env.cells.lookup y.1 = some c := λ y hy e => I.ok.has _ (hfree y hy e)
 have look : ∀ x c, (clOf X.env sc.names []).lookup x = some c -> X.env.cells.lookup x = some c := λ x c e => by
  rcases clOf_mem hcl (PySem.mem_of_lookup e) with q | q
  · simp at q
  · exact q
 have cellK : ∀ {c v}, s.heap.IsCell c v -> h1.IsCell c v := λ {c v} q => by
  obtain ⟨o, ho, r⟩ := q
  exact ⟨o, old _ _ ho, r⟩
 have cc : ∀ x c, (cellsFrom (s.heap.objs.size + 2) sc.names (clOf X.env sc.names [])).lookup x = some c -> (X.env.cells.lookup x = some c /\ c < s.heap.objs.size) \/ s.heap.objs.size + 2 <= c := λ x c e => cp_cells I hfree (PySem.mem_of_lookup e)
 have hnD : H s.heap.objs.size = none := I.hok.fresh (Q1 _)
 have hnC : H (s.heap.objs.size + 1) = none := I.hok.fresh (Nat.le_succ _)
 refine ⟨cp_ok I hk hfree hf hb, rfl, I.bare, Un.laid old (Q1 _) hnD, ⟨m, ns, λ i x v h1' h2 h3 => ?_⟩, λ x c e => ?_, ?_, λ x c e => ?_, λ p hp => ?_, I.hok.laid old (Q1 _) ?_, ?_⟩
 · obtain ⟨p, hp, e, q⟩ := st0_get hn h1' h2
   subst e
   obtain ⟨hN, hl, hno⟩ := hfr p hp
   obtain ⟨m0, _, q0⟩ := I.loc
   have kk := hfree (p.1, .free) (PySem.mem_of_lookup hl) rfl
   obtain ⟨u, ru, lk⟩ := q0 p.2 p.1 v hN q (.inr kk)
   refine ⟨u, ru, .inr ⟨relab_kind hl, ?_⟩⟩
   rcases lk with ⟨k1, _⟩ | ⟨_, c, e1, e2⟩
   · rcases kk with kk | kk
     · have kk' : X.env.kindOf p.1 = some .cell := kk
       rw [k1] at kk'; cases kk'
     · have kk' : X.env.kindOf p.1 = some .free := kk
       rw [k1] at kk'; cases kk'
   · obtain ⟨d, hd⟩ := clOf_has (env := X.env) (acc := []) (.inl (PySem.mem_of_lookup hl))
     obtain ⟨d', hd'⟩ := lookup_of_mem hd
     have e3 := look _ _ hd'
     rw [e1] at e3
     cases e3
     refine ⟨c, ?_, cellK e2⟩
     show (cellsFrom (s.heap.objs.size + 2) sc.names (clOf X.env sc.names [])).lookup p.1 = some c
     rw [cells_old hno]
     exact hd'
 · rcases cc x c e with ⟨q, _⟩ | q
   · obtain ⟨v, hv⟩ := I.cell x c q
     exact ⟨v, cellK hv⟩
   · exact ⟨none, hnc x c (PySem.mem_of_lookup e) q⟩
 · show upd H s.heap.objs.size _ (s.heap.objs.size + 1) = none
   rw [upd_ne (Nat.succ_ne_self _)]; exact hnC
 · show upd H s.heap.objs.size _ c = none
   rcases cc x c e with ⟨q, l⟩ | q
   · rw [upd_ne (nNl l)]; exact I.freeC x c q
   · rw [upd_ne (nNg (nLl (Q1c (Q23 _)) q))]
     exact I.hok.fresh (Q9 (Q24 _ 2) q)
 · exact absurd (show p ∈ ([] : List (Addr × Obj)) from hp) (by simp)
 · exact ⟨by show 0 <= sizeLine; decide, [], _, .nil, hD⟩
 · show (st0 n fr σ).length = (own ++ fr.map (·.1)).length
   unfold st0
   simp [hn]
theorem cp_block {elt target iter : Expr} {ifs : List Expr} {sc : Scope} {pos : Pos} (own : List Str) (fr : List (Str × Nat)) {g : TG} {tc : TT} {te : TE} (hc : X.calm = true)
 (hk : sc.kind = .function) (hfree : ∀ y ∈ sc.names, y.2 = .free -> X.env.kindOf y.1 = some .cell \/ X.env.kindOf y.1 = some .free)
 (hfr : ∀ p ∈ fr, X.N[p.2]? = some p.1 /\ sc.names.lookup p.1 = some .free /\ ∀ y ∈ sc.names, y.1 = p.1 -> y.2 ≠ .cell)
 (hg : ∀ C fp s H, PG (cxCp X (own ++ fr.map (·.1)) sc C fp s H) target g) (ht : ∀ C fp s H, PTs (cxCp X (own ++ fr.map (·.1)) sc C fp s H) ifs tc) (he : ∀ C fp s H, PE (cxCp X (own ++ fr.map (·.1)) sc C fp s H) elt te)
 {pins : List (Addr × Obj)} {σ : St} {s2 : Shared} {RR : Value -> Addr -> Result -> Shared -> Prop} {Q : V -> Hp -> Prop} {itv : Value}
 (h2 : PIE X pins σ target (λ J H1 => ∀ acc, H1 acc = none ->
  ∃ W : Nat -> Nat -> St -> Hp -> Prop, (∃ m, W 0 m (st0 own.length fr σ) (upd H1 acc (.lst []))) /\ ∀ i m σ' H', W i m σ' H' ->
   (J.stop i H' /\ Q (.ref acc) H') \/ (J.go i H' /\ ∃ Nx : St -> Hp -> Prop, (∀ σ2 H2, Nx σ2 H2 -> ∃ m', m' < m /\ W (i + 1) m' σ2 H2) /\
    ∀ x H2, J.yld i H' x H2 -> g x σ' H2 λ σ2 H3 => tc σ2 H3 λ b H4 => if b = true then te σ2 H4 λ y H5 => ∃ ys, H5 acc = some (.lst ys) /\ ys.length < sizeLine /\ Nx σ2 (upd H5 acc (.lst (ys ++ [y]))) else Nx σ2 H4)) itv s2)
 (hRR : ∀ (D C : Addr) (s4 : Shared) (H3 : Hp) (m4 : Str -> Option Value), s2.heap.objs.size <= C -> s4.heap.Ns C m4 -> H3 C = none -> Q (.ref D) H3 ->
  (∀ h' : Heap, (∀ b, b ≠ C -> h'.get? b = s4.heap.get? b) -> Inv X pins σ H3 { s4 with heap := h' }) -> RR (.ref D) C (.ok .next) s4) :
 wpAny (model X.prog X.w) X.A (newList []) (λ acc s₃ => wpAny (model X.prog X.w) X.A (newFunctionEnv sc X.env.globals (clOf X.env sc.names []) [] X.env.qual none .none (some X.env)) (λ cenv s₄ =>
  codeAny (model X.prog X.w) X.A (.compStart (.ListComp elt [⟨target, iter, ifs, 0⟩] sc pos) 0 itv acc { cenv with scope := relabel sc X.env }) (RR acc cenv.locals) s₄) X.xe s₃) X.xe s2 := by
 obtain ⟨it, fp, tn, J, H2, e, I2, T, st2, f2, r⟩ := h2
 subst e
 refine wpAny_newObj_type (nfe_cells ?_)
 dsimp only
 generalize hH2 : s2.heap.push { cls := .type "list", dict := none, data := .seq ([] : List Value).toArray } = G2
 have hC : G2.objs.size = s2.heap.objs.size + 1 := by rw [<- hH2, Q17]
 have z3 : (G2.push { cls := .type "dict", data := .dict #[] }).objs.size = s2.heap.objs.size + 2 := by rw [Q17, hC]
 generalize hh1 : pushCells (G2.push { cls := .type "dict", data := .dict #[] }) sc.names = h₁
 have kp : ∀ b o, (G2.push { cls := .type "dict", data := .dict #[] }).get? b = some o -> h₁.get? b = some o := λ b o e => by rw [<- hh1]; exact pushCells_keeps _ _ b o e
 have old : ∀ b o, s2.heap.get? b = some o -> h₁.get? b = some o := λ b o e => kp b o (hPo _ (hH2 ▸ hPo _ e))
 have hD : h₁.get? s2.heap.objs.size = some { cls := .type "list", data := .seq ([] : List Value).toArray } := kp _ _ (hPo _ (hH2 ▸ hPs _ rfl))
 have hns₁ : h₁.Ns (s2.heap.objs.size + 1) (λ _ => none) := by
  rw [<- hC]
  exact (Heap.Ns.new G2 (.type "dict")).keeps kp
 have hnc : ∀ x c, (x, c) ∈ cellsFrom (s2.heap.objs.size + 2) sc.names (clOf X.env sc.names []) -> s2.heap.objs.size + 2 <= c -> h₁.IsCell c none := λ x c hm hc' => by
  rw [<- hh1]
  refine push_cells (acc := clOf X.env sc.names []) (x := x) (λ z hz => ?_) (by rw [z3]; exact hm) (by rw [z3]; exact hc')
  rw [z3]
  exact nLl (cp_acc I2 hfree z hz) (Q24 _ _)
 rw [hC]
 have below : ∀ b, b < s2.heap.objs.size -> b ≠ s2.heap.objs.size + 1 := λ b hb => nNl (Q1c hb)
 have hb : ∀ b ∈ fp, b < s2.heap.objs.size := λ b hb => by
  obtain ⟨o, e, _⟩ := T.obj _ _ st2 b hb
  exact hLs e
 have st1 : tn 0 h₁ := T.keep _ _ _ st2 λ b _ o e => old b o e
 obtain ⟨W, ⟨m0, w0⟩, turn⟩ := r s2.heap.objs.size (I2.hok.fresh (Q1 _))
 have J0 : ∀ t', Inv (cxCp X (own ++ fr.map (·.1)) sc (s2.heap.objs.size + 1) fp s2 H2) [] (st0 own.length fr σ) (upd H2 s2.heap.objs.size (.lst [])) { s2 with heap := h₁, toks := t' } := λ t' =>
  cp_start I2 hk hfree hfr rfl f2 hb hns₁ hD old hnc
 have fpn : ∀ b ∈ fp, upd H2 s2.heap.objs.size (.lst []) b = none := λ b hb' => by rw [upd_ne (nNl (hb b hb'))]; exact (f2 b hb').1
 have stat : ∀ {H' : Hp}, (∀ b ∈ fp, H' b = none) -> ∀ b ∈ fp, FpOk (cxCp X (own ++ fr.map (·.1)) sc (s2.heap.objs.size + 1) fp s2 H2) [] H' b := λ {H'} hn b hb' =>
  have ok := (J0 0).ok
  ⟨hn b hb', (ok.exf b hb').1, ok.exfs b hb', .inl hb', (ok.exf b hb').2, λ p hp => absurd (show p ∈ ([] : List (Addr × Obj)) from hp) (by simp)⟩
 have loop : ∀ s3 : Shared, s3 = { s2 with heap := h₁ } ->
  codeAny (model X.prog X.w) X.A (.compLoop (.ListComp elt [⟨target, iter, ifs, 0⟩] sc pos) 0 (.ref it) (.ref s2.heap.objs.size) (compEnvC sc (cellsFrom (s2.heap.objs.size + 1 + 1) sc.names (clOf X.env sc.names [])) (s2.heap.objs.size + 1) X.env))
   (RR (.ref s2.heap.objs.size) (s2.heap.objs.size + 1)) s3 := by
  rintro s3 rfl
  refine compLoop_go (λ n s' => ∃ i σ' H', Inv (cxCp X (own ++ fr.map (·.1)) sc (s2.heap.objs.size + 1) fp s2 H2) [] σ' H' s' /\ tn i s'.heap /\ (∀ b ∈ fp, H' b = none) /\ W i n σ' H') ?_ m0 ⟨0, _, _, J0 _, st1, fpn, w0⟩
  rintro n s3 ⟨i, σ3, H3, I3, st3, fr3, w3⟩
  rcases turn i n σ3 H3 w3 with ⟨stop, qn⟩ | ⟨go, N, hN, step⟩
  · refine thn (T.done (cxCp X (own ++ fr.map (·.1)) sc (s2.heap.objs.size + 1) fp s2 H2) rfl rfl rfl hc i [] s3 σ3 H3 (λ _ _ => False) I3 (stat fr3) st3 stop) λ r s4 q_ => ?_
    obtain ⟨hr, I4⟩ := q_
    subst hr
    obtain ⟨m4, ns4, _⟩ := I4.loc
    have hCn : H3 (s2.heap.objs.size + 1) = none := I4.free
    refine hRR _ _ s4 H3 m4 (Nat.le_succ _) ns4 hCn qn λ h' sb => ?_
    have u : Un (frs X.stack) fp H2 H3 s2.heap s4.heap := I4.base
    have u' : Un (frs X.stack) fp H2 H3 s2.heap h' := {
     keep := λ b o e n1 n2 n3 => (sb b (below b (hLs e))).trans (u.keep b o e n1 n2 n3)
     slot := λ b o e n1 n2 n3 => by
      obtain ⟨sl, q⟩ := u.slot b o e n1 n2 n3
      exact ⟨sl, (sb b (below b (hLs e))).trans q⟩
     free := u.free
     there := λ b o e n1 => by
      obtain ⟨o', q⟩ := u.there b o e n1
      exact ⟨o', (sb b (below b (hLs e))).trans q⟩
     tups := u.tups
     frzs := u.frzs
     tbls := u.tbls }
    have hok' : HOk X.prog X.w H3 h' := λ a o e => (I4.hok a o e).stay (λ b u q z => (sb b (by
     rcases q with q | q
     · subst q; exact ne_of_none e hCn
     · exact ne_of_none q hCn)).trans z) (λ _ q => q) (λ _ _ q => q) λ _ _ _ q => q
    exact I2.call' (s' := { s4 with heap := h' }) (ch := fp) I4.os u' hok' I4.bare λ b hb' => ⟨(f2 b hb').2.2.2.1, (f2 b hb').2.1, (f2 b hb').2.2.2.2.1, (f2 b hb').2.2.2.2.2⟩
  · refine thn (T.item (cxCp X (own ++ fr.map (·.1)) sc (s2.heap.objs.size + 1) fp s2 H2) rfl rfl rfl hc i [] s3 σ3 H3 (λ _ _ => False) I3 (stat fr3) st3 go) λ r s4 q_ => ?_
    obtain ⟨u, hr, h4⟩ := q_
    subst hr
    refine thn h4 λ _ s5 q_ => ?_
    obtain ⟨x, H5, I5, r5, y5, st5, fr5⟩ := q_
    have I5' := I5.pinned (stat fr5) (T.obj _ _ st5)
    refine thn (hg _ _ _ _ _ s5 σ3 H5 x u _ I5' r5 (step x H5 y5)) λ _ s6 q_ => ?_
    obtain ⟨σ6, H6, I6, q6⟩ := q_
    refine thn (ht _ _ _ _ _ s6 σ6 H6 _ I6 q6) λ b s7 q_ => ?_
    obtain ⟨H7, I7, q7⟩ := q_
    have again : ∀ {σ7 : St} {H7 : Hp} {s7 : Shared}, Inv (cxCp X (own ++ fr.map (·.1)) sc (s2.heap.objs.size + 1) fp s2 H2) ([] ++ pinsAt fp s5.heap) σ7 H7 s7 -> N σ7 H7 ->
     ∃ m, m < n /\ ∃ i σ' H', Inv (cxCp X (own ++ fr.map (·.1)) sc (s2.heap.objs.size + 1) fp s2 H2) [] σ' H' s7 /\ tn i s7.heap /\ (∀ b ∈ fp, H' b = none) /\ W i m σ' H' := λ {σ7 H7 s7} I7 n7 => by
     obtain ⟨m', hm, w7⟩ := hN σ7 H7 n7
     refine ⟨m', hm, i + 1, σ7, H7, I7.unpinned, T.keep _ _ _ st5 λ b hb o e => (I7.pin (b, o) (Q14 _ (Q14 _ (mem_pinsAt hb e)))).1, λ b hb => ?_, w7⟩
     obtain ⟨o, e, d⟩ := T.obj _ _ st5 b hb
     exact (I7.pin (b, o) (Q14 _ (Q14 _ (mem_pinsAt hb e)))).2.1
    cases b with
    | false =>
     have q7' : N σ6 H7 := q7
     rw [if_neg (by simp)]
     exact again I7 q7'
    | true =>
     rw [if_pos rfl]
     refine thn (he _ _ _ _ _ s7 σ6 H7 _ I7 q7) λ yv s8 q_ => ?_
     obtain ⟨y, H8, I8, r8, ys, e8, z8, n8⟩ := q_
     refine thn (mt_append (X := cxCp X (own ++ fr.map (·.1)) sc (s2.heap.objs.size + 1) fp s2 H2) _ s8 σ6 H8 (.ref s2.heap.objs.size) [y] _ [yv] (λ v H' => v = .non /\ H' = upd H8 s2.heap.objs.size (.lst (ys ++ [y]))) I8 rfl (.cons r8 .nil) ⟨_, ys, y, rfl, rfl, e8, z8, rfl, rfl⟩) λ _ s9 q_ => ?_
     obtain ⟨v, H9, I9, _, e1, e9⟩ := q_
     subst e9
     exact again I9 n8
 exact codeAny_compStart_list (loop _ rfl) (T.self X.A 0 _ _ _ st1 (loop _ rfl))
theorem cp_checks {sc : Scope} {fr : List (Str × Nat)} (hfree : (sc.names.all λ y => y.2 != .free || (X.env.kindOf y.1 == some .cell || X.env.kindOf y.1 == some .free)) = true)
 (hfr : (fr.all λ p => X.N[p.2]? == some p.1 && sc.names.lookup p.1 == some .free && sc.names.all λ y => y.1 != p.1 || y.2 != .cell) = true) (hnm : (sc.names.all λ y => y.2 != .local || sc.names.lookup y.1 == some .local) = true) :
 (∀ y ∈ sc.names, y.2 = .free -> X.env.kindOf y.1 = some .cell \/ X.env.kindOf y.1 = some .free) /\ (∀ p ∈ fr, X.N[p.2]? = some p.1 /\ sc.names.lookup p.1 = some .free /\ ∀ y ∈ sc.names, y.1 = p.1 -> y.2 ≠ .cell) /\ ∀ x ∈ sc.names, x.2 = .local -> sc.names.lookup x.1 = some .local := by
 refine ⟨λ y hy e => ?_, λ p hp => ?_, λ y hy e => ?_⟩
 · have := Qd.mp hfree y hy
   rw [e] at this
   simpa using this
 · have := Qd.mp hfr p hp
   rw [Q2, Q2, Qd] at this
   obtain ⟨⟨h1, h2⟩, h3⟩ := this
   refine ⟨by simpa using h1, by simpa using h2, λ y hy e z => ?_⟩
   have := h3 y hy
   rw [e, z] at this
   simp at this
 · have := Qd.mp hnm y hy
   rw [e] at this
   simpa using this
theorem pe_compC {elt target iter : Expr} {ifs : List Expr} {sc : Scope} {pos : Pos} (own : List Str) (fr : List (Str × Nat)) {wi : TI} {g : TG} {tc : TT} {te : TE} (hi : PI X target iter wi)
 (hg : ∀ C fp s H, PG (cxCp X (own ++ fr.map (·.1)) sc C fp s H) target g) (ht : ∀ C fp s H, PTs (cxCp X (own ++ fr.map (·.1)) sc C fp s H) ifs tc) (he : ∀ C fp s H, PE (cxCp X (own ++ fr.map (·.1)) sc C fp s H) elt te)
 (hc : X.calm = true := by rfl) (hk : sc.kind = .function := by rfl)
 (hfree : (sc.names.all λ y => y.2 != .free || (X.env.kindOf y.1 == some .cell || X.env.kindOf y.1 == some .free)) = true := by rfl)
 (hfr : (fr.all λ p => X.N[p.2]? == some p.1 && sc.names.lookup p.1 == some .free && sc.names.all λ y => y.1 != p.1 || y.2 != .cell) = true := by rfl) (hnm : (sc.names.all λ y => y.2 != .local || sc.names.lookup y.1 == some .local) = true := by rfl)
 (hs : ∀ x, foldedSetIterable iter X.env x = pure x := by intro _; rfl) :
 PE X (.ListComp elt [⟨target, iter, ifs, 0⟩] sc pos) (tComp own.length fr wi g tc te) := by
 obtain ⟨c1, c2, c3⟩ := cp_checks hfree hfr hnm
 intro pins s σ H Q I h
 rw [eval_ListComp]
 have hcl : ∀ y ∈ sc.names, y.2 = .free -> ∃ c, X.env.cells.lookup y.1 = some c := λ y hy e => I.ok.has _ (c1 y hy e)
 refine wpAny_comprehension_free (use := none) rfl hs (closureFor_eq hcl) hk c3 (thn (hi pins s σ H _ I h) λ xv s₁ h₁ => thn h₁ λ itv s2 h2 => ?_)
 refine cp_block (RR := λ acc C => compPost (model X.prog X.w) X.A X.xe none (EP X pins σ Q) acc C) own fr hc hk c1 c2 hg ht he h2 ?_
 intro D C s4 H3 m4 hC ns4 hCn q inv
 exact ⟨m4, ns4, λ h' sb => ⟨.ref D, H3, inv h' λ b hb => sb.2 b hb, rfl, q⟩⟩
theorem ps_setC {i : Nat} {x : Str} {elt target iter : Expr} {ifs : List Expr} {sc : Scope} {pos spos : Pos} {pos' : Pos} (own : List Str) (fr : List (Str × Nat)) {wi : TI} {g : TG} {tc : TT} {te : TE} (hN : X.N.Nodup) (hx1 : X.N[i]? = some x) (hx : Loc X.env.scope x) (hi : PI X target iter wi)
 (hg : ∀ C fp s H, PG (cxCp X (own ++ fr.map (·.1)) sc C fp s H) target g) (ht : ∀ C fp s H, PTs (cxCp X (own ++ fr.map (·.1)) sc C fp s H) ifs tc) (he : ∀ C fp s H, PE (cxCp X (own ++ fr.map (·.1)) sc C fp s H) elt te)
 (hsw : swapsWith (.ListComp elt [⟨target, iter, ifs, 0⟩] sc pos) (some (.Name x pos')) spos.line X.env = pure true := by rfl)
 (hc : X.calm = true := by rfl) (hk : sc.kind = .function := by rfl)
 (hfree : (sc.names.all λ y => y.2 != .free || (X.env.kindOf y.1 == some .cell || X.env.kindOf y.1 == some .free)) = true := by rfl)
 (hfr : (fr.all λ p => X.N[p.2]? == some p.1 && sc.names.lookup p.1 == some .free && sc.names.all λ y => y.1 != p.1 || y.2 != .cell) = true := by rfl) (hnm : (sc.names.all λ y => y.2 != .local || sc.names.lookup y.1 == some .local) = true := by rfl)
 (hs : ∀ x, foldedSetIterable iter X.env x = pure x := by intro _; rfl) (hl : X.env.scope.names.lookup x = some .local := by rfl) :
 PS X (.Assign [.Name x pos'] (.ListComp elt [⟨target, iter, ifs, 0⟩] sc pos) spos) (tAsg (tComp own.length fr wi g tc te) (gName i)) := by
 obtain ⟨c1, c2, c3⟩ := cp_checks hfree hfr hnm
 intro pins s σ H D I h
 rw [exec_Assign_Name_used _ _ _ _ hsw]
 refine wB (wpAny_standAt (wB ?_))
 show wpAny _ X.A (do let _ <- comprehension (.ListComp elt [⟨target, iter, ifs, 0⟩] sc pos) sc X.env _ (newList []) false (eval iter X.env) (some (assign (.Name x pos') X.env))) _ _ s
 have hcl : ∀ y ∈ sc.names, y.2 = .free -> ∃ c, X.env.cells.lookup y.1 = some c := λ y hy e => I.ok.has _ (c1 y hy e)
 refine wB (wpAny_mono (wpAny_comprehension_free (use := some (assign (.Name x pos') X.env)) (Q := λ _ s' => SP X pins D .next s') rfl hs (closureFor_eq hcl) hk c3 (thn (hi pins s σ H _ I h) λ xv s₁ h₁ => thn h₁ λ itv s2 h2 => ?_)) (λ _ s' hq => wP (wP hq)) λ _ _ e => e)
 refine cp_block (RR := λ acc C => compPost (model X.prog X.w) X.A X.xe (some (assign (.Name x pos') X.env)) (λ _ s' => SP X pins D .next s') acc C) (pins := pins) (σ := σ) (Q := λ x H1 => gName i x σ H1 D.nx) own fr hc hk c1 c2 hg ht he h2 ?_
 intro Da C s4 H3 m4 hC ns4 hCn q inv
 have I4 : Inv X pins σ H3 s4 := inv s4.heap λ b _ => rfl
 have lC : X.env.locals ≠ C := by
  intro z
  obtain ⟨it, fp, tn, J, H2, e, I2, _⟩ := h2
  exact absurd (nLl I2.lt (by rw [z]; exact hC)) (zT _)
 have cC : ∀ y c, X.env.cells.lookup y = some c -> c ≠ C := λ y c e z => by
  obtain ⟨it, fp, tn, J, H2, e', I2, _⟩ := h2
  obtain ⟨v, hv⟩ := I2.cell y c e
  exact absurd (nLl hv.lt (by rw [z]; exact hC)) (zT _)
 show wpAny _ X.A (assign (.Name x pos') X.env (.ref Da)) _ _ _
 refine wpAny_assign_Name (store_ok2 I4 hN hx1 hx (v := .ref Da) rfl (λ s5 I5 q_ => ?_) (.inr hl))
 obtain ⟨a, sb, ha⟩ := q_
 have aC : C ≠ a := λ z => by
  rcases ha with q1 | q1
  · exact lC (q1.symm.trans z.symm)
  · exact cC x a q1 z.symm
 refine ⟨m4, ns4.sameBut sb aC, λ h' sb' => ⟨_, H3, ?_, q⟩⟩
 obtain ⟨m5, n5, l5⟩ := I5.loc
 exact {
  ok := I5.ok
  os := I5.os
  bare := I5.bare
  base := {
   keep := λ b o e n1 n2 n3 => (sb'.2 b λ z => by
    obtain ⟨it, fp, tn, J, H2, e', I2, _⟩ := h2
    exact absurd (nLl (hLs e) (Q9 I2.sz (by rw [z]; exact hC))) (zT _)).trans (I5.base.keep b o e n1 n2 n3)
   slot := λ b o e n1 n2 n3 => by
    obtain ⟨sl, q⟩ := I5.base.slot b o e n1 n2 n3
    refine ⟨sl, (sb'.2 b λ z => ?_).trans q⟩
    obtain ⟨it, fp, tn, J, H2, e', I2, _⟩ := h2
    exact absurd (nLl (hLs e) (Q9 I2.sz (by rw [z]; exact hC))) (zT _)
   free := I5.base.free
   there := λ b o e n1 => by
    obtain ⟨o', q⟩ := I5.base.there b o e n1
    refine ⟨o', (sb'.2 b λ z => ?_).trans q⟩
    obtain ⟨it, fp, tn, J, H2, e', I2, _⟩ := h2
    exact absurd (nLl (hLs e) (Q9 I2.sz (by rw [z]; exact hC))) (zT _)
   tups := I5.base.tups
   frzs := I5.base.frzs
   tbls := I5.base.tbls }
  loc := ⟨m5, n5.sameBut sb' lC, λ j y v h1 h2' h3 => by
   obtain ⟨u, ru, lk⟩ := l5 j y v h1 h2' h3
   refine ⟨u, ru, ?_⟩
   rcases lk with ⟨k1, k2⟩ | ⟨k1, c, k2, k3⟩
   · exact .inl ⟨k1, k2⟩
   · exact .inr ⟨k1, c, k2, k3.sameBut sb' (cC y c k2)⟩⟩
  cell := λ y c e => by
   obtain ⟨v, hv⟩ := I5.cell y c e
   exact ⟨v, hv.sameBut sb' (cC y c e)⟩
  free := I5.free
  freeC := I5.freeC
  pin := λ p hp => by
   obtain ⟨q1, q2⟩ := I5.pin p hp
   refine ⟨(sb'.2 p.1 λ z => ?_).trans q1, q2⟩
   obtain ⟨it, fp, tn, J, H2, e', I2, _⟩ := h2
   exact absurd (nLl (hLs (I2.pin p hp).1) (by rw [z]; exact hC)) (zT _)
  hok := λ a o e => (I5.hok a o e).stay (λ b u q z => (sb'.2 b (by
   rcases q with q | q
   · subst q; exact ne_of_none e hCn
   · exact ne_of_none q hCn)).trans z) (λ _ q => q) (λ _ _ q => q) λ _ _ _ q => q
  len := I5.len }
end
end L2
namespace PySem
open Sem (wp)
theorem Obj.dict_mapFields (o : Obj) (f) : (o.mapFields f).dict = o.dict := by
 unfold Obj.mapFields; split <;> rfl
namespace Heap
def TracedD (h base : Heap) (e : Addr) (cls : Value) (a0 : Option Addr) : Prop :=
 ∃ oe vs T oT ts, h.get? e = some oe /\ (oe.cls = cls /\ oe.dict = a0) /\ oe.data = .fields vs /\ vs[1]? = some (.ref T) /\ base.get? T = none /\ T ≠ e /\ h.get? T = some oT /\ oT.data = .fields ts /\ ts[3]? = some .none
def TracedAtD (h base : Heap) (e : Addr) (cls : Value) (a0 : Option Addr) (fl : Value) : Prop :=
 ∃ oe vs T oT ts, h.get? e = some oe /\ (oe.cls = cls /\ oe.dict = a0) /\ oe.data = .fields vs /\ vs[1]? = some (.ref T) /\ base.get? T = none /\ T ≠ e /\ h.get? T = some oT /\ oT.data = .fields ts /\ ts[3]? = some fl
theorem TracedD.at {h base : Heap} {e : Addr} {cls : Value} {a0 : Option Addr} (x : h.TracedD base e cls a0) : h.TracedAtD base e cls a0 .none := x
theorem TracedAtD.there {h base : Heap} {e : Addr} {cls : Value} {a0 : Option Addr} {fl : Value} (x : h.TracedAtD base e cls a0 fl) : ∃ ob, h.get? e = some ob /\ ob.cls = cls := by
 obtain ⟨oe, _, _, _, _, he, hc, _⟩ := x
 exact ⟨oe, he, hc.1⟩
def NotedD (base : Heap) (l : List Env) (e : Addr) (cls : Value) (a0 : Option Addr) (fl : Value) (h h' : Heap) : Prop :=
 base.StaysIn h' /\ h'.FunFrames base l /\ h'.TracedAtD base e cls a0 fl /\ ∀ b o, h.get? b = some o -> (∀ vs, o.data ≠ .fields vs) -> ∃ sl, h'.get? b = some { o with slots := sl }
end Heap
section
variable {M : Model} {A : Around} {E : Value -> Shared -> Prop} {s : Shared}
def Heap.LeftD (base : Heap) (l : List Env) (e : Addr) (cls : Value) (a0 : Option Addr) (h h' : Heap) : Prop :=
 base.StaysIn h' /\ h'.FunFrames base l /\ h'.TracedD base e cls a0 /\
  ∀ b o, h.get? b = some o -> (∀ vs, o.data ≠ .fields vs) -> ∃ sl, h'.get? b = some { o with slots := sl }
theorem wpAny_newEntryD {base : Heap} {env : Env} {outer : List Env} {L e : Addr} {oe : Obj} {vs : Array Value} {head : Value} {a0 : Option Addr} {hadNext : Bool} {Q : Unit -> Shared -> Prop}
 (hfr : A.frames = some (env :: outer)) (hl : s.heap.FunFrames base (env :: outer)) (hf : env.frame = some L)
 (he : s.heap.get? e = some oe) (hkb : base.StaysIn s.heap) (hen : base.get? e = none) (hd : oe.data = .fields vs) (hsz : 1 < vs.size) (h0 : oe.dict = a0)
 (h : ∀ h', Heap.LeftD base (env :: outer) e oe.cls a0 s.heap h' -> Q () { s with heap := h' }) :
 wpAny M A (do let a <- frameOf env; let pl <- entryPlaceOf L hadNext; let b <- EntryCells.newEntry head a .none (rawInt L) .none pl; setField (.ref e) 1 b) (λ _ s' => wpAny M A (setFlight (.ref e) none) Q E s') E s := by
 have hene : e ∉ (env :: outer).filterMap (·.frame) := λ hm => by
  obtain ⟨_, o, ho, hnf⟩ := hl.mem hm
  rw [he] at ho; injection ho with ho; subst ho; exact hnf vs hd
 refine wB (wpAny_frameOf_fun hfr hl hf λ h₁ hs₁ => ?_)
 refine wB (wpAny_entryPlaceOf λ pl hpl => ?_)
 unfold EntryCells.newEntry newFields
 refine wB (wpAny_newObj_type ?_ (hpl.sizeOk5 _ _ _ _ _))
 have he₁ : h₁.get? e = some oe := (hs₁.2.1 e hene).trans he
 have kb₁ : base.StaysIn h₁ := λ b o hbo => (hs₁.2.1 b λ hm => by rw [(hl.mem hm).1] at hbo; cases hbo).trans (hkb b o hbo)
 have he₂ := hPo (h := h₁) { cls := .type "traceback", dict := none, data := .fields ([head, .ref L, .none, rawInt L, .none] ++ (if pl.isEmpty then List.replicate 6 Value.none else pl)).toArray } he₁
 refine wpAny_setField he₂ hd hsz ?_
 have hTe : h₁.objs.size ≠ e := nNg (hLs he₁)
 have hd₃ := Obj.data_mapFields hd (·.setIfInBounds 1 (Value.ref h₁.objs.size))
 have he₃ := hUs (Obj.mapFields (·.setIfInBounds 1 (Value.ref h₁.objs.size))) he₂ (Obj.isFreed_of_fields hd₃)
 have hT₃ := (hUo (h₁.push { cls := .type "traceback", dict := none, data := .fields ([head, .ref L, .none, rawInt L, .none] ++ (if pl.isEmpty then List.replicate 6 Value.none else pl)).toArray })
  (Obj.mapFields (·.setIfInBounds 1 (Value.ref h₁.objs.size))) (Ne.symm hTe)).trans (hPs h₁ rfl)
 unfold setFlight
 refine wB (wpAny_field he₃ hd₃ (x := .ref h₁.objs.size) (by simp [hsz]) ?_)
 rw [if_pos (show (Value.ref h₁.objs.size != Value.none) = true from by simp)]
 refine wpAny_setField hT₃ rfl (by simp only [zM, zQ, zC, zH] <;> omega) (h _ ?_)
 have keep : ∀ b o, b ≠ e -> h₁.get? b = some o ->
  (((h₁.push { cls := .type "traceback", dict := none, data := .fields ([head, .ref L, .none, rawInt L, .none] ++ (if pl.isEmpty then List.replicate 6 Value.none else pl)).toArray }).update e (Obj.mapFields (·.setIfInBounds 1 (Value.ref h₁.objs.size)))).update h₁.objs.size
   (Obj.mapFields (·.setIfInBounds 3 ((none : Option Addr).elim Value.none λ f => rawInt f)))).get? b = some o := λ b o hbe hb => by
  have hbT : h₁.objs.size ≠ b := nNg (hLs hb)
  rw [hUo _ _ hbT, hUo _ _ (Ne.symm hbe)]
  exact hPo _ hb
 have noRecord : ∀ b o, s.heap.get? b = some o -> (∀ vs, o.data ≠ .fields vs) -> b ≠ e := λ b o hb hnf q => by
  rw [q, he] at hb; injection hb with hb; subst hb; exact hnf vs hd
 refine ⟨λ b o hbo => keep b o (λ q => by rw [q, hen] at hbo; cases hbo) (kb₁ b o hbo), hl.of_keeps λ b o hb hnf => ?_, ?_, λ b o hb hnf => ?_⟩
 · obtain ⟨sl, hs⟩ := hs₁.2.2 b o hb
   exact ⟨_, keep b _ (noRecord b o hb hnf) hs, rfl⟩
 · refine ⟨_, _, h₁.objs.size, _, _, ?_, ⟨Obj.cls_mapFields _ _, (Obj.dict_mapFields _ _).trans h0⟩, hd₃, by simp [hsz], kb₁.fresh, hTe, hUs _ hT₃ (Obj.isFreed_of_fields (Obj.data_mapFields rfl _)), Obj.data_mapFields rfl _, by first | (simp; done) | (rcases hpl with rfl | ⟨_, _, _, _, _, _, _, rfl⟩ <;> simp)⟩
   rw [hUo _ _ hTe]; exact he₃
 · obtain ⟨sl, hs⟩ := hs₁.2.2 b o hb
   exact ⟨sl, keep b _ (noRecord b o hb hnf) hs⟩
theorem wpAny_leaving_firstD {base : Heap} {env : Env} {outer : List Env} {L e : Addr} {oe : Obj} {vs : Array Value} {a0 : Option Addr} {Q : Unit -> Shared -> Prop}
 (hfr : A.frames = some (env :: outer)) (hl : s.heap.FunFrames base (env :: outer)) (hf : env.frame = some L)
 (he : s.heap.get? e = some oe) (hkb : base.StaysIn s.heap) (hen : base.get? e = none) (hd : oe.data = .fields vs) (h1 : vs[1]? = some .none) (h0 : oe.dict = a0)
 (h : ∀ h', Heap.LeftD base (env :: outer) e oe.cls a0 s.heap h' -> Q () { s with heap := h' }) : wpAny M A (leaving env (.ref e)) Q E s := by
 unfold leaving noteFrame
 simp only [hf]
 refine wB (wB (wpAny_field he hd h1 ?_))
 rw [if_neg (by decide)]
 exact wpAny_newEntryD hfr hl hf he hkb hen hd (Q21.mp h1).1 h0 h
theorem wpAny_leaving_nextD {base : Heap} {env : Env} {outer : List Env} {L e : Addr} {cls : Value} {a0 : Option Addr} {Q : Unit -> Shared -> Prop}
 (hfr : A.frames = some (env :: outer)) (hl : s.heap.FunFrames base (env :: outer)) (hf : env.frame = some L) (ht : s.heap.TracedD base e cls a0) (hkb : base.StaysIn s.heap) (hen : base.get? e = none)
 (h : ∀ h', Heap.LeftD base (env :: outer) e cls a0 s.heap h' -> Q () { s with heap := h' }) : wpAny M A (leaving env (.ref e)) Q E s := by
 obtain ⟨oe, vs, T, oT, ts, he, ⟨hcls, h0⟩, hd, h1, hnT, hTe, hT, hdT, h3⟩ := ht
 subst hcls
 unfold leaving noteFrame
 simp only [hf]
 refine wB (wB (wpAny_field he hd h1 ?_))
 rw [if_pos (show (Value.ref T != Value.none) = true from by simp)]
 refine wB (wpAny_field hT hdT h3 ?_)
 rw [if_neg (show ¬ ((Value.none == rawInt L) = true) from by simp [rawInt])]
 refine wB (wpAny_setField hT hdT (Q21.mp h3).1 ?_)
 have other : ∀ b, b ≠ T -> (s.heap.update T (Obj.mapFields (·.setIfInBounds 3 Value.none))).get? b = s.heap.get? b := λ b hb => hUo _ _ (Ne.symm hb)
 have noRecord : ∀ b o, s.heap.get? b = some o -> (∀ vs, o.data ≠ .fields vs) -> b ≠ T := λ b o hb hnf q => by
  rw [q, hT] at hb; injection hb with hb; subst hb; exact hnf ts hdT
 refine wpAny_newEntryD hfr (hl.of_keeps λ b o hb hnf => ⟨o, (other b (noRecord b o hb hnf)).trans hb, rfl⟩) hf ((other e (Ne.symm hTe)).trans he)
  (λ b o hbo => (other b λ q => by rw [q, hnT] at hbo; cases hbo).trans (hkb b o hbo)) hen hd (Q21.mp h1).1 h0
  λ h' ⟨x1, x2, x3, x4⟩ => h h' ⟨x1, x2, x3, λ b o hb hnf => x4 b o ((other b (noRecord b o hb hnf)).trans hb) hnf⟩
def Heap.FlyingD (base : Heap) (l : List Env) (e : Addr) (cls : Value) (a0 : Option Addr) (h : Heap) : Prop :=
 base.StaysIn h /\ base.get? e = none /\ h.FunFrames base l /\ h.TracedD base e cls a0
theorem Heap.FlyingD.there {base h : Heap} {l : List Env} {e : Addr} {cls : Value} {a0 : Option Addr} (x : Heap.FlyingD base l e cls a0 h) : ∃ ob, h.get? e = some ob /\ ob.cls = cls := by
 obtain ⟨_, _, _, oe, _, _, _, _, he, hc, _⟩ := x
 exact ⟨oe, he, hc.1⟩
theorem wpAny_leaves_onD {base : Heap} {env : Env} {outer : List Env} {L e : Addr} {cls : Value} {a0 : Option Addr} {Q : Unit -> Shared -> Prop}
 (hfr : A.frames = some (env :: outer)) (hf : env.frame = some L) (hfl : Heap.FlyingD base (env :: outer) e cls a0 s.heap)
 (hQ : ∀ h', Heap.FlyingD base outer e cls a0 h' -> s.heap.UpToSlots h' -> Q () { s with heap := h' }) : wpAny M A (leaving env (.ref e)) Q E s := by
 obtain ⟨f1, f2, f3, f4⟩ := hfl
 refine wpAny_leaving_nextD hfr f3 hf f4 f1 f2 λ h' hL => ?_
 obtain ⟨k1, ⟨_, _, k2⟩, k3, k4⟩ := hL
 exact hQ h' ⟨k1, f2, k2, k3⟩ k4
theorem wpAny_entryD {base : Heap} {env : Env} {outer : List Env} {L e : Addr} {oe : Obj} {vs : Array Value} {head : Value} {a0 : Option Addr} {hadNext : Bool} {Q : Unit -> Shared -> Prop}
 (hfr : A.frames = some (env :: outer)) (hl : s.heap.FunFrames base (env :: outer)) (hf : env.frame = some L)
 (he : s.heap.get? e = some oe) (hkb : base.StaysIn s.heap) (hen : base.get? e = none) (hd : oe.data = .fields vs) (hsz : 1 < vs.size) (h0 : oe.dict = a0)
 (h : ∀ h', Heap.NotedD base (env :: outer) e oe.cls a0 (rawInt L) s.heap h' -> Q () { s with heap := h' }) :
 wpAny M A (do let a <- frameOf env; let pl <- entryPlaceOf L hadNext; let b <- EntryCells.newEntry head a .none (rawInt L) .none pl; setField (.ref e) 1 b) Q E s := by
 have hene : e ∉ (env :: outer).filterMap (·.frame) := λ hm => by
  obtain ⟨_, o, ho, hnf⟩ := hl.mem hm
  rw [he] at ho; injection ho with ho; subst ho; exact hnf vs hd
 refine wB (wpAny_frameOf_fun hfr hl hf λ h₁ hs₁ => ?_)
 refine wB (wpAny_entryPlaceOf λ pl hpl => ?_)
 unfold EntryCells.newEntry newFields
 refine wB (wpAny_newObj_type ?_ (hpl.sizeOk5 _ _ _ _ _))
 have he₁ : h₁.get? e = some oe := (hs₁.2.1 e hene).trans he
 have kb₁ : base.StaysIn h₁ := λ b o hbo => (hs₁.2.1 b λ hm => by rw [(hl.mem hm).1] at hbo; cases hbo).trans (hkb b o hbo)
 have he₂ := hPo (h := h₁) { cls := .type "traceback", dict := none, data := .fields ([head, .ref L, .none, rawInt L, .none] ++ (if pl.isEmpty then List.replicate 6 Value.none else pl)).toArray } he₁
 refine wpAny_setField he₂ hd hsz (h _ ?_)
 have hTe : h₁.objs.size ≠ e := nNg (hLs he₁)
 have hd₃ := Obj.data_mapFields hd (·.setIfInBounds 1 (Value.ref h₁.objs.size))
 have he₃ := hUs (Obj.mapFields (·.setIfInBounds 1 (Value.ref h₁.objs.size))) he₂ (Obj.isFreed_of_fields hd₃)
 have hT₃ := (hUo (h₁.push { cls := .type "traceback", dict := none, data := .fields ([head, .ref L, .none, rawInt L, .none] ++ (if pl.isEmpty then List.replicate 6 Value.none else pl)).toArray })
  (Obj.mapFields (·.setIfInBounds 1 (Value.ref h₁.objs.size))) (Ne.symm hTe)).trans (hPs h₁ rfl)
 have keep : ∀ b o, b ≠ e -> h₁.get? b = some o ->
  ((h₁.push { cls := .type "traceback", dict := none, data := .fields ([head, .ref L, .none, rawInt L, .none] ++ (if pl.isEmpty then List.replicate 6 Value.none else pl)).toArray }).update e (Obj.mapFields (·.setIfInBounds 1 (Value.ref h₁.objs.size)))).get? b = some o :=
  λ b o hbe hb => by
   rw [hUo _ _ (Ne.symm hbe)]
   exact hPo _ hb
 have noRecord : ∀ b o, s.heap.get? b = some o -> (∀ vs, o.data ≠ .fields vs) -> b ≠ e := λ b o hb hnf q => by
  rw [q, he] at hb; injection hb with hb; subst hb; exact hnf vs hd
 refine ⟨λ b o hbo => keep b o (λ q => by rw [q, hen] at hbo; cases hbo) (kb₁ b o hbo), hl.of_keeps λ b o hb hnf => ?_, ?_, λ b o hb hnf => ?_⟩
 · obtain ⟨sl, hs⟩ := hs₁.2.2 b o hb
   exact ⟨_, keep b _ (noRecord b o hb hnf) hs, rfl⟩
 · exact ⟨_, _, h₁.objs.size, _, _, he₃, ⟨Obj.cls_mapFields _ _, (Obj.dict_mapFields _ _).trans h0⟩, hd₃, by simp [hsz], kb₁.fresh, hTe, hT₃, rfl, by first | (simp; done) | (rcases hpl with rfl | ⟨_, _, _, _, _, _, _, rfl⟩ <;> simp)⟩
 · obtain ⟨sl, hs⟩ := hs₁.2.2 b o hb
   exact ⟨sl, keep b _ (noRecord b o hb hnf) hs⟩
theorem wpAny_noteFrame_onD {base : Heap} {env : Env} {outer : List Env} {L e : Addr} {cls : Value} {a0 : Option Addr} {Q : Unit -> Shared -> Prop}
 (hfr : A.frames = some (env :: outer)) (hl : s.heap.FunFrames base (env :: outer)) (hf : env.frame = some L) (ht : s.heap.TracedD base e cls a0) (hkb : base.StaysIn s.heap) (hen : base.get? e = none)
 (h : ∀ h', Heap.NotedD base (env :: outer) e cls a0 (rawInt L) s.heap h' -> Q () { s with heap := h' }) : wpAny M A (noteFrame (.ref e) env) Q E s := by
 obtain ⟨oe, vs, T, oT, ts, he, ⟨hcls, h0⟩, hd, h1, hnT, hTe, hT, hdT, h3⟩ := ht
 subst hcls
 unfold noteFrame
 simp only [hf]
 refine wB (wpAny_field he hd h1 ?_)
 rw [if_pos (show (Value.ref T != Value.none) = true from by simp)]
 refine wB (wpAny_field hT hdT h3 ?_)
 rw [if_neg (show ¬ ((Value.none == rawInt L) = true) from by simp [rawInt])]
 refine wB (wpAny_setField hT hdT (Q21.mp h3).1 ?_)
 have other : ∀ b, b ≠ T -> (s.heap.update T (Obj.mapFields (·.setIfInBounds 3 Value.none))).get? b = s.heap.get? b := λ b hb => hUo _ _ (Ne.symm hb)
 have noRecord : ∀ b o, s.heap.get? b = some o -> (∀ vs, o.data ≠ .fields vs) -> b ≠ T := λ b o hb hnf q => by
  rw [q, hT] at hb; injection hb with hb; subst hb; exact hnf ts hdT
 refine wpAny_entryD hfr (hl.of_keeps λ b o hb hnf => ⟨o, (other b (noRecord b o hb hnf)).trans hb, rfl⟩) hf ((other e (Ne.symm hTe)).trans he)
  (λ b o hbo => (other b λ q => by rw [q, hnT] at hbo; cases hbo).trans (hkb b o hbo)) hen hd (Q21.mp h1).1 h0
  λ h' ⟨x1, x2, x3, x4⟩ => h h' ⟨x1, x2, x3, λ b o hb hnf => x4 b o ((other b (noRecord b o hb hnf)).trans hb) hnf⟩
theorem wpAny_setFlight_noneD {base : Heap} {l : List Env} {e : Addr} {cls : Value} {a0 : Option Addr} {fl : Value} {Q : Unit -> Shared -> Prop}
 (hkb : base.StaysIn s.heap) (hl : s.heap.FunFrames base l) (ht : s.heap.TracedAtD base e cls a0 fl)
 (h : ∀ h', base.StaysIn h' -> h'.FunFrames base l -> h'.TracedD base e cls a0 -> (∀ b o, s.heap.get? b = some o -> (∀ vs, o.data ≠ .fields vs) -> h'.get? b = some o) -> Q () { s with heap := h' }) :
 wpAny M A (setFlight (.ref e) none) Q E s := by
 obtain ⟨oe, vs, T, oT, ts, he, hcls, hd, h1, hnT, hTe, hT, hdT, h3⟩ := ht
 have hsz3 : 3 < ts.size := (Q21.mp h3).1
 have other : ∀ b, b ≠ T -> (s.heap.update T (Obj.mapFields (·.setIfInBounds 3 ((none : Option Addr).elim Value.none λ f => rawInt f)))).get? b = s.heap.get? b :=
  λ b hb => hUo _ _ (Ne.symm hb)
 have noRecord : ∀ b o, s.heap.get? b = some o -> (∀ vs, o.data ≠ .fields vs) -> b ≠ T := λ b o hb hnf q => by
  rw [q, hT] at hb; injection hb with hb; subst hb; exact hnf ts hdT
 unfold setFlight
 refine wB (wpAny_field he hd h1 ?_)
 rw [if_pos (show (Value.ref T != Value.none) = true from by simp)]
 refine wpAny_setField hT hdT hsz3 (h _ (λ b o hbo => (other b λ q => by rw [q, hnT] at hbo; cases hbo).trans (hkb b o hbo))
  (hl.of_keeps λ b o hb hnf => ⟨o, (other b (noRecord b o hb hnf)).trans hb, rfl⟩) ?_ λ b o hb hnf => (other b (noRecord b o hb hnf)).trans hb)
 exact ⟨oe, vs, T, _, _, (other e (Ne.symm hTe)).trans he, hcls, hd, h1, hnT, hTe, hUs _ hT (Obj.isFreed_of_fields (Obj.data_mapFields hdT _)), Obj.data_mapFields hdT _, by simp [hsz3]⟩
def Heap.HeldD (base : Heap) (l : List Env) (e : Addr) (cls : Value) (a0 : Option Addr) (L : Addr) (h : Heap) : Prop :=
 base.StaysIn h /\ base.get? e = none /\ h.FunFrames base l /\ h.TracedAtD base e cls a0 (rawInt L)
theorem Heap.HeldD.there {base h : Heap} {l : List Env} {e L : Addr} {cls : Value} {a0 : Option Addr} (x : Heap.HeldD base l e cls a0 L h) : ∃ ob, h.get? e = some ob /\ ob.cls = cls := x.2.2.2.there
theorem wpAny_looks_onD {base : Heap} {env : Env} {outer : List Env} {L e : Addr} {cls : Value} {a0 : Option Addr} {Q : Unit -> Shared -> Prop}
 (hfr : A.frames = some (env :: outer)) (hf : env.frame = some L) (hfl : Heap.FlyingD base (env :: outer) e cls a0 s.heap)
 (hQ : ∀ h', Heap.HeldD base (env :: outer) e cls a0 L h' -> s.heap.UpToSlots h' -> Q () { s with heap := h' }) : wpAny M A (noteFrame (.ref e) env) Q E s := by
 obtain ⟨f1, f2, f3, f4⟩ := hfl
 refine wpAny_noteFrame_onD hfr f3 hf f4 f1 f2 λ h' hN => ?_
 obtain ⟨k1, k2, k3, k4⟩ := hN
 exact hQ h' ⟨k1, f2, k2, k3⟩ k4
theorem wpAny_landsD {base : Heap} {l : List Env} {e L : Addr} {cls : Value} {a0 : Option Addr} {Q : Unit -> Shared -> Prop} (hh : Heap.HeldD base l e cls a0 L s.heap)
 (hQ : ∀ h', Heap.FlyingD base l e cls a0 h' -> s.heap.UpToSlots h' -> Q () { s with heap := h' }) : wpAny M A (setFlight (.ref e) none) Q E s := by
 obtain ⟨f1, f2, f3, f4⟩ := hh
 exact wpAny_setFlight_noneD f1 f3 f4 λ h' k1 k2 k3 k4 => hQ h' ⟨k1, f2, k2, k3⟩ λ b o hb hn => ⟨o.slots, k4 b o hb hn⟩
theorem wpAny_leaves_madeD {base h : Heap} {env : Env} {outer : List Env} {L e : Addr} {cls : Value} {args : List Value} {Q : Unit -> Shared -> Prop}
 (hfr : A.frames = some (env :: outer)) (hf : env.frame = some L) (hkb : base.StaysIn h) (hl : h.FunFrames base (env :: outer)) (hx : Heap.MadeExcOf h s.heap e cls args)
 (hQ : ∀ h' t, Heap.FlyingD base outer e cls none h' -> h'.TupAt t args -> base.get? t = none -> s.heap.UpToSlots h' -> Q () { s with heap := h' }) : wpAny M A (leaving env (.ref e)) Q E s := by
 obtain ⟨t, he, htn, ht⟩ := hx.there
 have fresh : ∀ b, h.get? b = none -> base.get? b = none := λ b hb => by
  cases hq : base.get? b with
  | none => rfl
  | some o' => have := hkb b o' hq; rw [hb] at this; cases this
 refine wpAny_leaving_firstD (a0 := none) hfr (hl.of_keeps λ b o hb _ => ⟨o, hx.keeps b o hb, rfl⟩) hf he (λ b o hb => hx.keeps b o (hkb b o hb)) (fresh e hx.new) rfl rfl rfl λ h' hL => ?_
 obtain ⟨k1, ⟨_, _, k2⟩, k3, k4⟩ := hL
 exact hQ h' t ⟨k1, fresh e hx.new, k2, k3⟩ (Heap.TupAt.of_slots ⟨_, _, ht, rfl, rfl⟩ k4) (fresh t htn) k4
theorem Heap.FlyingD.first {base h : Heap} {l : List Env} {e : Addr} {cls : Value} {a0 : Option Addr} (x : Heap.FlyingD base l e cls a0 h) : ∃ oe vs, h.get? e = some oe /\ oe.cls = cls /\ oe.data = .fields vs /\ oe.dict = a0 :=
 let ⟨_, _, _, oe, vs, _, _, _, he, hc, hd, _⟩ := x; ⟨oe, vs, he, hc.1, hd, hc.2⟩
end
end PySem
namespace L2
open PySem PySem.Spec PyProof.Rows PySem.W
theorem ObjOk.there {P : Program} {w : World} {H : Hp} {h : Heap} {a : Addr} {o : HO} (x : ObjOk P w H h a o) : ∃ ob, h.get? a = some ob := by
 cases o with
 | lst xs => obtain ⟨_, _, _, _, e⟩ := x; exact ⟨_, e⟩
 | tup xs => obtain ⟨_, _, _, ⟨ob, e, _⟩, _⟩ := x; exact ⟨_, e⟩
 | dK kvs => obtain ⟨_, _, _, _, o, _, _, e, _⟩ := x; exact ⟨_, e⟩
 | dT kvs => obtain ⟨_, _, _, _, o, _, _, e, _⟩ := x; exact ⟨_, e⟩
 | set S n => obtain ⟨o, _, _, _, e, _⟩ := x; exact ⟨_, e⟩
 | ins C dx fs => obtain ⟨_, _, _, e, _⟩ := x; exact ⟨_, e⟩
 | own y => obtain ⟨_, e⟩ := x; exact ⟨_, e⟩
 | xd fs => obtain ⟨_, ⟨_, _, _, e, _⟩, _⟩ := x; exact ⟨_, e⟩
 | rng lo hi => obtain ⟨_, _, _, e⟩ := x; exact ⟨_, e⟩
 | frz ob u => obtain ⟨e, _⟩ := x; exact ⟨_, e⟩
 | tbl ps =>
  rcases x with e | ⟨_, _, _, _, _, _, _, _, _, _, e, _⟩
  · exact ⟨_, e⟩
  · exact ⟨_, e⟩
 | met f y => exact ⟨_, (show h.get? a = some _ from x)⟩
 | ext φ => obtain ⟨_, ⟨_, e⟩, _⟩ := x; exact ⟨_, e⟩
structure Flown (P : Program) (w : World) (outer : List Env) (H : Hp) (s : Shared) (ea C : Addr) (a0 : Option Addr) (B : Heap) (H' : Hp) (s' : Shared) : Prop where
 os : s'.os = s.os
 bare : AllBare s'.gens
 hokB : HOk P w H' B
 fly : Heap.FlyingD B outer ea (.ref C) a0 s'.heap
 cov : ∀ b o, s.heap.get? b = some o -> H b = none -> b ∉ frs outer -> B.get? b = some o
 thr : ∀ b o, s.heap.get? b = some o -> b ∈ frs outer \/ ∃ o', B.get? b = some o'
 un : Un (frs outer) [] H H' s.heap s'.heap
def XV (ea : Addr) (v : Value) (dx : Option Addr) (H : Hp) : Prop := v = .ref ea \/ ∃ n t d, v = .int n t /\ dx = some d /\ H d = some (.xd [("at", .int n)])
def CXF (P : Program) (w : World) : CXT := λ outer H s E e s' => ∃ (ea C : Addr) (a0 : Option Addr) (B : Heap) (H' : Hp) (v : Value), e = .ref ea /\ Flown P w outer H s ea C a0 B H' s' /\ XV ea v a0 H' /\ E v (some C) H'
section
variable {P : Program} {w : World} {outer : List Env} {H H' : Hp} {s s' : Shared} {ea C : Addr} {a0 : Option Addr} {B : Heap}
theorem Flown.hok (f : Flown P w outer H s ea C a0 B H' s') : HOk P w H' s'.heap := f.hokB.kept f.fly.1
theorem Flown.free (f : Flown P w outer H s ea C a0 B H' s') : H' ea = none := by
 cases q : H' ea with
 | none => rfl
 | some u =>
  obtain ⟨ob, e⟩ := (f.hokB _ _ q).there
  rw [f.fly.2.1] at e
  cases e
end
section
variable {X : Cx} {pins : List (Addr × Obj)} {σ : St} {H : Hp} {s : Shared}
theorem Inv.neL (I : Inv X pins σ H s) {b : Addr} {o : Obj} (e : X.s₀.heap.get? b = some o) : b ≠ X.env.locals := nNl (nLl (hLs e) I.ok.above)
theorem Inv.notStk (I : Inv X pins σ H s) {b : Addr} {o : Obj} (e : X.s₀.heap.get? b = some o) (hb : b ∉ X.fs) : b ∉ frs X.stack := λ z => (Qb.mp (I.stkSub b z)).elim (I.neL e) hb
theorem un_out {outer : List Env} {base h0 h1 h2 B : Heap} {H0 H1 : Hp} (ff : h0.FunFrames base outer) (frf : ∀ b ∈ frs outer, H0 b = none) (st : B.StaysIn h2) (ff2 : h2.FunFrames B outer)
 (cov : ∀ b o, h0.get? b = some o -> H0 b = none -> b ∉ frs outer -> B.get? b = some o) (thr : ∀ b o, h0.get? b = some o -> b ∈ frs outer \/ ∃ o', B.get? b = some o')
 (u : Un (frs outer) [] H0 H1 h0 h1) (k : h1.UpToSlots h2) : Un (frs outer) [] H0 H1 h0 h2 where
 keep := λ b o e n hb _ => st b o (cov b o e n hb)
 slot := λ b o e n hb hx => by
  obtain ⟨sl, e1⟩ := u.slot b o e n hb hx
  obtain ⟨_, o', ho', hd⟩ := ff.mem hb
  rw [e] at ho'
  cases ho'
  obtain ⟨sl', e2⟩ := k b _ e1 hd
  exact ⟨sl', e2⟩
 free := u.free
 there := λ b o e _ => by
  rcases thr b o e with hb | ⟨o', e'⟩
  · obtain ⟨_, o', ho', _⟩ := ff2.mem hb
    exact ⟨o', ho'⟩
  · exact ⟨o', st _ _ e'⟩
 tups := u.tups
 frzs := u.frzs
 tbls := u.tbls
theorem flown_made {E : XK} {E' : Value -> Shared -> Prop} {ea C : Addr} {args : List Value} {h' : Heap} (hstk : X.stack = X.env :: X.outer) (hf : X.env.frame = some X.env.locals) (hex : X.ex = [])
 (I : Inv X pins σ H s) (hx : Heap.MadeExcOf s.heap h' ea (.ref C) args) (hE : E (.ref ea) (some C) H) :
 wpAny (model X.prog X.w) X.A (leaving X.env (.ref ea)) (λ _ s'' => CXF X.prog X.w X.outer X.H₀ X.s₀ E (.ref ea) s'') E' { s with heap := h' } := by
 have hin : ∀ env ∈ X.stack, ∀ b, env.frame = some b -> b ∈ frs X.stack := λ env he b hb => List.mem_filterMap.mpr ⟨env, he, hb⟩
 have nx : ∀ b, b ∉ X.ex := λ b z => by rw [hex] at z; cases z
 have keepB : ∀ b o, s.heap.get? b = some o -> b ∉ frs X.stack -> (hideAll s.heap (frs X.stack)).get? b = some o := λ b o e hb => hideAll_get _ e hb
 have hokB : HOk X.prog X.w H (hideAll s.heap (frs X.stack)) := λ b u e => (I.hok b u e).stay (λ c v hc q => keepB c v q (λ z => by
  have z := I.stkFree c z
  rcases hc with rfl | hc
  · rw [e] at z; cases z
  · rw [hc] at z; cases z)) (λ _ q => q) (λ _ _ q => q) λ _ _ _ q => q
 have cov : ∀ b o, X.s₀.heap.get? b = some o -> X.H₀ b = none -> b ∉ frs X.outer -> (hideAll s.heap (frs X.stack)).get? b = some o := λ b o e n hb =>
  keepB b o (I.base.keep b o e n hb (nx b)) (I.notStk e hb)
 have thr : ∀ b o, X.s₀.heap.get? b = some o -> b ∈ frs X.outer \/ ∃ o', (hideAll s.heap (frs X.stack)).get? b = some o' := λ b o e => by
  by_cases hb : b ∈ frs X.outer
  · exact .inl hb
  · obtain ⟨o', e'⟩ := I.base.there b o e (nx b)
    exact .inr ⟨o', keepB b o' e' (I.notStk e hb)⟩
 have fr := I.ok.frames
 have stk := I.stack
 have ub : Un (frs X.outer) [] X.H₀ H X.s₀.heap s.heap := by
  have := I.base
  rw [hex] at this
  exact this
 generalize hB : hideAll s.heap (frs X.stack) = B at *
 have ffB : s.heap.FunFrames B (X.env :: X.outer) := by
  rw [<- hB, <- hstk]
  exact funFrames_hide stk hin
 rw [hstk] at fr
 refine wpAny_leaves_madeD (base := B) (h := s.heap) fr hf (λ b o q => by rw [<- hB] at q; exact of_hideAll _ q) ffB hx λ h'' t x1 x2 x3 x4 => ?_
 refine ⟨ea, C, none, B, H, .ref ea, rfl, ⟨I.os, I.bare, hokB, x1, cov, thr, un_out I.ok.funs I.ok.frf x1.1 x1.2.2.1 cov thr (ub) (((Heap.UpToSlots.of_keeps hx.keeps)).trans x4)⟩, .inl rfl, hE⟩
theorem flown_on {E : XK} {E' : Value -> Shared -> Prop} {e : Value} {s' : Shared} (hstk : X.stack = X.env :: X.outer) (hf : X.env.frame = some X.env.locals) (hex : X.ex = [])
 (I : Inv X pins σ H s) (hx : CXF X.prog X.w X.stack H s E e s') :
 wpAny (model X.prog X.w) X.A (leaving X.env e) (λ _ s'' => CXF X.prog X.w X.outer X.H₀ X.s₀ E e s'') E' s' := by
 obtain ⟨ea, C, a0, B, H', v, rfl, f, hv, hE⟩ := hx
 have nx : ∀ b, b ∉ X.ex := λ b z => by rw [hex] at z; cases z
 have I' : Inv X pins σ H' s' := I.call' (ch := []) f.os f.un f.hok f.bare (λ b z => absurd z (by simp))
 have cov : ∀ b o, X.s₀.heap.get? b = some o -> X.H₀ b = none -> b ∉ frs X.outer -> B.get? b = some o := λ b o e n hb =>
  f.cov b o (I.base.keep b o e n hb (nx b)) (I.base.free b o e n (nx b)) (I.notStk e hb)
 have thr : ∀ b o, X.s₀.heap.get? b = some o -> b ∈ frs X.outer \/ ∃ o', B.get? b = some o' := λ b o e => by
  by_cases hb : b ∈ frs X.outer
  · exact .inl hb
  · obtain ⟨o', e'⟩ := I.base.there b o e (nx b)
    exact .inr ((f.thr b o' e').resolve_left (I.notStk e hb))
 have ub : Un (frs X.outer) [] X.H₀ H' X.s₀.heap s'.heap := by
  have := I'.base
  rw [hex] at this
  exact this
 have fr := I.ok.frames
 have fl := f.fly
 rw [hstk] at fr fl
 refine wpAny_leaves_onD fr hf fl λ h'' x1 x2 => ?_
 exact ⟨ea, C, a0, B, H', v, rfl, ⟨I'.os, I'.bare, f.hokB, x1, cov, thr, un_out I.ok.funs I.ok.frf x1.1 x1.2.2.1 cov thr ub x2⟩, hv, hE⟩
end
theorem ownc {K : Frag} {hp : Heap} {gl : Str -> Option Value} {y : Str} {C : Addr} {bl : List Value} {nid : String} (kin : K.In hp) (hm : gl y = some (.ref C)) (ok : excIn K C bl nid = true) : OwnCls y C bl nid gl hp := by
 refine ⟨hm, ?_⟩
 unfold excIn at ok
 cases hL : K.lookup C with
 | none => rw [hL] at ok; cases ok
 | some ob =>
  rw [hL] at ok
  have at_ := kin _ _ hL
  split at ok
  · rename_i e1
    split at ok
    · rename_i cx ds sls lsx w1 w2 w3 w4 w5 w6 w7 w8 e2 e3
      cases e1
      simp only [Q2, beq_iff_eq, Bool.not_eq_true'] at ok
      obtain ⟨⟨⟨⟨⟨rfl, rfl⟩, z1⟩, z2⟩, z3⟩, z4⟩ := ok
      obtain ⟨c1, c2, c3, c4, c5, c6, c7, c8, c9, c10, c11⟩ := cx
      obtain rfl : c3 = _ := e2
      obtain rfl : c11 = _ := z1
      obtain ⟨sll⟩ := ds
      obtain rfl : sll = _ := e3
      exact ⟨_, _, _, _, _, _, _, _, _, _, _, _, _, _, _, _, _, at_, .of_isNs (isNs_of_in kin z3), nsMap_none_of_in kin z3 z4, tail_of_in kin z2⟩
    · cases ok
  · cases ok
section
variable {P : Program} {w : World} {K : Frag} {mg : Str -> Option Value} {base : Heap} {N : List Str} {qual : Str} {scope : Scope} {f : Addr} {cd : Value} {A : Around} {outer : List Env} {s₀ : Shared} {H₀ : Hp} {E : XK}
theorem pass_flown : Passes (CXF P w) (cxOf (CXF P w) P w K mg base N qual scope f cd A outer s₀ H₀ E) E := λ pins σ H s e s' I h =>
 flown_on (X := cxOf (CXF P w) P w K mg base N qual scope f cd A outer s₀ H₀ E) rfl rfl rfl I h
def tRaise (C : Addr) (E : XK) (ta : TA) : TS := λ _ σ H => ta σ H λ vs H1 => vs.length <= sizeLine /\ ∀ ea, E (.ref ea) (some C) H1
theorem ps_raise {x : Str} {C : Addr} {B newId initId : String} {bm : List Value} {np cpos pos : Pos} {e₀ : Expr} {rest : List Expr} {ta : TA} (hm : mg x = some (.ref C)) (q : excIn K C bm newId = true) (FB : ExcBaseFacts B newId initId bm)
 (ha : PA (cxOf (CXF P w) P w K mg base N qual scope f cd A outer s₀ H₀ E) (e₀ :: rest) ta) (hg : Gl (cxOf (CXF P w) P w K mg base N qual scope f cd A outer s₀ H₀ E) x := by rfl)
 (hd : (x == ("__debug__" : Str)) = false := by decide)
 (he : starEach (e₀ :: rest) (envOfC qual scope s₀.heap.objs.size f cd) = (false, eval e₀ (envOfC qual scope s₀.heap.objs.size f cd)) :: starEach rest (envOfC qual scope s₀.heap.objs.size f cd) := by rfl)
 (hpl : (backTo cpos (starEach rest (envOfC qual scope s₀.heap.objs.size f cd))).any (·.1) = false := by rfl) :
 PS (cxOf (CXF P w) P w K mg base N qual scope f cd A outer s₀ H₀ E) (.Raise (some (.Call (.Name x np) (e₀ :: rest) [] cpos)) none pos) (tRaise C E ta) := by
 intro pins s σ H D I h
 obtain ⟨tl, NN, nm, qn, bs, hdct, sn, sub, ab, col, dd, k0, k1, k2, k3, k5, mN, hC, hN, hni, T⟩ := (ownc I.mod.kin hm q).obj
 refine wpAny_Raise_call_subT (C := C) (nm := nm) (q := qn) (N := NN) (bs := bs) (bm := tl) (hdct := hdct) (sn := sn) (sub := sub) (ab := ab) (col := col) (dd := dd) (k0 := k0) (k1 := k1)
  (k2 := k2) (k3 := k3) (k5 := k5) FB (mN := mN) (T.hasType FB.hasBase) (I.ok.hd rfl) (by show (backTo cpos (starEach (e₀ :: rest) (envOfC qual scope s₀.heap.objs.size f cd))).any (·.1) = false; rw [he]; show (false || (backTo cpos (starEach rest (envOfC qual scope s₀.heap.objs.size f cd))).any (·.1)) = false; rw [hpl]; rfl) hni (ld_glob I hg hm ⟨rfl, ?_⟩ hd)
 have ha := ha cpos pins s σ H _ I h
 change wpAny _ _ (evalArgs (.ref C) true (backTo cpos (starEach (e₀ :: rest) (envOfC qual scope s₀.heap.objs.size f cd))) []) _ _ s
 change wpAny _ _ (spliced (backTo cpos (starEach (e₀ :: rest) (envOfC qual scope s₀.heap.objs.size f cd)))) _ _ s at ha
 rw [he] at ha ⊢
 refine Calls.evalArgs_plain (thn ha λ us s2 ⟨vs, H2, I2, r2, z, hE⟩ => ⟨rfl, by rw [<- r2.length]; exact z, I2.bk _ _ hC, hN.keeps I2.bk, T.keeps I2.bk, λ h' ea hx => ?_⟩)
 exact flown_made (X := cxOf (CXF P w) P w K mg base N qual scope f cd A outer s₀ H₀ E) rfl rfl rfl I2 hx (hE ea)
end
theorem lands_againD {M : Model} {A : Around} {E : Value -> Shared -> Prop} {s : Shared} {base : Heap} {l : List Env} {e : Addr} {cls : Value} {a0 : Option Addr} {Q : Unit -> Shared -> Prop} (hh : Heap.FlyingD base l e cls a0 s.heap)
 (hQ : ∀ h', Heap.FlyingD base l e cls a0 h' -> s.heap.UpToSlots h' -> Q () { s with heap := h' }) : wpAny M A (setFlight (.ref e) none) Q E s := by
 obtain ⟨f1, f2, f3, f4⟩ := hh
 exact wpAny_setFlight_noneD f1 f3 f4.at λ h' k1 k2 k3 k4 => hQ h' ⟨k1, f2, k2, k3⟩ λ b o hb hn => ⟨o.slots, k4 b o hb hn⟩
def XW (e : Value) (ea : Addr) : Prop := e = .ref ea \/ ∃ n t, e = .int n t
theorem XV.w {ea : Addr} {v : Value} {dx : Option Addr} {H : Hp} (h : XV ea v dx H) : XW v ea := by
 rcases h with h | ⟨n, t, _, h, _⟩
 · exact .inl h
 · exact .inr ⟨n, t, h⟩
def XO (ea C : Addr) : HO := .ext λ h => ∃ ob, h.get? ea = some ob /\ ob.cls = .ref C
theorem xo_ok {P : Program} {w : World} {H : Hp} {h : Heap} {ea C : Addr} {ob : Obj} (e : h.get? ea = some ob) (c : ob.cls = .ref C) : ObjOk P w H h ea (XO ea C) :=
 ⟨⟨ob, e, c⟩, ⟨ob, e⟩, λ _ _ ⟨o1, e1, c1⟩ k => ⟨o1, k o1 e1, c1⟩⟩
theorem isi_flown {prog : Program} {w : World} {A : Around} {E : Value -> Shared -> Prop} {s : Shared} {K : Frag} {ea C : Addr} {c : Value} {ob : Obj} {Q : Value -> Shared -> Prop} (kin : K.In s.heap) (at_ : s.heap.get? ea = some ob) (cl : ob.cls = .ref C)
 (yes : kitOne K (.ref C) c = some true) (k : ∀ tk, Q (.bool true) { s with toks := tk }) : wpAny (model prog w) A (call (.builtin "isinstance") [.ref ea, c]) Q E s := by
 refine call_isinstance (S := λ _ R t => (K.In t.heap /\ t.heap.get? ea = some ob) /\ ∀ tk, R (.ok (.ret (.bool true))) { t with toks := tk }) (λ pr w2 A2 R t ht => isinstance_outer ?_ (by intro q; cases q)) ⟨⟨kin, at_⟩, k⟩
 obtain ⟨hh, g, d, tt, os⟩ := t
 obtain ⟨⟨ki, here⟩, fin⟩ := ht
 have ty : Looks (model pr w2) hh (typeOf (.ref ea)) (.ref C) := cl ▸ (Looks.ld here).andThen .now
 unfold Builtin.«isinstance.nested»
 refine wB (ty.at ?_)
 unfold kitOne at yes
 by_cases q : (Value.ref C == c) = true
 · rw [if_pos q]
   first
    | ((repeat lk); exact fin tt)
    | exact wB (wpAny_rule (fin tt))
 · rw [if_neg q] at yes
   rw [if_neg q]
   obtain ⟨a1, a2, a3⟩ := kit_cls (M := model pr w2) ki yes
   have both : Looks (model pr w2) hh (isInstance (.ref ea) c) true := ty.andThen a3
   refine wB (a1.at ?_)
   rw [if_pos (by decide)]
   k_delta "plainIsInstance"
   refine wB (wB (a2.at ?_))
   simp only [Q12, zN, if_false]
   refine wB (both.at ?_)
   simp only [if_true]
   first
    | exact wP (wP (fin tt))
    | exact wP (fin tt)
    | exact wB (wP (wP (fin tt)))
theorem Un.track {fs : List Addr} {H0 H1 : Hp} {h h2 : Heap} {ea : Addr} {o : HO} (u : Un fs [] H0 H1 h h2) (hn : h.get? ea = none) (hf : H1 ea = none) : Un fs [] H0 (upd H1 ea o) h h2 where
 keep := u.keep
 slot := u.slot
 free := λ b ob e n hx => by
  rw [upd_ne (λ z => by rw [z, hn] at e; cases e)]
  exact u.free b ob e n hx
 there := u.there
 tups := λ b xs q => by rw [upd_ne (ne_of_none (u.tups b xs q) hf)]; exact u.tups b xs q
 frzs := λ b ob xs q => by rw [upd_ne (ne_of_none (u.frzs b ob xs q) hf)]; exact u.frzs b ob xs q
 tbls := λ b ps q => by
  obtain ⟨m, e⟩ := u.tbls b ps q
  exact ⟨m, by rw [upd_ne (ne_of_none e hf)]; exact e⟩
theorem HOk.track {P : Program} {w : World} {H : Hp} {h : Heap} {ea : Addr} {o : HO} (x : HOk P w H h) (hf : H ea = none) (new : ObjOk P w (upd H ea o) h ea o) : HOk P w (upd H ea o) h := λ b u e => by
 by_cases hb : b = ea
 · subst hb
   rw [upd_same] at e
   cases e
   exact new
 · rw [upd_ne hb] at e
   exact (x b u e).stay (λ _ _ _ q => q) (λ c q => by rw [upd_ne (ne_of_none q hf)]; exact q) (λ c xs q => by rw [upd_ne (ne_of_none q hf)]; exact q) λ c ob xs q => by rw [upd_ne (ne_of_none q hf)]; exact q
section
variable {X : Cx} {pins : List (Addr × Obj)} {σ : St} {H : Hp} {s : Shared}
theorem Inv.unbound {i t : Nat} {n : Str} {m : Str -> Option Value} {v : Option Value} {h' : Heap} (I : Inv X pins σ H s) (hN : X.N.Nodup) (hi : X.N[i]? = some n)
 (hl : ∀ (i : Nat) (x : Str) (v : V), X.N[i]? = some x -> σ[i]? = some (some v) -> Vis X.env.scope x -> ∃ u, RelV v u /\ Look X.env s.heap m x u)
 (hns : h'.Ns X.env.locals λ y => if y = n then v else m y) (hs : Heap.SameBut X.env.locals s.heap h') : Inv X pins (σ.set i none) H { s with heap := h', toks := t } := by
 have ck : ∀ y c, X.env.cells.lookup y = some c -> ∀ z, s.heap.IsCell c z -> h'.IsCell c z := λ y c e z ⟨o, ho, hd⟩ => ⟨o, (hs.2 c (I.cne y c e)).trans ho, hd⟩
 refine ⟨I.ok, I.os, I.bare, ⟨λ b o e n hb hx => ?_, λ b o e n hb hx => ?_, I.base.free, λ b o e hx => ?_, I.base.tups, I.base.frzs, I.base.tbls⟩, ⟨_, hns, λ j y v' e1 e2 e3 => ?_⟩, λ y c e => ?_, I.free, I.freeC, λ p hp => ?_, I.hok.sameBut I.free hs, by simpa using I.len⟩
 · exact (hs.2 b (I.neL e)).trans (I.base.keep b o e n hb hx)
 · obtain ⟨sl, e1⟩ := I.base.slot b o e n hb hx
   exact ⟨sl, (hs.2 b (I.neL e)).trans e1⟩
 · obtain ⟨o', e1⟩ := I.base.there b o e hx
   exact ⟨o', (hs.2 b (I.neL e)).trans e1⟩
 · have ne : i ≠ j := λ z => by
    subst z
    rw [List.getElem?_set] at e2
    simp at e2
   have e2' : σ[j]? = some (some v') := by rw [Q1e ne] at e2; exact e2
   obtain ⟨u, r, l⟩ := hl j y v' e1 e2' e3
   refine ⟨u, r, ?_⟩
   have yn : y ≠ n := λ z => ne (nodup_ix hN hi (z ▸ e1))
   rcases l with ⟨k, l⟩ | ⟨k, c, e, z⟩
   · exact .inl ⟨k, (if_neg yn).trans l⟩
   · exact .inr ⟨k, c, e, ck y c e _ z⟩
 · obtain ⟨z, hz⟩ := I.cell y c e
   exact ⟨z, ck y c e z hz⟩
 · obtain ⟨e, n, ne, nf, d⟩ := I.pin p hp
   exact ⟨(hs.2 p.1 ne).trans e, n, ne, nf, d⟩
abbrev Cx.alt (X : Cx) (A : Around) (cm : Bool) (pn : List (Addr × Obj)) (E : Value -> Shared -> Prop) : Cx := { X with A := A, calm := cm, pn := pn, xe := E }
theorem Inv.alt (I : Inv X pins σ H s) {A : Around} {cm : Bool} {pn pins' : List (Addr × Obj)} {E : Value -> Shared -> Prop} (ha : A.frames = X.A.frames) (hc : cm = true -> A.handled = none) (hp : ∀ p ∈ pn ++ pins', p ∈ X.pn ++ pins) : Inv (X.alt A cm pn E) pins' σ H s :=
 ⟨⟨I.ok.mod, I.ok.kind, I.ok.glob, I.ok.blt, I.ok.above, I.ok.inj, I.ok.has, I.ok.cab, hc, ha.trans I.ok.frames, I.ok.stk, I.ok.exf, I.ok.bs, I.ok.bsz, I.ok.noex, I.ok.exfs, I.ok.funs, I.ok.frf⟩, I.os, I.bare, I.base, I.loc, I.cell, I.free, I.freeC, λ p q => I.pin p (hp p q), I.hok, I.len⟩
theorem Inv.unalt {A : Around} {cm : Bool} {pn pins' : List (Addr × Obj)} {E : Value -> Shared -> Prop} (I : Inv (X.alt A cm pn E) pins' σ H s) (ok : X.Ok) (hp : ∀ p ∈ X.pn ++ pins, p ∈ pn ++ pins') : Inv X pins σ H s :=
 ⟨ok, I.os, I.bare, I.base, I.loc, I.cell, I.free, I.freeC, λ p q => I.pin p (hp p q), I.hok, I.len⟩
noncomputable def Ends.un (D : Ends) (i : Nat) : Ends := { nx := λ σ H => D.nx (σ.set i none) H, bk := λ σ H => D.bk (σ.set i none) H, ct := λ σ H => D.ct (σ.set i none) H, rt := D.rt }
def tTry (K : Frag) (Dc : Addr) (i n : Nat) (tb : XK -> TS) (ts : Addr -> TS) : TS := λ D σ H =>
 tb (λ e oc H' => ∃ C, oc = some C /\ exmOne K (.ref C) (.ref Dc) = some true /\ ∀ ea, XW e ea -> H' ea = none -> ∀ σ' : St, σ'.length = n -> ts ea (D.un i) (σ'.set i (some (.ref ea))) (upd H' ea (XO ea C))) D σ H
theorem ps_try {body suite : List Stmt} {b₀ : Stmt} {x n : Str} {i : Nat} {Dc : Addr} {np pos tp : Pos} {tb : XK -> TS} {ts : Addr -> TS} (hstk : X.stack = X.env :: X.outer) (hfr : X.env.frame = some X.env.locals) (hcm : X.calm = true) (hN : X.N.Nodup) (hi : X.N[i]? = some n)
 (hl : X.env.scope.names.lookup n = some .local) (hm : X.mg x = some (.ref Dc)) (hg : Gl X x)
 (hb : ∀ (pn : List (Addr × Obj)) (E' : Value -> Shared -> Prop) (E : XK), Passes (CXF X.prog X.w) (X.alt X.A true pn E') E -> PSs (X.alt X.A true pn E') body (tb E))
 (hs : ∀ (ea : Addr) (pn : List (Addr × Obj)), PSs (X.alt (X.A.mark (some (.ref ea))) false pn λ _ _ => False) (b₀ :: suite) (ts ea)) (hd : (x == ("__debug__" : Str)) = false := by decide) :
 PS X (.Try body [.ExceptHandler (some (.Name x np)) (some n) (b₀ :: suite) pos] [] [] tp) (tTry X.K Dc i X.N.length tb ts) := by
 intro pins s σ H D I h
 refine wpAny_Try_except ?_
 have hh := I.ok.hd hcm
 have sub1 : ∀ p ∈ (X.pn ++ pins) ++ [], p ∈ X.pn ++ pins := λ p q => by rw [Q7] at q; exact q
 have sub2 : ∀ p ∈ X.pn ++ pins, p ∈ (X.pn ++ pins) ++ [] := λ p q => by rw [Q7]; exact q
 have ok := I.ok
 refine wpAny_mono (hb (X.pn ++ pins) _ _ (λ pins' σ' Hc sc e s' Ic hx => ?_) [] s σ H D (I.alt (A := X.A) (cm := true) (E := ?E') rfl (λ _ => hh) sub1) h) (λ f s1 hf => ?_) (λ e s1 he => ?_)
 case E' => exact λ e s₁ => wpAny (model X.prog X.w) X.A (noteFrame e X.env) (λ _ s₂ => wpAny (model X.prog X.w) X.A (setFlight e none) (λ _ s₃ => wpAny (model X.prog X.w) X.A (handleBy e X.env [.ExceptHandler (some (.Name x np)) (some n) (b₀ :: suite) pos]) (SP X pins D) X.xe s₃) X.xe s₂) X.xe s₁
 · obtain ⟨ea, C, a0, B, H', v, rfl, f, hv, C', e2, hex, hk⟩ := hx
   cases e2
   have fr : X.A.frames = some (X.env :: X.outer) := by rw [<- hstk]; exact ok.frames
   have fl : Heap.FlyingD B (X.env :: X.outer) ea (.ref C) a0 s'.heap := by rw [<- hstk]; exact f.fly
   have new : sc.heap.get? ea = none := by
    cases q : sc.heap.get? ea with
    | none => rfl
    | some o =>
     rcases f.thr ea o q with z | ⟨o', z⟩
     · obtain ⟨_, o', e1, e2⟩ := f.fly.2.2.1.mem z
       obtain ⟨oe, vs, e3, _, e4, _⟩ := f.fly.first
       rw [e3] at e1
       cases e1
       exact absurd e4 (e2 vs)
     · rw [f.fly.2.1] at z
       cases z
   have unT : ∀ h₂, s'.heap.UpToSlots h₂ -> Heap.FlyingD B (X.env :: X.outer) ea (.ref C) a0 h₂ -> Inv (X.alt (X.A.mark (some (.ref ea))) false (X.pn ++ pins) λ _ _ => False) [] σ' (upd H' ea (XO ea C)) { s' with heap := h₂ } := λ h₂ sm fl₂ => by
    have u2 := un_out Ic.stack Ic.stkFree fl₂.1 (show h₂.FunFrames B X.stack by rw [hstk]; exact fl₂.2.2.1) f.cov f.thr f.un sm
    obtain ⟨ob, e1, e2⟩ := fl₂.there
    have J : Inv (X.alt X.A true (X.pn ++ pins) _) pins' σ' (upd H' ea (XO ea C)) { s' with heap := h₂ } := Ic.call' (ch := []) f.os (u2.track new f.free) ((f.hokB.kept fl₂.1).track f.free (xo_ok e1 e2)) f.bare (λ b z => absurd z (by simp))
    exact (J.unalt (X := X) (pins := pins) ok (λ p q => List.mem_append_left _ q)).alt rfl (λ z => nomatch z) sub1
   show wpAny (model X.prog X.w) X.A (noteFrame (.ref ea) X.env) _ _ s'
   refine wpAny_looks_onD fr hfr fl λ h₄ held₄ sm₄ => ?_
   refine wpAny_landsD held₄ λ h₅ fl₅ sm₅ => ?_
   have I₅ := unT h₅ (sm₄.trans sm₅) fl₅
   obtain ⟨ob, hob, hobc⟩ := fl₅.there
   have LT : Looks (model X.prog X.w) h₅ (typeOf (.ref ea)) (.ref C) := hobc ▸ (Looks.ld hob).andThen .now
   refine wpAny_handleBy_cons (codeAny_handlers_test (ld_glob I₅ hg hm ?_ hd)) (by intro q; cases q)
   refine (exm_one I₅.kIn LT hex).here ?_
   refine codeAny_handlers_suite_as ?_
   refine lands_againD fl₅ λ h₆ fl₆ sm₆ => ?_
   have I₆ := unT h₆ ((sm₄.trans sm₅).trans sm₆) fl₆
   refine store_ok (X := X.alt (X.A.mark (some (.ref ea))) false (X.pn ++ pins) λ _ _ => False) I₆ hN hi (.inl hl) (v := .ref ea) rfl (λ s₇ I₇ => ?_) (.inr hl)
   refine wpAny_mono (hs ea (X.pn ++ pins) [] s₇ _ _ (D.un i) I₇ (hk ea hv.w f.free σ' I₆.len)) (λ fw s₈ hsp => ?_) (λ _ _ z => z.elim)
   have unb : ∀ {σ8 : St} {H8 : Hp} {Q : Shared -> Prop}, Inv (X.alt (X.A.mark (some (.ref ea))) false (X.pn ++ pins) λ _ _ => False) [] σ8 H8 s₈ -> (∀ s9, Inv X pins (σ8.set i none) H8 s9 -> Q s9) ->
    wpAny (model X.prog X.w) X.A (do bindName X.env n .none; unbindBehindTheSuite X.env n pos) (λ _ s9 => Q s9) X.xe s₈ := λ {σ8 H8 Q} I8 k => by
    have I8 : Inv X pins σ8 H8 s₈ := I8.unalt ok sub2
    obtain ⟨m, hn, hlook⟩ := id I8.loc
    exact wpAny_nameGoes_keeps hl hn (by rw [ok.kind]; rfl) λ h' v hns hsm => k _ (I8.unbound hN hi hlook hns hsm)
   cases fw with
   | next => obtain ⟨σ8, H8, I8, q⟩ := hsp; exact unb I8 λ s9 I9 => ⟨_, _, I9, q⟩
   | brk => obtain ⟨σ8, H8, I8, q⟩ := hsp; exact unb I8 λ s9 I9 => ⟨_, _, I9, q⟩
   | cont => obtain ⟨σ8, H8, I8, q⟩ := hsp; exact unb I8 λ s9 I9 => ⟨_, _, I9, q⟩
   | ret u => obtain ⟨v, σ8, H8, I8, r, q⟩ := hsp; exact unb I8 λ s9 I9 => ⟨v, _, _, I9, r, q⟩
 · cases f with
   | next =>
    obtain ⟨σ8, H8, I8, q⟩ := hf
    exact wP ⟨_, _, I8.unalt ok sub2, q⟩
   | brk => obtain ⟨σ8, H8, I8, q⟩ := hf; exact ⟨_, _, I8.unalt ok sub2, q⟩
   | cont => obtain ⟨σ8, H8, I8, q⟩ := hf; exact ⟨_, _, I8.unalt ok sub2, q⟩
   | ret u => obtain ⟨v, σ8, H8, I8, r, q⟩ := hf; exact ⟨v, _, _, I8.unalt ok sub2, r, q⟩
 · exact he
end
end L2
namespace GC
noncomputable def inter : List Int -> List Int -> Nat
 | _, [] => 0
 | u, c :: g => if c ∈ u then inter (u.erase c) g + 1 else inter u g
theorem inter_nil_left : ∀ g : List Int, inter [] g = 0
 | [] => rfl
 | c :: g => by unfold inter; rw [if_neg (by simp), inter_nil_left g]
theorem inter_perm_left {u u' : List Int} (g : List Int) (h : u.Perm u') : inter u g = inter u' g := by
 induction g generalizing u u' with
 | nil => rfl
 | cons c g ih =>
  unfold inter
  by_cases m : c ∈ u
  · rw [if_pos m, if_pos (h.mem_iff.mp m), ih (h.erase c)]
  · rw [if_neg m, if_neg (λ x => m (h.mem_iff.mpr x)), ih h]
theorem inter_swap (u : List Int) (a b : Int) (g : List Int) : inter u (a :: b :: g) = inter u (b :: a :: g) := by
 by_cases e : a = b
 · subst e; rfl
 · have e' : b ≠ a := λ z => e z.symm
   have m1 : b ∈ u.erase a ↔ b ∈ u := List.mem_erase_of_ne e'
   have m2 : a ∈ u.erase b ↔ a ∈ u := List.mem_erase_of_ne e
   unfold inter
   unfold inter
   by_cases ha : a ∈ u <;> by_cases hb : b ∈ u
   · simp only [ha, hb, m1, m2, if_true]
     rw [List.erase_comm]
   · simp only [ha, hb, m1, m2, if_true, if_false]
   · simp only [ha, hb, m1, m2, if_true, if_false]
   · simp only [ha, hb, m1, m2, if_false]
theorem inter_cons_congr {u : List Int} {c : Int} {g g' : List Int} (h : ∀ u, inter u g = inter u g') : inter u (c :: g) = inter u (c :: g') := by
 unfold inter
 rw [h, h]
theorem inter_perm_right {g g' : List Int} (h : g.Perm g') : ∀ u, inter u g = inter u g' := by
 induction h with
 | nil => intro u; rfl
 | cons x _ ih => intro u; exact inter_cons_congr ih
 | swap x y l => intro u; exact inter_swap u y x l
 | trans _ _ ih1 ih2 => intro u; rw [ih1, ih2]
theorem inter_skip {c : Int} : ∀ (u g : List Int), c ∉ u -> inter (c :: g) u = inter g u
 | [], g, _ => rfl
 | x :: u, g, h => by
  have hx : x ≠ c := λ e => h (by simp [e])
  have hu : c ∉ u := λ z => h (lMc _ z)
  have m : x ∈ c :: g ↔ x ∈ g := by simp [hx]
  unfold inter
  by_cases hg : x ∈ g
  · rw [if_pos (m.mpr hg), if_pos hg, List.erase_cons_tail (by simpa using hx.symm), inter_skip u _ hu]
  · rw [if_neg (λ z => hg (m.mp z)), if_neg hg, inter_skip u _ hu]
theorem inter_same (c : Int) (u g : List Int) : inter (c :: u) (c :: g) = inter u g + 1 := by
 show (if c ∈ c :: u then inter ((c :: u).erase c) g + 1 else inter (c :: u) g) = _
 rw [if_pos (by simp), List.erase_cons_head]
theorem inter_comm : ∀ (g u : List Int), inter u g = inter g u
 | [], u => by rw [inter_nil_left]; rfl
 | c :: g, u => by
  by_cases h : c ∈ u
  · show (if c ∈ u then inter (u.erase c) g + 1 else inter u g) = _
    rw [if_pos h, inter_comm g, inter_perm_right (List.perm_cons_erase h) (c :: g), inter_same]
  · show (if c ∈ u then inter (u.erase c) g + 1 else inter u g) = _
    rw [if_neg h, inter_skip u g h, inter_comm g]
theorem inter_app : ∀ (e u g : List Int), inter (e ++ u) (e ++ g) = e.length + inter u g
 | [], u, g => by simp
 | c :: e, u, g => by
  rw [Q3, Q3, inter_same, inter_app e u g, zC]
  omega
noncomputable def left : List Int -> List Int -> List Int
 | u, [] => u
 | u, c :: g => if c ∈ u then left (u.erase c) g else left u g
theorem left_snoc (c : Int) : ∀ (g u : List Int), left u (g ++ [c]) = if c ∈ left u g then (left u g).erase c else left u g
 | [], u => rfl
 | d :: g, u => by
  show (if d ∈ u then left (u.erase d) (g ++ [c]) else left u (g ++ [c])) = if c ∈ (if d ∈ u then left (u.erase d) g else left u g) then (if d ∈ u then left (u.erase d) g else left u g).erase c else (if d ∈ u then left (u.erase d) g else left u g)
  by_cases m : d ∈ u
  · simp only [if_pos m]; exact left_snoc c g _
  · simp only [if_neg m]; exact left_snoc c g _
theorem inter_snoc (c : Int) : ∀ (g u : List Int), inter u (g ++ [c]) = inter u g + if c ∈ left u g then 1 else 0
 | [], u => by
  show (if c ∈ u then 0 + 1 else 0) = 0 + if c ∈ u then 1 else 0
  by_cases m : c ∈ u <;> simp [m]
 | d :: g, u => by
  show (if d ∈ u then inter (u.erase d) (g ++ [c]) + 1 else inter u (g ++ [c])) = (if d ∈ u then inter (u.erase d) g + 1 else inter u g) + if c ∈ (if d ∈ u then left (u.erase d) g else left u g) then 1 else 0
  by_cases m : d ∈ u
  · simp only [if_pos m]; rw [inter_snoc c g]; omega
  · simp only [if_neg m]; exact inter_snoc c g _
noncomputable def rgt : List Int -> List Int -> Nat
 | a :: x, b :: y => (if a = b then 1 else 0) + rgt x y
 | _, _ => 0
noncomputable def eqs : List Int -> List Int -> List Int
 | a :: x, b :: y => if a = b then a :: eqs x y else eqs x y
 | _, _ => []
noncomputable def mine : List Int -> List Int -> List Int
 | a :: x, b :: y => if a = b then mine x y else a :: mine x y
 | _, _ => []
noncomputable def thrs : List Int -> List Int -> List Int
 | a :: x, b :: y => if a = b then thrs x y else b :: thrs x y
 | _, _ => []
theorem take_snoc {i : Nat} {b : List Int} (h : i < b.length) : b.take (i + 1) = b.take i ++ [b[i]] := Q28 h
theorem rgt_snoc (c d : Int) : ∀ (x y : List Int), x.length = y.length -> rgt (x ++ [c]) (y ++ [d]) = rgt x y + if c = d then 1 else 0
 | [], [], _ => by simp [rgt]
 | [], _ :: _, h => by simp at h
 | _ :: _, [], h => by simp at h
 | a :: x, b :: y, h => by
  show (if a = b then 1 else 0) + rgt (x ++ [c]) (y ++ [d]) = (if a = b then 1 else 0) + rgt x y + _
  rw [rgt_snoc c d x y (by simpa using h)]
  omega
theorem mine_snoc (c d : Int) : ∀ (x y : List Int), x.length = y.length -> mine (x ++ [c]) (y ++ [d]) = mine x y ++ if c = d then [] else [c]
 | [], [], _ => by simp [mine]
 | [], _ :: _, h => by simp at h
 | _ :: _, [], h => by simp at h
 | a :: x, b :: y, h => by
  show (if a = b then mine (x ++ [c]) (y ++ [d]) else a :: mine (x ++ [c]) (y ++ [d])) = (if a = b then mine x y else a :: mine x y) ++ _
  rw [mine_snoc c d x y (by simpa using h)]
  by_cases e : a = b <;> simp [e]
theorem thrs_snoc (c d : Int) : ∀ (x y : List Int), x.length = y.length -> thrs (x ++ [c]) (y ++ [d]) = thrs x y ++ if c = d then [] else [d]
 | [], [], _ => by simp [thrs]
 | [], _ :: _, h => by simp at h
 | _ :: _, [], h => by simp at h
 | a :: x, b :: y, h => by
  show (if a = b then thrs (x ++ [c]) (y ++ [d]) else b :: thrs (x ++ [c]) (y ++ [d])) = (if a = b then thrs x y else b :: thrs x y) ++ _
  rw [thrs_snoc c d x y (by simpa using h)]
  by_cases e : a = b <;> simp [e]
theorem eqs_len : ∀ x y : List Int, (eqs x y).length = rgt x y
 | [], _ => rfl
 | _ :: _, [] => rfl
 | a :: x, b :: y => by
  unfold eqs rgt
  by_cases h : a = b
  · rw [if_pos h, if_pos h, zC, eqs_len x y]; omega
  · rw [if_neg h, if_neg h, eqs_len x y]; omega
theorem mine_perm : ∀ x y : List Int, x.length = y.length -> x.Perm (eqs x y ++ mine x y)
 | [], [], _ => .nil
 | [], _ :: _, h => by simp at h
 | _ :: _, [], h => by simp at h
 | a :: x, b :: y, h => by
  have ih := mine_perm x y (by simpa using h)
  unfold eqs mine
  by_cases e : a = b
  · rw [if_pos e, if_pos e, Q3]; exact ih.cons a
  · rw [if_neg e, if_neg e]; exact (ih.cons a).trans List.perm_middle.symm
theorem thrs_perm : ∀ x y : List Int, x.length = y.length -> y.Perm (eqs x y ++ thrs x y)
 | [], [], _ => .nil
 | [], _ :: _, h => by simp at h
 | _ :: _, [], h => by simp at h
 | a :: x, b :: y, h => by
  have ih := thrs_perm x y (by simpa using h)
  unfold eqs thrs
  by_cases e : a = b
  · rw [if_pos e, if_pos e, Q3, <- e]; exact ih.cons a
  · rw [if_neg e, if_neg e]; exact (ih.cons b).trans List.perm_middle.symm
noncomputable def ans (h g : List Int) : List Int := [(rgt h g : Int), (inter h g : Int) - (rgt h g : Int)]
noncomputable def lawAns (h g : List Int) : List Int := [(rgt h g : Int), (inter (thrs h g) (mine h g) : Int)]
theorem inter_split {h g : List Int} (l : h.length = g.length) : inter h g = rgt h g + inter (mine h g) (thrs h g) := by
 rw [inter_perm_left g (mine_perm h g l), inter_perm_right (thrs_perm h g l), inter_app, eqs_len]
theorem ans_law {h g : List Int} (l : h.length = g.length) : ans h g = lawAns h g := by
 unfold ans lawAns
 rw [inter_split l, inter_comm (mine h g) (thrs h g)]
 congr 1
 congr 1
 have := inter_comm (thrs h g) (mine h g)
 omega
theorem mine_len : ∀ x y : List Int, x.length = y.length -> rgt x y + (mine x y).length = x.length
 | [], [], _ => rfl
 | [], _ :: _, h => by simp at h
 | _ :: _, [], h => by simp at h
 | a :: x, b :: y, h => by
  have ih := mine_len x y (by simpa using h)
  unfold rgt mine
  split <;> simp <;> omega
theorem thrs_len : ∀ x y : List Int, x.length = y.length -> (thrs x y).length = (mine x y).length
 | [], [], _ => rfl
 | [], _ :: _, h => by simp at h
 | _ :: _, [], h => by simp at h
 | a :: x, b :: y, h => by
  have ih := thrs_len x y (by simpa using h)
  unfold thrs mine
  by_cases e : a = b
  · rw [if_pos e, if_pos e]; exact ih
  · rw [if_neg e, if_neg e, zC, zC, ih]
end GC
namespace DL
open PySem PySem.Spec PyProof.Rows L2
noncomputable abbrev St := L2.St
noncomputable def kD : Key -> PyData
 | .inl i => .int i
 | .inr x => .str x
noncomputable def scr (ns : List Int) : PyData := .dict [(.none, .list (ns.map .int))]
mutual
noncomputable def Is (K : Fg) (H : Hp) (x : V) : PyData -> Prop
 | .none => x = .non
 | .bool b => x = .bl b
 | .int i => x = .int i
 | .str y => x = .str y
 | .list ds => ∃ a xs, x = .ref a /\ H a = some (.lst xs) /\ Are K H xs ds
 | .tuple ds => ∃ a xs, x = .ref a /\ H a = some (.tup xs) /\ Are K H xs ds
 | .dict kvs => ∃ a, x = .ref a /\ ((∃ ns : List Int, kvs = [(.none, .list (ns.map .int))] /\ SqL K H a (ns.map V.int)) \/ (∃ m, H a = some (.dT m) /\ Kvs K H m kvs) \/ (∃ nm : Str, kvs = [(.bool true, .str nm)] /\ PySem.W.nsIn K mainGlobals nm = some (some (.ref a))) \/ ∃ m, H a = some (.dK m) /\ KvsS K H m kvs)
noncomputable def Are (K : Fg) (H : Hp) (xs : List V) : List PyData -> Prop
 | [] => xs = []
 | d :: ds => ∃ x r, xs = x :: r /\ Is K H x d /\ Are K H r ds
noncomputable def Kvs (K : Fg) (H : Hp) (m : List (List Key × V)) : List (PyData × PyData) -> Prop
 | [] => m = []
 | p :: r => ∃ q m', m = q :: m' /\ Kv K H q p /\ Kvs K H m' r
noncomputable def Kv (K : Fg) (H : Hp) (q : List Key × V) : PyData × PyData -> Prop
 | (k, d) => k = .tuple (q.1.map kD) /\ Is K H q.2 d
noncomputable def KvsS (K : Fg) (H : Hp) (m : List (Key × V)) : List (PyData × PyData) -> Prop
 | [] => False
 | p :: r => p = (.none, .none) /\ KvsI K H m r
noncomputable def KvsI (K : Fg) (H : Hp) (m : List (Key × V)) : List (PyData × PyData) -> Prop
 | [] => m = []
 | p :: r => ∃ q m', m = q :: m' /\ KvI K H q p /\ KvsI K H m' r
noncomputable def KvI (K : Fg) (H : Hp) (q : Key × V) : PyData × PyData -> Prop
 | (k, d) => k = kD q.1 /\ Is K H q.2 d
end
mutual
theorem Is.same {K : Fg} {H H' : Hp} (s : Same H H') : ∀ {x : V} (d : PyData), Is K H x d -> Is K H' x d
 | _, .none, h => h
 | _, .bool _, h => h
 | _, .int _, h => h
 | _, .str _, h => h
 | _, .list ds, h => by
  obtain ⟨a, xs, e, q, r⟩ := h
  exact ⟨a, xs, e, s _ _ q, Are.same s ds r⟩
 | _, .tuple ds, h => by
  obtain ⟨a, xs, e, q, r⟩ := h
  exact ⟨a, xs, e, s _ _ q, Are.same s ds r⟩
 | _, .dict kvs, h => by
  obtain ⟨a, e, h⟩ := h
  rcases h with ⟨ns, e1, q⟩ | ⟨m, q, r⟩ | q
  · exact ⟨a, e, .inl ⟨ns, e1, s.seq q⟩⟩
  · exact ⟨a, e, .inr (.inl ⟨m, s _ _ q, Kvs.same s kvs r⟩)⟩
  · rcases q with q | ⟨m, q, r⟩
    · exact ⟨a, e, .inr (.inr (.inl q))⟩
    · exact ⟨a, e, .inr (.inr (.inr ⟨m, s _ _ q, KvsS.same s kvs r⟩))⟩
theorem Are.same {K : Fg} {H H' : Hp} (s : Same H H') : ∀ {xs : List V} (ds : List PyData), Are K H xs ds -> Are K H' xs ds
 | _, [], h => h
 | _, d :: ds, h => by
  obtain ⟨x, r, e, q, t⟩ := h
  exact ⟨x, r, e, Is.same s d q, Are.same s ds t⟩
theorem Kvs.same {K : Fg} {H H' : Hp} (s : Same H H') : ∀ {m : List (List Key × V)} (kvs : List (PyData × PyData)), Kvs K H m kvs -> Kvs K H' m kvs
 | _, [], h => h
 | _, p :: r, h => by
  obtain ⟨q, m', e, h1, h2⟩ := h
  exact ⟨q, m', e, Kv.same s p h1, Kvs.same s r h2⟩
theorem Kv.same {K : Fg} {H H' : Hp} (s : Same H H') : ∀ {q : List Key × V} (p : PyData × PyData), Kv K H q p -> Kv K H' q p
 | _, (k, d), h => ⟨h.1, Is.same s d h.2⟩
theorem KvsS.same {K : Fg} {H H' : Hp} (s : Same H H') : ∀ {m : List (Key × V)} (kvs : List (PyData × PyData)), KvsS K H m kvs -> KvsS K H' m kvs
 | _, [], h => h
 | _, p :: r, h => ⟨h.1, KvsI.same s r h.2⟩
theorem KvsI.same {K : Fg} {H H' : Hp} (s : Same H H') : ∀ {m : List (Key × V)} (kvs : List (PyData × PyData)), KvsI K H m kvs -> KvsI K H' m kvs
 | _, [], h => h
 | _, p :: r, h => by
  obtain ⟨q, m', e, h1, h2⟩ := h
  exact ⟨q, m', e, KvI.same s p h1, KvsI.same s r h2⟩
theorem KvI.same {K : Fg} {H H' : Hp} (s : Same H H') : ∀ {q : Key × V} (p : PyData × PyData), KvI K H q p -> KvI K H' q p
 | _, (k, d), h => ⟨h.1, Is.same s d h.2⟩
end
def DcO (K : Fg) (F : Hp) (o : HO) (kvs : List (PyData × PyData)) : Prop := (∃ m, o = .dT m /\ Kvs K F m kvs) \/ ∃ m, o = .dK m /\ KvsS K F m kvs
theorem DcO.same {K : Fg} {F F' : Hp} {o : HO} {kvs : List (PyData × PyData)} (s : Same F F') (h : DcO K F o kvs) : DcO K F' o kvs :=
 h.imp (λ ⟨m, e, q⟩ => ⟨m, e, Kvs.same s _ q⟩) λ ⟨m, e, q⟩ => ⟨m, e, KvsS.same s _ q⟩
theorem DcO.ntup {K : Fg} {F : Hp} {o : HO} {kvs : List (PyData × PyData)} (h : DcO K F o kvs) : ∀ xs, o ≠ .tup xs := λ xs z => by
 subst z
 rcases h with ⟨_, e, _⟩ | ⟨_, e, _⟩ <;> cases e
theorem DcO.nlst {K : Fg} {F : Hp} {o : HO} {kvs : List (PyData × PyData)} (h : DcO K F o kvs) : ∀ xs, o ≠ .lst xs := λ xs z => by
 subst z
 rcases h with ⟨_, e, _⟩ | ⟨_, e, _⟩ <;> cases e
theorem DcO.is {K : Fg} {F : Hp} {o : HO} {kvs : List (PyData × PyData)} {a : Addr} (h : DcO K F o kvs) (e : F a = some o) : Is K F (.ref a) (.dict kvs) := by
 rcases h with ⟨m, rfl, q⟩ | ⟨m, rfl, q⟩
 · exact ⟨a, rfl, .inr (.inl ⟨m, e, q⟩)⟩
 · exact ⟨a, rfl, .inr (.inr (.inr ⟨m, e, q⟩))⟩
theorem Are.length {K : Fg} {H : Hp} : ∀ {xs : List V} {ds : List PyData}, Are K H xs ds -> xs.length = ds.length
 | _, [], h => by rw [show _ = [] from h]; rfl
 | _, d :: ds, h => by
  obtain ⟨x, r, e, q, t⟩ := h
  rw [e, zC, zC, Are.length t]
theorem Are.get {K : Fg} {H : Hp} : ∀ {xs : List V} {ds : List PyData} {i : Nat} {d : PyData}, Are K H xs ds -> ds[i]? = some d -> ∃ x, xs[i]? = some x /\ Is K H x d
 | _, [], _, _, _, e => by simp at e
 | _, d :: ds, 0, _, h, e => by
  obtain ⟨x, r, e', q, t⟩ := h
  simp at e; subst e; rw [e']
  exact ⟨x, rfl, q⟩
 | _, d :: ds, i + 1, d', h, e => by
  obtain ⟨x, r, e', q, t⟩ := h
  obtain ⟨y, h1, h2⟩ := Are.get (i := i) (d := d') t (by simpa using e)
  rw [e']
  exact ⟨y, by simpa using h1, h2⟩
theorem Are.get' {K : Fg} {H : Hp} {xs : List V} {ds : List PyData} {i : Nat} {x : V} (h : Are K H xs ds) (e : xs[i]? = some x) : ∃ d, ds[i]? = some d /\ Is K H x d := by
 have hi : i < xs.length := (Qa.mp e).1
 have hl := h.length
 have hd : ds[i]? = some (ds[i]'(by omega)) := gEq _
 obtain ⟨y, h1, h2⟩ := h.get hd
 rw [e] at h1
 cases h1
 exact ⟨_, hd, h2⟩
theorem Are.append {K : Fg} {H : Hp} : ∀ {xs ys : List V} {ds es : List PyData}, Are K H xs ds -> Are K H ys es -> Are K H (xs ++ ys) (ds ++ es)
 | _, ys, [], es, h, h' => by rw [show _ = [] from h]; exact h'
 | _, ys, d :: ds, es, h, h' => by
  obtain ⟨x, r, e, q, t⟩ := h
  subst e
  exact ⟨x, r ++ ys, rfl, q, Are.append t h'⟩
theorem Are.one {K : Fg} {H : Hp} {x : V} {d : PyData} (h : Is K H x d) : Are K H [x] [d] := ⟨x, [], rfl, h, rfl⟩
theorem Are.drop {K : Fg} {H : Hp} : ∀ (n : Nat) {xs : List V} {ds : List PyData}, Are K H xs ds -> Are K H (xs.drop n) (ds.drop n)
 | 0, _, _, h => h
 | n + 1, _, [], h => by rw [show _ = [] from h]; exact rfl
 | n + 1, _, d :: ds, h => by
  obtain ⟨x, r, e, q, t⟩ := h
  subst e
  exact Are.drop n t
theorem Are.take {K : Fg} {H : Hp} : ∀ (n : Nat) {xs : List V} {ds : List PyData}, Are K H xs ds -> Are K H (xs.take n) (ds.take n)
 | 0, _, _, h => rfl
 | n + 1, _, [], h => by rw [show _ = [] from h]; exact rfl
 | n + 1, _, d :: ds, h => by
  obtain ⟨x, r, e, q, t⟩ := h
  subst e
  exact ⟨x, r.take n, rfl, q, Are.take n t⟩
theorem Are.ints {K : Fg} {H : Hp} : ∀ {ns : List Int} {xs : List V}, Are K H xs (ns.map PyData.int) ↔ xs = ns.map V.int
 | [], xs => Iff.rfl
 | n :: ns, xs => by
  constructor
  · intro h
    obtain ⟨x, r, e, q, t⟩ := h
    rw [e, show x = V.int n from q, (Are.ints (ns := ns)).mp t]; rfl
  · intro e
    subst e
    exact ⟨_, _, rfl, rfl, (Are.ints (ns := ns)).mpr rfl⟩
theorem Are.bools {K : Fg} {H : Hp} : ∀ {ns : List Bool} {xs : List V}, Are K H xs (ns.map PyData.bool) ↔ xs = ns.map V.bl
 | [], xs => Iff.rfl
 | n :: ns, xs => by
  constructor
  · intro h
    obtain ⟨x, r, e, q, t⟩ := h
    rw [e, show x = V.bl n from q, (Are.bools (ns := ns)).mp t]; rfl
  · intro e
    subst e
    exact ⟨_, _, rfl, rfl, (Are.bools (ns := ns)).mpr rfl⟩
structure Grow (F H F' H' : Hp) : Prop where
 f : Same F F'
 s : Same F' H'
 h : Same H H'
 o : ∀ a o, H a = some o -> (∀ xs, o ≠ .tup xs) -> F a = none -> F' a = none
theorem Grow.refl {F H : Hp} (s : Same F H) : Grow F H F H := ⟨Same.refl _, s, Same.refl _, λ _ _ _ _ h => h⟩
theorem Grow.trans {F H F1 H1 F2 H2 : Hp} (a : Grow F H F1 H1) (b : Grow F1 H1 F2 H2) : Grow F H F2 H2 :=
 ⟨a.f.trans b.f, b.s, a.h.trans b.h, λ c o e t n => b.o c o (a.h c o e) t (a.o c o e t n)⟩
theorem same_upd {F H : Hp} {p : Addr} {o : HO} (s : Same F H) : Same (upd F p o) (upd H p o) := λ b u e => by
 by_cases hb : b = p
 · subst hb; rw [upd_same] at e ⊢; exact e
 · rw [upd_ne hb] at e ⊢; exact s b u e
theorem Grow.new {F H : Hp} {p : Addr} {o : HO} (s : Same F H) (hp : H p = none) : Grow F H (upd F p o) (upd H p o) :=
 ⟨same_new (s.free hp) o, same_upd s, same_new hp o, λ a u e t n => by rw [upd_ne (ne_of_none e hp)]; exact n⟩
theorem Grow.fresh {F H : Hp} {p : Addr} {o : HO} (s : Same F H) (hp : H p = none) : Grow F H F (upd H p o) :=
 ⟨Same.refl _, s.trans (same_new hp o), same_new hp o, λ _ _ _ _ n => n⟩
theorem Grow.frz {F H F' H' : Hp} {p : Addr} {o : HO} (g : Grow F H F' H') (hp : H p = none) (hf : F' p = none) (hh : H' p = some o) : Grow F H (upd F' p o) H' :=
 ⟨g.f.trans (same_new hf o), λ b u e => by
  by_cases hb : b = p
  · subst hb; rw [upd_same] at e; rw [hh]; exact e
  · rw [upd_ne hb] at e; exact g.s b u e, g.h, λ a u e t n => by rw [upd_ne (ne_of_none e hp)]; exact g.o a u e t n⟩
inductive Sl where
 | fz (d : PyData)
 | ow (ds : List PyData)
 | od (kvs : List (PyData × PyData))
noncomputable abbrev DSt := List (Option Sl)
noncomputable def lamE : Expr -> Option Pos
 | .Call _ _ [kw] _ => match kw.value with
  | .Lambda _ _ _ pos => some pos
  | _ => none
 | _ => none
noncomputable def lamS : Stmt -> Option Pos
 | .Return (some e) _ => lamE e
 | .Assign _ e _ => lamE e
 | _ => none
noncomputable def lamOf (fd : FuncData) : Option (Array Value) := match fd.body with
 | .stmts b => (b.findSome? lamS).map λ pos => #[rawInt pos.line, rawInt pos.col, .str (fd.qualname ++ ".<locals>." ++ "<lambda>") 0]
 | _ => none
def TblK (K : Fg) (a : Addr) (ps : Array Value) : Prop := ∃ (f : Addr) (oc : Value) (od : Option Addr) (fd : FuncData) (sl : Array (Option Value)) (c : Addr), K.lookup f = some ⟨oc, od, .func fd, sl⟩ /\ fd.code = .ref c /\ PySem.W.codeHdIn K c a = true /\ lamOf fd = some ps
def Tb (K : Fg) (F : Hp) : Prop := ∀ a ps, TblK K a ps -> F a = some (.tbl ps)
theorem Tb.same {K : Fg} {F F' : Hp} (t : Tb K F) (s : Same F F') : Tb K F' := λ a ps h => s _ _ (t a ps h)
def SameT (K : Fg) (F H : Hp) : Prop := Same F H /\ Tb K F
structure Rep (K : Fg) (H0 F0 F : Hp) (σ : St) (H : Hp) (δ : DSt) : Prop where
 g : Grow F0 H0 F H
 len : σ.length = δ.length
 fz : ∀ (i : Nat) (d : PyData), δ[i]? = some (some (.fz d)) -> ∃ v, σ[i]? = some (some v) /\ Is K F v d
 ow : ∀ (i : Nat) (ds : List PyData), δ[i]? = some (some (.ow ds)) -> ∃ a xs, σ[i]? = some (some (.ref a)) /\ H a = some (.lst xs) /\ F a = none /\ H0 a = none /\ Are K F xs ds
 ap : ∀ (i j : Nat) (ds es : List PyData) (a : Addr), δ[i]? = some (some (.ow ds)) -> δ[j]? = some (some (.ow es)) -> σ[i]? = some (some (.ref a)) -> σ[j]? = some (some (.ref a)) -> i = j
 od : ∀ (i : Nat) (kvs : List (PyData × PyData)), δ[i]? = some (some (.od kvs)) -> ∃ a o, σ[i]? = some (some (.ref a)) /\ H a = some o /\ F a = none /\ H0 a = none /\ DcO K F o kvs
 ad : ∀ (i j : Nat) (ds es : List (PyData × PyData)) (a : Addr), δ[i]? = some (some (.od ds)) -> δ[j]? = some (some (.od es)) -> σ[i]? = some (some (.ref a)) -> σ[j]? = some (some (.ref a)) -> i = j
 tb : Tb K F
section
variable {K : Fg} {H0 F0 F F' : Hp} {σ : St} {H H' : Hp} {δ : DSt}
theorem Rep.grow (R : Rep K H0 F0 F σ H δ) (g : Grow F H F' H') : Rep K H0 F0 F' σ H' δ where
 g := R.g.trans g
 len := R.len
 fz := λ i d e => let ⟨v, h1, h2⟩ := R.fz i d e; ⟨v, h1, h2.same g.f⟩
 ow := λ i ds e => let ⟨a, xs, h1, h2, h3, h4, h5⟩ := R.ow i ds e; ⟨a, xs, h1, g.h _ _ h2, g.o _ _ h2 (λ _ z => nomatch z) h3, h4, h5.same g.f⟩
 ap := R.ap
 od := λ i ds e => let ⟨a, m, h1, h2, h3, h4, h5⟩ := R.od i ds e; ⟨a, m, h1, g.h _ _ h2, g.o _ _ h2 h5.ntup h3, h4, h5.same g.f⟩
 ad := R.ad
 tb := R.tb.same g.f
theorem get_set {α : Type} {l : List α} {i j : Nat} {x y : α} (h : (l.set i x)[j]? = some y) : (j = i /\ y = x) \/ (j ≠ i /\ l[j]? = some y) := by
 rw [List.getElem?_set] at h
 split at h
 · rename_i e
   split at h
   · exact .inl ⟨e.symm, (zV h).symm⟩
   · cases h
 · rename_i e
   exact .inr ⟨λ z => e z.symm, h⟩
theorem set_get {α : Type} {l : List α} {i : Nat} {x : α} (h : i < l.length) : (l.set i x)[i]? = some x := by
 rw [List.getElem?_set, if_pos rfl, if_pos h]
theorem set_get_ne {α : Type} {l : List α} {i j : Nat} {x : α} (h : j ≠ i) : (l.set i x)[j]? = l[j]? := by
 rw [List.getElem?_set, if_neg (λ z => h z.symm)]
theorem lt_of_get {α : Type} {l : List α} {i : Nat} {x : α} (h : l[i]? = some x) : i < l.length := (Qa.mp h).1
theorem Rep.set (R : Rep K H0 F0 F σ H δ) {i : Nat} {v : V} {d : PyData} (h : Is K F v d) : Rep K H0 F0 F (σ.set i (some v)) H (δ.set i (some (.fz d))) where
 g := R.g
 len := by rw [Q10, Q10]; exact R.len
 fz := λ j e q => by
  have hj := lt_of_get q
  rw [Q10] at hj
  rcases get_set q with ⟨rfl, z⟩ | ⟨n, q⟩
  · injection z with z
    injection z with z
    subst z
    exact ⟨v, set_get (by rw [R.len]; exact hj), h⟩
  · rw [set_get_ne n]; exact R.fz j e q
 ow := λ j ds q => by
  rcases get_set q with ⟨rfl, z⟩ | ⟨n, q⟩
  · cases z
  · rw [set_get_ne n]; exact R.ow j ds q
 ap := λ j k ds es a q1 q2 q3 q4 => by
  rcases get_set q1 with ⟨rfl, z⟩ | ⟨n1, q1⟩
  · cases z
  · rcases get_set q2 with ⟨rfl, z⟩ | ⟨n2, q2⟩
    · cases z
    · rw [set_get_ne n1] at q3
      rw [set_get_ne n2] at q4
      exact R.ap j k ds es a q1 q2 q3 q4
 od := λ j ds q => by
  rcases get_set q with ⟨rfl, z⟩ | ⟨n, q⟩
  · cases z
  · rw [set_get_ne n]; exact R.od j ds q
 ad := λ j k ds es a q1 q2 q3 q4 => by
  rcases get_set q1 with ⟨rfl, z⟩ | ⟨n1, q1⟩
  · cases z
  · rcases get_set q2 with ⟨rfl, z⟩ | ⟨n2, q2⟩
    · cases z
    · rw [set_get_ne n1] at q3
      rw [set_get_ne n2] at q4
      exact R.ad j k ds es a q1 q2 q3 q4
 tb := R.tb
theorem Rep.setO (R : Rep K H0 F0 F σ H δ) {i : Nat} {a : Addr} {xs : List V} {ds : List PyData} (ha : H a = some (.lst xs)) (hf : F a = none) (h0 : H0 a = none) (h : Are K F xs ds)
 (hn : ∀ j es, j ≠ i -> δ[j]? = some (some (.ow es)) -> σ[j]? ≠ some (some (.ref a))) : Rep K H0 F0 F (σ.set i (some (.ref a))) H (δ.set i (some (.ow ds))) where
 g := R.g
 len := by rw [Q10, Q10]; exact R.len
 fz := λ j e q => by
  rcases get_set q with ⟨rfl, z⟩ | ⟨n, q⟩
  · cases z
  · rw [set_get_ne n]; exact R.fz j e q
 ow := λ j es q => by
  have hj := lt_of_get q
  rw [Q10] at hj
  rcases get_set q with ⟨rfl, z⟩ | ⟨n, q⟩
  · injection z with z
    injection z with z
    subst z
    exact ⟨a, xs, set_get (by rw [R.len]; exact hj), ha, hf, h0, h⟩
  · rw [set_get_ne n]; exact R.ow j es q
 ap := λ j k ds' es' b q1 q2 q3 q4 => by
  have hj := lt_of_get q1
  have hk := lt_of_get q2
  rw [Q10] at hj hk
  rcases get_set q1 with ⟨ej, z⟩ | ⟨n1, p1⟩
  · rcases get_set q2 with ⟨ek, z2⟩ | ⟨n2, p2⟩
    · rw [ej, ek]
    · rw [ej, set_get (by rw [R.len, <- ej]; exact hj)] at q3
      rw [set_get_ne n2] at q4
      cases q3
      exact absurd q4 (hn k es' n2 p2)
  · rcases get_set q2 with ⟨ek, z⟩ | ⟨n2, p2⟩
    · rw [ek, set_get (by rw [R.len, <- ek]; exact hk)] at q4
      rw [set_get_ne n1] at q3
      cases q4
      exact absurd q3 (hn j ds' n1 p1)
    · rw [set_get_ne n1] at q3
      rw [set_get_ne n2] at q4
      exact R.ap j k ds' es' b p1 p2 q3 q4
 od := λ j ds q => by
  rcases get_set q with ⟨rfl, z⟩ | ⟨n, q⟩
  · cases z
  · rw [set_get_ne n]; exact R.od j ds q
 ad := λ j k ds es a q1 q2 q3 q4 => by
  rcases get_set q1 with ⟨rfl, z⟩ | ⟨n1, q1⟩
  · cases z
  · rcases get_set q2 with ⟨rfl, z⟩ | ⟨n2, q2⟩
    · cases z
    · rw [set_get_ne n1] at q3
      rw [set_get_ne n2] at q4
      exact R.ad j k ds es a q1 q2 q3 q4
 tb := R.tb
theorem Rep.mut (R : Rep K H0 F0 F σ H δ) {i : Nat} {a : Addr} {xs : List V} {es ds : List PyData} (e : δ[i]? = some (some (.ow es))) (hs : σ[i]? = some (some (.ref a))) (hf : F a = none) (h0 : H0 a = none) (h : Are K F xs ds) :
 Rep K H0 F0 F σ (upd H a (.lst xs)) (δ.set i (some (.ow ds))) where
 g := ⟨R.g.f, λ b u q => by rw [upd_ne (ne_of_none q hf)]; exact R.g.s b u q, λ b u q => by rw [upd_ne (ne_of_none q h0)]; exact R.g.h b u q, R.g.o⟩
 len := by rw [Q10]; exact R.len
 fz := λ j d q => by
  rcases get_set q with ⟨rfl, z⟩ | ⟨n, q⟩
  · cases z
  · exact R.fz j d q
 ow := λ j us q => by
  rcases get_set q with ⟨rfl, z⟩ | ⟨n, q⟩
  · injection z with z
    injection z with z
    subst z
    exact ⟨a, xs, hs, upd_same, hf, h0, h⟩
  · obtain ⟨b, ys, q1, q2, q3, q4, q5⟩ := R.ow j us q
    have nb : b ≠ a := λ z => by subst z; exact n (R.ap j i us es b q e q1 hs)
    exact ⟨b, ys, q1, by rw [upd_ne nb]; exact q2, q3, q4, q5⟩
 ap := λ j k ds' es' b q1 q2 q3 q4 => by
  have f : ∀ {m : Nat} {us : List PyData}, (δ.set i (some (Sl.ow ds)))[m]? = some (some (Sl.ow us)) -> ∃ us' : List PyData, δ[m]? = some (some (Sl.ow us')) := λ {m us} q => by
   rcases get_set q with ⟨em, z⟩ | ⟨n, q⟩
   · exact ⟨es, by rw [em]; exact e⟩
   · exact ⟨us, q⟩
  obtain ⟨u1, p1⟩ := f q1
  obtain ⟨u2, p2⟩ := f q2
  exact R.ap j k u1 u2 b p1 p2 q3 q4
 od := λ j us q => by
  rcases get_set q with ⟨rfl, z⟩ | ⟨n, q⟩
  · cases z
  · obtain ⟨b, m, q1, q2, q3, q4, q5⟩ := R.od j us q
    have nb : b ≠ a := λ z => by
     subst z
     obtain ⟨b2, ys, w1, w2, _⟩ := R.ow i es e
     rw [hs] at w1
     cases w1
     rw [q2] at w2
     exact q5.nlst _ (zV w2)
    exact ⟨b, m, q1, by rw [upd_ne nb]; exact q2, q3, q4, q5⟩
 ad := λ j k ds' es' b q1 q2 q3 q4 => by
  rcases get_set q1 with ⟨rfl, z⟩ | ⟨n1, q1⟩
  · cases z
  · rcases get_set q2 with ⟨rfl, z⟩ | ⟨n2, q2⟩
    · cases z
    · exact R.ad j k ds' es' b q1 q2 q3 q4
 tb := R.tb
noncomputable def frz (i : Nat) (δ : DSt) : DSt := match δ[i]? with
 | some (some (.ow ds)) => δ.set i (some (.fz (.list ds)))
 | some (some (.od kvs)) => δ.set i (some (.fz (.dict kvs)))
 | _ => δ
theorem Rep.frz (R : Rep K H0 F0 F σ H δ) (i : Nat) : ∃ F', Same F F' /\ Rep K H0 F0 F' σ H (frz i δ) := by
 unfold DL.frz
 split
 · rename_i ds e
   obtain ⟨a, xs, q1, q2, q3, q4, q5⟩ := R.ow i ds e
   have g := R.g.frz (p := a) (o := .lst xs) q4 q3 q2
   have sF : Same F (upd F a (.lst xs)) := same_new q3 _
   refine ⟨upd F a (.lst xs), sF, g, by rw [Q10]; exact R.len, λ j d q => ?_, λ j us q => ?_, λ j k ds' es' b p1 p2 p3 p4 => ?_, λ j us q => ?_, λ j k ds' es' b p1 p2 p3 p4 => ?_, R.tb.same sF⟩
   · rcases get_set q with ⟨rfl, z⟩ | ⟨n, q⟩
     · injection z with z
       injection z with z
       subst z
       exact ⟨.ref a, q1, a, xs, rfl, upd_same, q5.same sF⟩
     · obtain ⟨v, h1, h2⟩ := R.fz j d q
       exact ⟨v, h1, h2.same sF⟩
   · rcases get_set q with ⟨rfl, z⟩ | ⟨n, q⟩
     · cases z
     · obtain ⟨b, ys, h1, h2, h3, h4, h5⟩ := R.ow j us q
       have nb : b ≠ a := λ z => by subst z; exact n (R.ap j i us ds b q e h1 q1)
       exact ⟨b, ys, h1, h2, by rw [upd_ne nb]; exact h3, h4, h5.same sF⟩
   · rcases get_set p1 with ⟨rfl, z⟩ | ⟨n1, p1⟩
     · cases z
     · rcases get_set p2 with ⟨rfl, z⟩ | ⟨n2, p2⟩
       · cases z
       · exact R.ap j k ds' es' b p1 p2 p3 p4
   · rcases get_set q with ⟨rfl, z⟩ | ⟨n, q⟩
     · cases z
     · obtain ⟨b, m, h1, h2, h3, h4, h5⟩ := R.od j us q
       have nb : b ≠ a := λ z => by
        subst z
        rw [q2] at h2
        exact h5.nlst _ (zV h2).symm
       exact ⟨b, m, h1, h2, by rw [upd_ne nb]; exact h3, h4, h5.same sF⟩
   · rcases get_set p1 with ⟨rfl, z⟩ | ⟨n1, p1⟩
     · cases z
     · rcases get_set p2 with ⟨rfl, z⟩ | ⟨n2, p2⟩
       · cases z
       · exact R.ad j k ds' es' b p1 p2 p3 p4
 · rename_i kvs e
   obtain ⟨a, m, q1, q2, q3, q4, q5⟩ := R.od i kvs e
   have g := R.g.frz (p := a) (o := m) q4 q3 q2
   have sF : Same F (upd F a m) := same_new q3 _
   refine ⟨upd F a m, sF, g, by rw [Q10]; exact R.len, λ j d q => ?_, λ j us q => ?_, λ j k ds' es' b p1 p2 p3 p4 => ?_, λ j us q => ?_, λ j k ds' es' b p1 p2 p3 p4 => ?_, R.tb.same sF⟩
   · rcases get_set q with ⟨rfl, z⟩ | ⟨n, q⟩
     · injection z with z
       injection z with z
       subst z
       exact ⟨.ref a, q1, (q5.same sF).is upd_same⟩
     · obtain ⟨v, h1, h2⟩ := R.fz j d q
       exact ⟨v, h1, h2.same sF⟩
   · rcases get_set q with ⟨rfl, z⟩ | ⟨n, q⟩
     · cases z
     · obtain ⟨b, ys, h1, h2, h3, h4, h5⟩ := R.ow j us q
       have nb : b ≠ a := λ z => by
        subst z
        rw [q2] at h2
        exact q5.nlst _ (zV h2)
       exact ⟨b, ys, h1, h2, by rw [upd_ne nb]; exact h3, h4, h5.same sF⟩
   · rcases get_set p1 with ⟨rfl, z⟩ | ⟨n1, p1⟩
     · cases z
     · rcases get_set p2 with ⟨rfl, z⟩ | ⟨n2, p2⟩
       · cases z
       · exact R.ap j k ds' es' b p1 p2 p3 p4
   · rcases get_set q with ⟨rfl, z⟩ | ⟨n, q⟩
     · cases z
     · obtain ⟨b, m2, h1, h2, h3, h4, h5⟩ := R.od j us q
       have nb : b ≠ a := λ z => by subst z; exact n (R.ad j i us kvs b q e h1 q1)
       exact ⟨b, m2, h1, h2, by rw [upd_ne nb]; exact h3, h4, h5.same sF⟩
   · rcases get_set p1 with ⟨rfl, z⟩ | ⟨n1, p1⟩
     · cases z
     · rcases get_set p2 with ⟨rfl, z⟩ | ⟨n2, p2⟩
       · cases z
       · exact R.ad j k ds' es' b p1 p2 p3 p4
 · exact ⟨F, Same.refl _, R⟩
theorem Rep.weak (R : Rep K H0 F0 F σ H δ) {δ' : DSt} (l : δ'.length = δ.length) (w : ∀ (i : Nat) s, δ'[i]? = some (some s) -> δ[i]? = some (some s)) : Rep K H0 F0 F σ H δ' :=
 ⟨R.g, by rw [R.len, l], λ i d e => R.fz i d (w i _ e), λ i ds e => R.ow i ds (w i _ e), λ i j ds es a q1 q2 => R.ap i j ds es a (w i _ q1) (w j _ q2), λ i ds e => R.od i ds (w i _ e), λ i j ds es a q1 q2 => R.ad i j ds es a (w i _ q1) (w j _ q2), R.tb⟩
end
section
variable (K : Fg)
def SE (te : TE) (f : DSt -> Option PyData) : Prop := ∀ (H0 F0 F : Hp) (σ : St) (H : Hp) (δ : DSt) (d : PyData) (Q : VK), Rep K H0 F0 F σ H δ -> f δ = some d -> (∀ v H' F', Grow F H F' H' -> Is K F' v d -> Q v H') -> te σ H Q
def ST (tt : TT) (f : DSt -> Option Bool) : Prop := ∀ (H0 F0 F : Hp) (σ : St) (H : Hp) (δ : DSt) (b : Bool) (Q : Bool -> Hp -> Prop), Rep K H0 F0 F σ H δ -> f δ = some b -> (∀ H' F', Grow F H F' H' -> Q b H') -> tt σ H Q
def SA (ta : TA) (f : DSt -> Option (List PyData)) : Prop := ∀ (H0 F0 F : Hp) (σ : St) (H : Hp) (δ : DSt) (ds : List PyData) (Q : List V -> Hp -> Prop), Rep K H0 F0 F σ H δ -> f δ = some ds -> (∀ vs H' F', Grow F H F' H' -> Are K F' vs ds -> Q vs H') -> ta σ H Q
def SO (te : TE) (f : DSt -> Option (List PyData)) : Prop := ∀ (H0 F0 F : Hp) (σ : St) (H : Hp) (δ : DSt) (ds : List PyData) (Q : VK), Rep K H0 F0 F σ H δ -> f δ = some ds ->
 (∀ a xs H' F', Grow F H F' H' -> H a = none -> F' a = none -> H' a = some (.lst xs) -> Are K F' xs ds -> Q (.ref a) H') -> te σ H Q
def OpD (r : R2) (g : PyData -> PyData -> Option PyData) : Prop := ∀ (F H : Hp) (x y : V) (dx dy d : PyData) (Q : VK), Same F H -> Is K F x dx -> Is K F y dy -> g dx dy = some d -> (∀ v H' F', Grow F H F' H' -> Is K F' v d -> Q v H') -> r x y H Q
def CallD (r : List V -> Hp -> VK -> Prop) (g : List PyData -> Option PyData) : Prop := ∀ (F H : Hp) (xs : List V) (ds : List PyData) (d : PyData) (Q : VK), Same F H -> Are K F xs ds -> g ds = some d -> (∀ v H' F', Grow F H F' H' -> Is K F' v d -> Q v H') -> r xs H Q
end
noncomputable def dVar (i : Nat) (δ : DSt) : Option PyData := match δ[i]? with
 | some (some (.fz d)) => some d
 | _ => none
noncomputable def dC (d : PyData) (_ : DSt) : Option PyData := some d
noncomputable def d2 (g : PyData -> PyData -> Option PyData) (fa fb : DSt -> Option PyData) (δ : DSt) : Option PyData := (fa δ).bind λ a => (fb δ).bind λ b => g a b
noncomputable def dCall (g : List PyData -> Option PyData) (fs : DSt -> Option (List PyData)) (δ : DSt) : Option PyData := (fs δ).bind g
noncomputable def dNil (_ : DSt) : Option (List PyData) := some []
noncomputable def dCons (f : DSt -> Option PyData) (fs : DSt -> Option (List PyData)) (δ : DSt) : Option (List PyData) := (f δ).bind λ d => (fs δ).bind λ ds => some (d :: ds)
theorem bind_some {α β : Type} {x : Option α} {f : α -> Option β} {b : β} (h : x.bind f = some b) : ∃ a, x = some a /\ f a = some b := by
 cases x with
 | none => cases h
 | some a => exact ⟨a, rfl, h⟩
section
variable {K : Fg} {ta tb te : TE} {fa fb f : DSt -> Option PyData}
theorem SO.se {fo : DSt -> Option (List PyData)} (h : SO K te fo) : SE K te (λ δ => (fo δ).map PyData.list) := by
 intro H0 F0 F σ H δ d Q R e k
 obtain ⟨ds, e1, e2⟩ := Q0.mp e
 subst e2
 refine h H0 F0 F σ H δ ds Q R e1 λ a xs H' F' g h0 hf ha ar => ?_
 exact k (.ref a) H' _ (g.frz h0 hf ha) ⟨a, xs, rfl, upd_same, ar.same (same_new hf _)⟩
theorem se_var (i : Nat) : SE K (tVar i) (dVar i) := by
 intro H0 F0 F σ H δ d Q R e h
 unfold dVar at e
 split at e
 · rename_i d' q
   cases e
   obtain ⟨v, hv, is⟩ := R.fz i d q
   exact ⟨v, hv, h v H F (Grow.refl R.g.s) is⟩
 · cases e
theorem se_c {v : V} {d : PyData} (h : ∀ H, Is K H v d) : SE K (tC v) (dC d) := λ H0 F0 F σ H δ d' Q R e k => by
 cases e
 exact k v H F (Grow.refl R.g.s) (h F)
theorem se_int {n : Int} : SE K (tC (.int n)) (dC (.int n)) := se_c λ _ => rfl
theorem se_bl {b : Bool} : SE K (tC (.bl b)) (dC (.bool b)) := se_c λ _ => rfl
theorem se_non : SE K (tC .non) (dC .none) := se_c λ _ => rfl
theorem se_str {x : Str} : SE K (tC (.str x)) (dC (.str x)) := se_c λ _ => rfl
theorem se_op {r : R2} {g : PyData -> PyData -> Option PyData} (o : OpD K r g) (a : SE K ta fa) (b : SE K tb fb) : SE K (tOp r ta tb) (d2 g fa fb) := by
 intro H0 F0 F σ H δ d Q R e h
 obtain ⟨dx, ex, e⟩ := bind_some e
 obtain ⟨dy, ey, e⟩ := bind_some e
 refine a H0 F0 F σ H δ dx _ R ex λ v H1 F1 g1 i1 => b H0 F0 F1 σ H1 δ dy _ (R.grow g1) ey λ w H2 F2 g2 i2 => ?_
 exact o F2 H2 v w dx dy d Q g2.s (i1.same g2.f) i2 e λ v' H3 F3 g3 i3 => h v' H3 F3 (g1.trans (g2.trans g3)) i3
theorem sa_nil : SA K tNil dNil := λ H0 F0 F σ H δ ds Q R e h => by cases e; exact h [] H F (Grow.refl R.g.s) rfl
theorem sa_cons {t : TA} {fs : DSt -> Option (List PyData)} (a : SE K te f) (b : SA K t fs) : SA K (tCons te t) (dCons f fs) := by
 intro H0 F0 F σ H δ ds Q R e h
 obtain ⟨dx, ex, e⟩ := bind_some e
 obtain ⟨dy, ey, e⟩ := bind_some e
 cases e
 refine a H0 F0 F σ H δ dx _ R ex λ v H1 F1 g1 i1 => b H0 F0 F1 σ H1 δ dy _ (R.grow g1) ey λ vs H2 F2 g2 i2 => ?_
 exact h (v :: vs) H2 F2 (g1.trans g2) ⟨v, vs, rfl, i1.same g2.f, i2⟩
theorem se_callB {r : List V -> Hp -> VK -> Prop} {g : List PyData -> Option PyData} {t : TA} {fs : DSt -> Option (List PyData)} (o : CallD K r g) (a : SA K t fs) : SE K (tCB r t) (dCall g fs) := by
 intro H0 F0 F σ H δ d Q R e h
 obtain ⟨ds, ex, e⟩ := bind_some e
 refine a H0 F0 F σ H δ ds _ R ex λ vs H1 F1 g1 i1 => ?_
 exact o F1 H1 vs ds d Q g1.s i1 e λ v H2 F2 g2 i2 => h v H2 F2 (g1.trans g2) i2
noncomputable def LIM : Nat := 100000
theorem lim_line {n : Nat} (h : n <= LIM) : n <= sizeLine := Q9 h (by decide)
theorem lim_lt {n : Nat} (h : n <= LIM) : n < sizeLine := Nat.lt_of_le_of_lt h (by decide)
noncomputable def dTup (fs : DSt -> Option (List PyData)) (δ : DSt) : Option PyData := (fs δ).bind λ ds => if ds.length <= LIM then some (.tuple ds) else none
noncomputable def dLstO (fs : DSt -> Option (List PyData)) (δ : DSt) : Option (List PyData) := (fs δ).bind λ ds => if ds.length <= LIM then some ds else none
noncomputable def dOwn (fo : DSt -> Option (List PyData)) (δ : DSt) : Option PyData := (fo δ).map PyData.list
theorem se_tup {t : TA} {fs : DSt -> Option (List PyData)} (a : SA K t fs) : SE K (tTup t) (dTup fs) := by
 intro H0 F0 F σ H δ d Q R e h
 obtain ⟨ds, ex, e⟩ := bind_some e
 split at e
 · rename_i hl
   cases e
   refine a H0 F0 F σ H δ ds _ R ex λ vs H1 F1 g1 i1 => ⟨by rw [i1.length]; exact lim_line hl, λ p hp => ?_⟩
   refine h (.ref p) _ _ (g1.trans (Grow.new g1.s hp)) ⟨p, vs, rfl, upd_same, i1.same (same_new (g1.s.free hp) _)⟩
 · cases e
theorem so_lst {t : TA} {fs : DSt -> Option (List PyData)} (a : SA K t fs) : SO K (tLst t) (dLstO fs) := by
 intro H0 F0 F σ H δ d Q R e h
 obtain ⟨ds, ex, e⟩ := bind_some e
 split at e
 · rename_i hl
   cases e
   refine a H0 F0 F σ H δ d _ R ex λ vs H1 F1 g1 i1 => ⟨by rw [i1.length]; exact lim_line hl, λ p hp => ?_⟩
   have hp0 : H p = none := g1.h.free hp
   exact h p vs _ F1 (g1.trans (Grow.fresh g1.s hp)) hp0 (g1.s.free hp) upd_same i1
 · cases e
theorem se_own {fo : DSt -> Option (List PyData)} (h : SO K te fo) : SE K te (dOwn fo) := h.se
noncomputable def dB (f : DSt -> Option PyData) (δ : DSt) : Option Bool := (f δ).bind λ d => match d with
 | .bool b => some b
 | _ => none
noncomputable def truD : PyData -> Option Bool
 | .none => some false
 | .bool b => some b
 | .int i => some (i != 0)
 | .str y => if y.length <= LIM then some ((y.length : Int) != 0) else none
 | .list ds => some (!ds.isEmpty)
 | .tuple ds => some (!ds.isEmpty)
 | .dict _ => none
noncomputable def dTru (f : DSt -> Option PyData) (δ : DSt) : Option Bool := (f δ).bind truD
noncomputable def dNotT (f : DSt -> Option Bool) (δ : DSt) : Option Bool := (f δ).map (!·)
noncomputable def dOrT (f g : DSt -> Option Bool) (δ : DSt) : Option Bool := (f δ).bind λ b => if b = true then some true else g δ
noncomputable def dAndV (f g : DSt -> Option PyData) (δ : DSt) : Option PyData := (dB f δ).bind λ b => if b = true then g δ else some (.bool false)
noncomputable def dNotV (f : DSt -> Option PyData) (δ : DSt) : Option PyData := (dB f δ).map λ b => .bool (!b)
noncomputable def dIfE (c : DSt -> Option Bool) (f g : DSt -> Option PyData) (δ : DSt) : Option PyData := (c δ).bind λ b => if b = true then f δ else g δ
theorem dB_some {f : DSt -> Option PyData} {δ : DSt} {b : Bool} (h : dB f δ = some b) : f δ = some (.bool b) := by
 obtain ⟨d, e, h⟩ := bind_some h
 cases d <;> simp at h
 subst h
 exact e
theorem st_test (a : SE K ta fa) : ST K (tTest ta) (dB fa) := λ H0 F0 F σ H δ b Q R e h =>
 a H0 F0 F σ H δ (.bool b) _ R (dB_some e) λ v H1 F1 g1 i1 => ⟨b, i1, h H1 F1 g1⟩
theorem isEmpty_len {α β : Type} {xs : List α} {ys : List β} (h : xs.length = ys.length) : (!xs.isEmpty) = !ys.isEmpty := by
 cases xs <;> cases ys <;> simp at h <;> rfl
theorem truV_of {F H : Hp} {v : V} {d : PyData} {b : Bool} (s : Same F H) (i : Is K F v d) (e : truD d = some b) : TruV K v H b := by
 cases d with
 | none => rw [show v = .non from i]; cases e; rfl
 | bool c => rw [show v = .bl c from i]; cases e; rfl
 | int c => rw [show v = .int c from i]; cases e; rfl
 | str c =>
  rw [show v = .str c from i]
  have e' : (if c.length <= LIM then some ((c.length : Int) != 0) else none) = some b := e
  split at e'
  · rename_i hl
    cases e'
    exact ⟨lim_line hl, rfl⟩
  · cases e'
 | list ds =>
  obtain ⟨a, xs, rfl, h1, h2⟩ := i
  cases e
  exact .inl ⟨xs, SqL.of (s _ _ h1), (isEmpty_len h2.length).symm⟩
 | tuple ds =>
  obtain ⟨a, xs, rfl, h1, h2⟩ := i
  cases e
  exact .inr (.inl ⟨xs, SqT.of (s _ _ h1), (isEmpty_len h2.length).symm⟩)
 | dict _ => cases e
theorem st_tru (a : SE K ta fa) : ST K (tTru K ta) (dTru fa) := λ H0 F0 F σ H δ b Q R e h => by
 obtain ⟨d, e1, e2⟩ := bind_some e
 exact a H0 F0 F σ H δ d _ R e1 λ v H1 F1 g1 i1 => ⟨b, truV_of g1.s i1 e2, h H1 F1 g1⟩
variable {t u : TT} {c c' : DSt -> Option Bool}
theorem st_not (a : ST K t c) : ST K (tNot t) (dNotT c) := λ H0 F0 F σ H δ b Q R e h => by
 obtain ⟨d, e1, e2⟩ := Q0.mp e
 subst e2
 exact a H0 F0 F σ H δ d _ R e1 λ H1 F1 g1 => h H1 F1 g1
theorem st_or (a : ST K t c) (b : ST K u c') : ST K (tOr t u) (dOrT c c') := λ H0 F0 F σ H δ b' Q R e h => by
 obtain ⟨d, e1, e2⟩ := bind_some e
 refine a H0 F0 F σ H δ d _ R e1 λ H1 F1 g1 => ?_
 cases d with
 | true => cases e2; exact iteT (h H1 F1 g1)
 | false => exact iteF (b H0 F0 F1 σ H1 δ b' _ (R.grow g1) e2 λ H2 F2 g2 => h H2 F2 (g1.trans g2))
theorem se_and (a : SE K ta fa) (b : SE K tb fb) : SE K (tAndV ta tb) (dAndV fa fb) := λ H0 F0 F σ H δ d Q R e h => by
 obtain ⟨b', e1, e2⟩ := bind_some e
 refine a H0 F0 F σ H δ _ _ R (dB_some e1) λ v H1 F1 g1 i1 => ⟨b', i1, ?_⟩
 cases b' with
 | true => exact iteT (b H0 F0 F1 σ H1 δ d _ (R.grow g1) e2 λ v2 H2 F2 g2 i2 => h v2 H2 F2 (g1.trans g2) i2)
 | false => cases e2; exact iteF (h _ H1 F1 g1 rfl)
theorem se_not (a : SE K ta fa) : SE K (tNotV ta) (dNotV fa) := λ H0 F0 F σ H δ d Q R e h => by
 obtain ⟨b', e1, e2⟩ := Q0.mp e
 subst e2
 exact a H0 F0 F σ H δ _ _ R (dB_some e1) λ v H1 F1 g1 i1 => ⟨b', i1, h _ H1 F1 g1 rfl⟩
theorem se_ifE (cc : ST K t c) (a : SE K ta fa) (b : SE K tb fb) : SE K (tIf t ta tb) (dIfE c fa fb) := λ H0 F0 F σ H δ d Q R e h => by
 obtain ⟨b', e1, e2⟩ := bind_some e
 refine cc H0 F0 F σ H δ b' _ R e1 λ H1 F1 g1 => ?_
 cases b' with
 | true => exact iteT (a H0 F0 F1 σ H1 δ d _ (R.grow g1) e2 λ v2 H2 F2 g2 i2 => h v2 H2 F2 (g1.trans g2) i2)
 | false => exact iteF (b H0 F0 F1 σ H1 δ d _ (R.grow g1) e2 λ v2 H2 F2 g2 i2 => h v2 H2 F2 (g1.trans g2) i2)
end
inductive DFlow where
 | nx (δ : DSt)
 | rt (d : PyData)
 | ro (ds : List PyData)
 | bk (δ : DSt)
 | ct (δ : DSt)
noncomputable def Lands (K : Fg) (H0 F0 F : Hp) (D : Ends) : DFlow -> Prop
 | .nx δ => ∀ F' σ H, Rep K H0 F0 F' σ H δ -> Same F F' -> D.nx σ H
 | .rt d => ∀ F' v H, Grow F0 H0 F' H -> Is K F' v d -> D.rt v H
 | .ro ds => ∀ F' a xs H, Grow F0 H0 F' H -> H0 a = none -> F' a = none -> H a = some (.lst xs) -> Are K F' xs ds -> D.rt (.ref a) H
 | .bk δ => ∀ F' σ H, Rep K H0 F0 F' σ H δ -> Same F F' -> D.bk σ H
 | .ct δ => ∀ F' σ H, Rep K H0 F0 F' σ H δ -> Same F F' -> D.ct σ H
theorem Lands.up {K : Fg} {H0 F0 F F1 : Hp} {D : Ends} (s : Same F F1) : ∀ {r : DFlow}, Lands K H0 F0 F D r -> Lands K H0 F0 F1 D r
 | .nx δ, h => λ F' σ H R q => h F' σ H R (s.trans q)
 | .rt d, h => h
 | .ro ds, h => h
 | .bk δ, h => λ F' σ H R q => h F' σ H R (s.trans q)
 | .ct δ, h => λ F' σ H R q => h F' σ H R (s.trans q)
def SS (K : Fg) (ts : TS) (f : DSt -> Option DFlow) : Prop := ∀ (H0 F0 F : Hp) (σ : St) (H : Hp) (δ : DSt) (r : DFlow) (D : Ends), Rep K H0 F0 F σ H δ -> f δ = some r -> Lands K H0 F0 F D r -> ts D σ H
noncomputable def dNext (δ : DSt) : Option DFlow := some (.nx δ)
noncomputable def dSeq (f g : DSt -> Option DFlow) (δ : DSt) : Option DFlow := (f δ).bind λ r => match r with
 | .nx δ' => g δ'
 | r => some r
noncomputable def dIf (c : DSt -> Option Bool) (f g : DSt -> Option DFlow) (δ : DSt) : Option DFlow := (c δ).bind λ b => if b = true then f δ else g δ
noncomputable def dSet (i : Nat) (f : DSt -> Option PyData) (δ : DSt) : Option DFlow := (f δ).map λ d => .nx (δ.set i (some (.fz d)))
noncomputable def dSetO (i : Nat) (f : DSt -> Option (List PyData)) (δ : DSt) : Option DFlow := (f δ).map λ ds => .nx (δ.set i (some (.ow ds)))
noncomputable def dAug (i : Nat) (g : PyData -> PyData -> Option PyData) (f : DSt -> Option PyData) (δ : DSt) : Option DFlow := (dVar i δ).bind λ x => (f δ).bind λ y => (g x y).map λ z => .nx (δ.set i (some (.fz z)))
noncomputable def dRet (f : DSt -> Option PyData) (δ : DSt) : Option DFlow := (f δ).map .rt
noncomputable def dRetO (i : Nat) (δ : DSt) : Option DFlow := match δ[i]? with
 | some (some (.ow ds)) => some (.ro ds)
 | _ => none
noncomputable def dDrop (f : DSt -> Option PyData) (δ : DSt) : Option DFlow := (f δ).map λ _ => .nx δ
noncomputable def dNever (_ : DSt) : Option DFlow := none
noncomputable def dFrz (i : Nat) (f : DSt -> Option DFlow) (δ : DSt) : Option DFlow := f (frz i δ)
noncomputable def dAppend (i : Nat) (f : DSt -> Option PyData) (δ : DSt) : Option DFlow := match δ[i]? with
 | some (some (.ow ds)) => (f δ).bind λ d => if ds.length < LIM then some (.nx (δ.set i (some (.ow (ds ++ [d]))))) else none
 | _ => none
noncomputable def dExtend (i : Nat) (f : DSt -> Option PyData) (δ : DSt) : Option DFlow := match δ[i]? with
 | some (some (.ow ds)) => (f δ).bind λ d => match d with
  | .list es => if ds.length + es.length <= LIM then some (.nx (δ.set i (some (.ow (ds ++ es))))) else none
  | _ => none
 | _ => none
noncomputable def intsD : List PyData -> Option (List Int)
 | [] => some []
 | .int n :: r => (intsD r).map (n :: ·)
 | _ :: _ => none
theorem intsD_some : ∀ {ds : List PyData} {ns : List Int}, intsD ds = some ns -> ds = ns.map PyData.int
 | [], ns, h => by cases h; rfl
 | .int n :: r, ns, h => by
  obtain ⟨ms, e1, e2⟩ := Q0.mp h
  subst e2
  rw [intsD_some e1]; rfl
 | .none :: r, ns, h => by cases h
 | .bool _ :: r, ns, h => by cases h
 | .str _ :: r, ns, h => by cases h
 | .list _ :: r, ns, h => by cases h
 | .tuple _ :: r, ns, h => by cases h
 | .dict _ :: r, ns, h => by cases h
theorem intsD_map : ∀ ns : List Int, intsD (ns.map PyData.int) = some ns
 | [] => rfl
 | n :: r => by
  show (intsD (r.map PyData.int)).map (n :: ·) = _
  rw [intsD_map r]; rfl
noncomputable def dRemove (i : Nat) (f : DSt -> Option PyData) (δ : DSt) : Option DFlow := match δ[i]? with
 | some (some (.ow ds)) => (f δ).bind λ d => match d with
  | .int n => (intsD ds).bind λ ns => if n ∈ ns then some (.nx (δ.set i (some (.ow ((ns.erase n).map PyData.int))))) else none
  | _ => none
 | _ => none
section
variable {K : Fg} {t u : TS} {f g : DSt -> Option DFlow} {te ta tb : TE} {fe fa fb : DSt -> Option PyData} {c : TT} {fc : DSt -> Option Bool}
theorem ss_next : SS K tNext dNext := λ H0 F0 F σ H δ r D R e h => by cases e; exact h F σ H R (Same.refl _)
theorem ss_seq (a : SS K t f) (b : SS K u g) : SS K (tSeq t u) (dSeq f g) := by
 intro H0 F0 F σ H δ r D R e h
 obtain ⟨r1, e1, e2⟩ := bind_some e
 refine a H0 F0 F σ H δ r1 { D with nx := u D } R e1 ?_
 cases r1 with
 | nx δ1 => exact λ F' σ' H' R' s' => b H0 F0 F' σ' H' δ1 r D R' e2 (h.up s')
 | rt d => cases e2; exact h
 | ro d => cases e2; exact h
 | bk d => cases e2; exact h
 | ct d => cases e2; exact h
theorem ss_if (cc : ST K c fc) (a : SS K t f) (b : SS K u g) : SS K (tIfS c t u) (dIf fc f g) := by
 intro H0 F0 F σ H δ r D R e h
 obtain ⟨b', e1, e2⟩ := bind_some e
 refine cc H0 F0 F σ H δ b' _ R e1 λ H1 F1 g1 => ?_
 cases b' with
 | true => exact iteT (a H0 F0 F1 σ H1 δ r D (R.grow g1) e2 (h.up g1.f))
 | false => exact iteF (b H0 F0 F1 σ H1 δ r D (R.grow g1) e2 (h.up g1.f))
theorem ss_set (i : Nat) (a : SE K te fe) : SS K (tAsg te (gName i)) (dSet i fe) := by
 intro H0 F0 F σ H δ r D R e h
 obtain ⟨d, e1, e2⟩ := Q0.mp e
 subst e2
 exact a H0 F0 F σ H δ d _ R e1 λ v H1 F1 g1 i1 => h F1 _ H1 ((R.grow g1).set i1) g1.f
theorem ss_setO (i : Nat) {fo : DSt -> Option (List PyData)} (a : SO K te fo) : SS K (tAsg te (gName i)) (dSetO i fo) := by
 intro H0 F0 F σ H δ r D R e h
 obtain ⟨d, e1, e2⟩ := Q0.mp e
 subst e2
 refine a H0 F0 F σ H δ d _ R e1 λ p xs H1 F1 g1 hn hf hp ar => h F1 _ H1 ((R.grow g1).setO hp hf (R.g.h.free hn) ar λ j es nj ej => ?_) g1.f
 obtain ⟨b, ys, q1, q2, _⟩ := R.ow j es ej
 rw [q1]
 intro z
 cases z
 rw [q2] at hn
 cases hn
theorem ss_aug (i : Nat) {r : R2} {gg : PyData -> PyData -> Option PyData} (o : OpD K r gg) (a : SE K te fe) : SS K (tAug i te r) (dAug i gg fe) := by
 intro H0 F0 F σ H δ r' D R e h
 obtain ⟨x, e1, e⟩ := bind_some e
 obtain ⟨y, e2, e⟩ := bind_some e
 obtain ⟨z, e3, e4⟩ := Q0.mp e
 subst e4
 unfold dVar at e1
 split at e1
 · rename_i d' q
   cases e1
   obtain ⟨v, hv, is⟩ := R.fz i x q
   refine ⟨v, hv, a H0 F0 F σ H δ y _ R e2 λ w H1 F1 g1 i1 => o F1 H1 v w x y z _ g1.s (is.same g1.f) i1 e3 λ v2 H2 F2 g2 i2 => ?_⟩
   exact h F2 _ H2 ((R.grow (g1.trans g2)).set i2) (g1.trans g2).f
 · cases e1
theorem ss_ret (a : SE K te fe) : SS K (tRet te) (dRet fe) := by
 intro H0 F0 F σ H δ r D R e h
 obtain ⟨d, e1, e2⟩ := Q0.mp e
 subst e2
 exact a H0 F0 F σ H δ d _ R e1 λ v H1 F1 g1 i1 => h F1 v H1 (R.g.trans g1) i1
theorem ss_drop (a : SE K te fe) : SS K (tDrop te) (dDrop fe) := by
 intro H0 F0 F σ H δ r D R e h
 obtain ⟨d, e1, e2⟩ := Q0.mp e
 subst e2
 exact a H0 F0 F σ H δ d _ R e1 λ v H1 F1 g1 i1 => h F1 σ H1 (R.grow g1) g1.f
theorem ss_never : SS K tNever dNever := λ H0 F0 F σ H δ r D R e h => by cases e
theorem ss_frz (i : Nat) (a : SS K t f) : SS K t (dFrz i f) := by
 intro H0 F0 F σ H δ r D R e h
 obtain ⟨F', s, R'⟩ := R.frz i
 exact a H0 F0 F' σ H _ r D R' e (h.up s)
theorem ss_append (i : Nat) (a : SE K te fe) : SS K (tDrop (tBM K "list" rAppend (tVar i) (tCons te tNil))) (dAppend i fe) := by
 intro H0 F0 F σ H δ r D R e h
 unfold dAppend at e
 split at e
 · rename_i ds q
   obtain ⟨d, e1, e2⟩ := bind_some e
   split at e2
   · rename_i hl
     cases e2
     obtain ⟨p, xs, q1, q2, q3, q4, q5⟩ := R.ow i ds q
     refine ⟨.ref p, q1, .inl ⟨rfl, xs, SqL.of q2⟩, a H0 F0 F σ H δ d _ R e1 λ v H1 F1 g1 i1 => ⟨p, xs, v, rfl, rfl, g1.h _ _ q2, ?_, ?_⟩⟩
     · rw [q5.length]; exact lim_lt (nLe hl)
     · exact h F1 σ _ ((R.grow g1).mut q q1 (g1.o _ _ q2 (λ _ z => nomatch z) q3) q4 ((q5.same g1.f).append (Are.one i1))) g1.f
   · cases e2
 · cases e
theorem ss_extend (i : Nat) (a : SE K te fe) : SS K (tDrop (tBM K "list" rExtend (tVar i) (tCons te tNil))) (dExtend i fe) := by
 intro H0 F0 F σ H δ r D R e h
 unfold dExtend at e
 split at e
 · rename_i ds q
   obtain ⟨d, e1, e2⟩ := bind_some e
   split at e2
   · rename_i es
     split at e2
     · rename_i hl
       cases e2
       obtain ⟨p, xs, q1, q2, q3, q4, q5⟩ := R.ow i ds q
       refine ⟨.ref p, q1, .inl ⟨rfl, xs, SqL.of q2⟩, a H0 F0 F σ H δ _ _ R e1 λ v H1 F1 g1 i1 => ?_⟩
       obtain ⟨b, zs, rfl, hb, ab⟩ := i1
       refine ⟨p, b, xs, zs, rfl, rfl, g1.h _ _ q2, g1.s _ _ hb, ?_, ?_⟩
       · rw [q5.length, ab.length]; exact lim_line hl
       · exact h F1 σ _ ((R.grow g1).mut q q1 (g1.o _ _ q2 (λ _ z => nomatch z) q3) q4 ((q5.same g1.f).append ab)) g1.f
     · cases e2
   · cases e2
 · cases e
theorem ss_remove (i : Nat) (a : SE K te fe) : SS K (tDrop (tBM K "list" rRemove (tVar i) (tCons te tNil))) (dRemove i fe) := by
 intro H0 F0 F σ H δ r D R e h
 unfold dRemove at e
 split at e
 · rename_i ds q
   obtain ⟨d, e1, e2⟩ := bind_some e
   split at e2
   · rename_i n
     obtain ⟨ns, e3, e4⟩ := bind_some e2
     split at e4
     · rename_i hm
       cases e4
       obtain ⟨p, xs, q1, q2, q3, q4, q5⟩ := R.ow i ds q
       have ed := intsD_some e3
       subst ed
       have ex := Are.ints.mp q5
       subst ex
       refine ⟨.ref p, q1, .inl ⟨rfl, _, SqL.of q2⟩, a H0 F0 F σ H δ _ _ R e1 λ v H1 F1 g1 i1 => ?_⟩
       refine ⟨p, ns, n, rfl, by rw [show v = .int n from i1], g1.h _ _ q2, hm, ?_⟩
       exact h F1 σ _ ((R.grow g1).mut q q1 (g1.o _ _ q2 (λ _ z => nomatch z) q3) q4 (Are.ints.mpr rfl)) g1.f
     · cases e4
   · cases e2
 · cases e
end
structure IterD (K : Fg) (F : Hp) (J : It) (ds : List PyData) : Prop where
 go : ∀ (i : Nat) (F2 H2 : Hp), i < ds.length -> Same F F2 -> Same F2 H2 -> J.go i H2
 stop : ∀ F2 H2 : Hp, Same F F2 -> Same F2 H2 -> J.stop ds.length H2
 yld : ∀ (i : Nat) (d : PyData) (F2 H2 : Hp) (x : V) (H3 : Hp), ds[i]? = some d -> Same F F2 -> Same F2 H2 -> J.yld i H2 x H3 -> ∃ F3, Grow F2 H2 F3 H3 /\ Is K F3 x d
def SI (K : Fg) (wi : TI) (fi : DSt -> Option (List PyData)) : Prop := ∀ (H0 F0 F : Hp) (σ : St) (H : Hp) (δ : DSt) (ds : List PyData) (R : It -> Hp -> Prop), Rep K H0 F0 F σ H δ -> fi δ = some ds ->
 (∀ J H' F', Grow F H F' H' -> IterD K F' J ds -> R J H') -> wi σ H R
def SG (K : Fg) (g : TG) (fg : PyData -> DSt -> Option DSt) : Prop := ∀ (H0 F0 F : Hp) (σ : St) (H : Hp) (δ δ' : DSt) (v : V) (d : PyData) (Q : St -> Hp -> Prop), Rep K H0 F0 F σ H δ -> Is K F v d -> fg d δ = some δ' ->
 (∀ σ', Rep K H0 F0 F σ' H δ' -> Q σ' H) -> g v σ H Q
def SGs (K : Fg) (g : TGs) (fg : List PyData -> DSt -> Option DSt) : Prop := ∀ (H0 F0 F : Hp) (σ : St) (H : Hp) (δ δ' : DSt) (vs : List V) (ds : List PyData) (Q : St -> Hp -> Prop), Rep K H0 F0 F σ H δ -> Are K F vs ds -> fg ds δ = some δ' ->
 (∀ σ', Rep K H0 F0 F σ' H δ' -> Q σ' H) -> g vs σ H Q
noncomputable def gN (i : Nat) (d : PyData) (δ : DSt) : Option DSt := some (δ.set i (some (.fz d)))
noncomputable def gT (n : Nat) (fg : List PyData -> DSt -> Option DSt) (d : PyData) (δ : DSt) : Option DSt := match d with
 | .tuple ds => if ds.length = n then fg ds δ else none
 | _ => none
noncomputable def gZ (ds : List PyData) (δ : DSt) : Option DSt := match ds with
 | [] => some δ
 | _ :: _ => none
noncomputable def gC (f : PyData -> DSt -> Option DSt) (g : List PyData -> DSt -> Option DSt) (ds : List PyData) (δ : DSt) : Option DSt := match ds with
 | [] => none
 | d :: r => (f d δ).bind (g r)
section
variable {K : Fg}
theorem sg_name (i : Nat) : SG K (gName i) (gN i) := λ H0 F0 F σ H δ δ' v d Q R h e k => by cases e; exact k _ (R.set h)
theorem sgs_nil : SGs K gNil gZ := λ H0 F0 F σ H δ δ' vs ds Q R h e k => by
 cases ds with
 | nil => cases e; exact ⟨h, k σ R⟩
 | cons _ _ => cases e
theorem sgs_cons {t : TG} {u : TGs} {f : PyData -> DSt -> Option DSt} {g : List PyData -> DSt -> Option DSt} (a : SG K t f) (b : SGs K u g) : SGs K (gCons t u) (gC f g) := λ H0 F0 F σ H δ δ' vs ds Q R h e k => by
 cases ds with
 | nil => cases e
 | cons d r =>
  obtain ⟨v, vr, rfl, i1, i2⟩ := h
  obtain ⟨δ1, e1, e2⟩ := bind_some e
  exact ⟨v, vr, rfl, a H0 F0 F σ H δ δ1 v d _ R i1 e1 λ σ1 R1 => b H0 F0 F σ1 H δ1 δ' vr r Q R1 i2 e2 k⟩
theorem sg_tup {n : Nat} {t : TGs} {g : List PyData -> DSt -> Option DSt} (b : SGs K t g) : SG K (gTup K n t) (gT n g) := λ H0 F0 F σ H δ δ' v d Q R h e k => by
 unfold gT at e
 split at e
 · rename_i ds
   split at e
   · rename_i hl
     obtain ⟨a, xs, rfl, q, ar⟩ := h
     exact ⟨a, xs, rfl, SqT.of (R.g.s _ _ q), by rw [ar.length, hl], b H0 F0 F σ H δ δ' xs ds Q R ar e k⟩
   · cases e
 · cases e
noncomputable def iterD : PyData -> Option (List PyData)
 | .list ds => some ds
 | .tuple ds => some ds
 | .dict [(.none, .list ds)] => some ds
 | _ => none
noncomputable def smallI (i : Int) : Bool := decide (-1000000000 <= i) && decide (i <= 1000000000)
noncomputable def rangeD (lo : Int) (n : Nat) : List PyData := (List.range n).map λ k : Nat => PyData.int (lo + (k : Int))
noncomputable def dRng1 (fs : DSt -> Option (List PyData)) (δ : DSt) : Option (List PyData) := (fs δ).bind λ ds => match ds with
 | [.int j] => if smallI j = true then some (rangeD 0 j.toNat) else none
 | _ => none
noncomputable def dRng2 (fs : DSt -> Option (List PyData)) (δ : DSt) : Option (List PyData) := (fs δ).bind λ ds => match ds with
 | [.int i, .int j] => if (smallI i && smallI j) = true then some (rangeD i (j - i).toNat) else none
 | _ => none
theorem iter_rng (F : Hp) (lo : Int) (n : Nat) : IterD K F (Itr lo n) (rangeD lo n) where
 go := λ i F2 H2 h _ _ => by
  have : i < n := by simpa [rangeD] using h
  exact this
 stop := λ F2 H2 _ _ => by show n <= (rangeD lo n).length; simp [rangeD]
 yld := λ i d F2 H2 x H3 e _ s2 y => by
  obtain ⟨y1, y2⟩ := y
  subst y1 y2
  refine ⟨F2, Grow.refl s2, ?_⟩
  unfold rangeD at e
  rw [zK] at e
  obtain ⟨k, e1, e2⟩ := Q0.mp e
  have hi := lt_of_get e1
  rw [gEq hi] at e1
  have : k = i := by simpa using e1.symm
  subst this
  subst e2
  rfl
theorem si_rng1 {ta : TA} {fs : DSt -> Option (List PyData)} (a : SA K ta fs) : SI K (iRng1 ta) (dRng1 fs) := λ H0 F0 F σ H δ ds R RR e k => by
 obtain ⟨es, e1, e2⟩ := bind_some e
 split at e2
 · rename_i j
   split at e2
   · rename_i hs
     cases e2
     unfold smallI at hs
     rw [Q2, decide_eq_true_eq, decide_eq_true_eq] at hs
     refine a H0 F0 F σ H δ _ _ RR e1 λ vs H1 F1 g1 ar => ?_
     obtain ⟨x, r, rfl, hx, hr⟩ := ar
     rw [show r = [] from hr, show x = .int j from hx]
     exact ⟨j, rfl, by omega, by omega, k _ H1 F1 g1 (iter_rng F1 0 j.toNat)⟩
   · cases e2
 · cases e2
theorem si_rng2 {ta : TA} {fs : DSt -> Option (List PyData)} (a : SA K ta fs) : SI K (iRng2 ta) (dRng2 fs) := λ H0 F0 F σ H δ ds R RR e k => by
 obtain ⟨es, e1, e2⟩ := bind_some e
 split at e2
 · rename_i i j
   split at e2
   · rename_i hs
     cases e2
     unfold smallI at hs
     simp only [Q2, decide_eq_true_eq] at hs
     refine a H0 F0 F σ H δ _ _ RR e1 λ vs H1 F1 g1 ar => ?_
     obtain ⟨x, r, rfl, hx, y, r', rfl, hy, hr⟩ := ar
     rw [show r' = [] from hr, show x = .int i from hx, show y = .int j from hy]
     exact ⟨i, j, rfl, ⟨by omega, by omega, by omega, by omega⟩, k _ H1 F1 g1 (iter_rng F1 i (j - i).toNat)⟩
   · cases e2
 · cases e2
end
def iSeq (K : Fg) (tl : TE) : TI := λ σ H R => tl σ H λ x H1 => ∃ a, x = .ref a /\ (((∃ xs, SqL K H1 a xs) /\ R (Itl K a) H1) \/ ((∃ xs, SqT K H1 a xs) /\ R (Itt K a) H1))
section
variable {X : Cx} {tg : Expr}
theorem pi_seq {l : Expr} {tl : TE} (hl : PE X l tl) : PI X tg l (iSeq X.K tl) := by
 intro pins s σ H R I h
 refine thn (hl pins s σ H _ I h) λ v s1 ⟨x, H1, I1, r1, q1⟩ => ?_
 obtain ⟨a, e, q⟩ := q1
 subst e
 cases r1
 rcases q with ⟨⟨xs, hq⟩, q⟩ | ⟨⟨xs, hq⟩, q⟩
 · obtain ⟨its, rv, p, hz⟩ := I1.list hq
   refine wpAny_pyIter_list p.isList ?_
   refine ⟨s1.heap.objs.size, [s1.heap.objs.size], _, _, H1, rfl, I1.kept (t' := s1.toks) λ b o e => hPo _ e, turn_list a _, ⟨_, hPs _ rfl, rfl, rfl⟩, λ b hb => ?_, q⟩
   have e : b = s1.heap.objs.size := by simpa using hb
   subst e
   exact I1.fpOk (Q1 _) (I1.hok.fresh (Q1 _))
 · obtain ⟨its, rv, p, hz⟩ := I1.tuple hq
   refine wpAny_pyIter_tuple (show s1.heap.IsTuple a its.toArray from p) ?_
   refine ⟨s1.heap.objs.size, [s1.heap.objs.size], _, _, H1, rfl, I1.kept (t' := s1.toks) λ b o e => hPo _ e, turn_tuple a _, ⟨_, hPs _ rfl, rfl, rfl⟩, λ b hb => ?_, q⟩
   have e : b = s1.heap.objs.size := by simpa using hb
   subst e
   exact I1.fpOk (Q1 _) (I1.hok.fresh (Q1 _))
theorem kx_seq {l : Expr} {tl : TE} (K : Fg) (hl : PE X l tl) (h : X.K = K := by rfl) : PI X tg l (iSeq K tl) := h ▸ pi_seq hl
def iEn (K : Fg) (ta : TA) : TI := λ σ H R => ta σ H λ vs H1 => ∃ a, vs = [.ref a] /\ (((∃ xs, SqT K H1 a xs) /\ R (Ite λ H xs => SqT K H a xs) H1) \/ ((∃ xs, SqL K H1 a xs) /\ R (Ite λ H xs => SqL K H a xs) H1))
theorem pi_en {es : List Expr} {k1 : Nat} {tp : Pos} {a : Expr} {ta : TA} {p pos : Pos} (hg : Gl X "enumerate") (hm : X.mg "enumerate" = none) (ha : PA X [a] ta) (hs : starEach [a] X.env = [(false, eval a X.env)] := by rfl) : PI X (.Tuple es k1 tp) (.Call (.Name "enumerate" p) [a] [] pos) (iEn X.K ta) := by
 intro pins s σ H R I h
 refine Call_ (ld_blt I hg hm boot_enumerate (PyProof.Rows.callWith_type1 (thn (ha pos pins s σ H _ I h) λ us s1 ⟨vs, H1, I1, r1, q1⟩ => ?_) hs rfl))
 obtain ⟨b, e, q1⟩ := q1
 subst e
 cases r1 with
 | cons r rr =>
  cases rr
  cases r
  rcases q1 with ⟨⟨xs, hq⟩, q⟩ | ⟨⟨xs, hq⟩, q⟩
  · obtain ⟨its, rv, pt, hz⟩ := I1.tuple hq
    refine call_enT (show s1.heap.IsTuple b its.toArray from pt) λ h' he hi hz' hk => ?_
    refine wpAny_pyIter_enum he ⟨_, [_, _], _, _, H1, rfl, I1.kept (t' := s1.toks) hk, turn_enum (srcT b s1.heap.objs.size), ⟨⟨_, he⟩, hi⟩, λ c hc => ?_, q⟩
    have hc' : c = s1.heap.objs.size + 1 \/ c = s1.heap.objs.size := by simpa using hc
    have hle : s1.heap.objs.size <= c := by rcases hc' with z | z <;> rw [z]; exact Nat.le_succ _; exact Q1 _
    exact I1.fpOk hle (I1.hok.fresh hle)
  · obtain ⟨its, rv, pt, hz⟩ := I1.list hq
    refine call_enumerate_list pt.isList λ h' he hi hz' hk => ?_
    refine wpAny_pyIter_enum he ⟨_, [_, _], _, _, H1, rfl, I1.kept (t' := s1.toks) hk, turn_enum (srcL b s1.heap.objs.size), ⟨⟨_, he⟩, hi⟩, λ c hc => ?_, q⟩
    have hc' : c = s1.heap.objs.size + 1 \/ c = s1.heap.objs.size := by simpa using hc
    have hle : s1.heap.objs.size <= c := by rcases hc' with z | z <;> rw [z]; exact Nat.le_succ _; exact Q1 _
    exact I1.fpOk hle (I1.hok.fresh hle)
theorem kx_en {es : List Expr} {k1 : Nat} {tp : Pos} {a : Expr} {ta : TA} {p pos : Pos} (K : Fg) (hm : X.mg "enumerate" = none) (ha : PA X [a] ta) (h : X.K = K := by rfl) (hg : Gl X "enumerate" := by rfl) (hs : starEach [a] X.env = [(false, eval a X.env)] := by rfl) :
 PI X (.Tuple es k1 tp) (.Call (.Name "enumerate" p) [a] [] pos) (iEn K ta) := h ▸ pi_en hg hm ha hs
end
section
variable {K : Fg}
theorem iter_lst {F : Hp} {a : Addr} {xs : List V} {ds : List PyData} (h : F a = some (.lst xs)) (ar : Are K F xs ds) : IterD K F (Itl K a) ds where
 go := λ i F2 H2 hi s1 s2 => by
  obtain ⟨x, e, _⟩ := ar.get (gEq hi)
  exact ⟨xs, x, SqL.of (s2 _ _ (s1 _ _ h)), e⟩
 stop := λ F2 H2 s1 s2 => ⟨xs, SqL.of (s2 _ _ (s1 _ _ h)), Nat.le_of_eq ar.length⟩
 yld := λ i d F2 H2 x H3 e s1 s2 y => by
  obtain ⟨rfl, y⟩ := y
  have q := y xs (SqL.of (s2 _ _ (s1 _ _ h)))
  obtain ⟨x', e', i'⟩ := ar.get e
  rw [q] at e'
  cases e'
  exact ⟨F2, Grow.refl s2, i'.same s1⟩
theorem iter_tup {F : Hp} {a : Addr} {xs : List V} {ds : List PyData} (h : F a = some (.tup xs)) (ar : Are K F xs ds) : IterD K F (Itt K a) ds where
 go := λ i F2 H2 hi s1 s2 => by
  obtain ⟨x, e, _⟩ := ar.get (gEq hi)
  exact ⟨xs, x, SqT.of (s2 _ _ (s1 _ _ h)), e⟩
 stop := λ F2 H2 s1 s2 => ⟨xs, SqT.of (s2 _ _ (s1 _ _ h)), Nat.le_of_eq ar.length⟩
 yld := λ i d F2 H2 x H3 e s1 s2 y => by
  obtain ⟨rfl, y⟩ := y
  have q := y xs (SqT.of (s2 _ _ (s1 _ _ h)))
  obtain ⟨x', e', i'⟩ := ar.get e
  rw [q] at e'
  cases e'
  exact ⟨F2, Grow.refl s2, i'.same s1⟩
noncomputable def seqD : PyData -> Option (List PyData)
 | .list ds => some ds
 | .tuple ds => some ds
 | _ => none
noncomputable def dIter (f : DSt -> Option PyData) (δ : DSt) : Option (List PyData) := (f δ).bind seqD
theorem si_seq {tl : TE} {f : DSt -> Option PyData} (a : SE K tl f) : SI K (iSeq K tl) (dIter f) := λ H0 F0 F σ H δ ds R RR e k => by
 obtain ⟨d, e1, e2⟩ := bind_some e
 refine a H0 F0 F σ H δ d _ RR e1 λ v H1 F1 g1 is => ?_
 cases d with
 | list es =>
  cases e2
  obtain ⟨p, xs, rfl, q, ar⟩ := is
  exact ⟨p, rfl, .inl ⟨⟨xs, SqL.of (g1.s _ _ q)⟩, k _ H1 F1 g1 (iter_lst q ar)⟩⟩
 | tuple es =>
  cases e2
  obtain ⟨p, xs, rfl, q, ar⟩ := is
  exact ⟨p, rfl, .inr ⟨⟨xs, SqT.of (g1.s _ _ q)⟩, k _ H1 F1 g1 (iter_tup q ar)⟩⟩
 | _ => cases e2
noncomputable def enumD (ds : List PyData) : List PyData := ds.zipIdx.map λ p => PyData.tuple [.int (p.2 : Nat), p.1]
theorem enumD_get {ds : List PyData} {i : Nat} {d : PyData} (h : (enumD ds)[i]? = some d) : ∃ e, ds[i]? = some e /\ d = .tuple [.int (i : Nat), e] := by
 unfold enumD at h
 rw [zK, List.getElem?_zipIdx] at h
 obtain ⟨p, h1, h2⟩ := Q0.mp h
 obtain ⟨e, h3, h4⟩ := Q0.mp h1
 subst h4
 subst h2
 exact ⟨e, h3, by simp⟩
theorem enumD_len (ds : List PyData) : (enumD ds).length = ds.length := by simp [enumD]
theorem iter_en {F : Hp} {S : Hp -> List V -> Prop} {xs : List V} {ds : List PyData} (h : ∀ F2 H2, Same F F2 -> Same F2 H2 -> S H2 xs) (ar : Are K F xs ds) : IterD K F (Ite S) (enumD ds) where
 go := λ i F2 H2 hi s1 s2 => by
  rw [enumD_len] at hi
  obtain ⟨x, e, _⟩ := ar.get (gEq hi)
  exact ⟨xs, x, h F2 H2 s1 s2, e⟩
 stop := λ F2 H2 s1 s2 => ⟨xs, h F2 H2 s1 s2, by rw [enumD_len]; exact ar.length⟩
 yld := λ i d F2 H2 x H3 e s1 s2 y => by
  obtain ⟨p, v, hp, rfl, rfl, y⟩ := y
  have q := y xs (h F2 H2 s1 s2)
  obtain ⟨d', h1, rfl⟩ := enumD_get e
  obtain ⟨x', e', i'⟩ := ar.get h1
  rw [q] at e'
  cases e'
  exact ⟨_, Grow.new s2 hp, p, _, rfl, upd_same, .int (i : Nat), [v], rfl, rfl, v, [], rfl, (i'.same s1).same (same_new (s2.free hp) _), rfl⟩
noncomputable def dEn (fs : DSt -> Option (List PyData)) (δ : DSt) : Option (List PyData) := (fs δ).bind λ ds => match ds with
 | [d] => (seqD d).map enumD
 | _ => none
theorem si_en {ta : TA} {fs : DSt -> Option (List PyData)} (a : SA K ta fs) : SI K (iEn K ta) (dEn fs) := λ H0 F0 F σ H δ ds R RR e k => by
 obtain ⟨es, e1, e2⟩ := bind_some e
 split at e2
 · rename_i d
   obtain ⟨us, e3, e4⟩ := Q0.mp e2
   subst e4
   refine a H0 F0 F σ H δ _ _ RR e1 λ vs H1 F1 g1 ar => ?_
   obtain ⟨x, r, rfl, hx, hr⟩ := ar
   rw [show r = [] from hr]
   cases d with
   | list es =>
    cases e3
    obtain ⟨p, xs, rfl, q, ar⟩ := hx
    exact ⟨p, rfl, .inr ⟨⟨xs, SqL.of (g1.s _ _ q)⟩, k _ H1 F1 g1 (iter_en (λ F2 H2 s1 s2 => SqL.of (s2 _ _ (s1 _ _ q))) ar)⟩⟩
   | tuple es =>
    cases e3
    obtain ⟨p, xs, rfl, q, ar⟩ := hx
    exact ⟨p, rfl, .inl ⟨⟨xs, SqT.of (g1.s _ _ q)⟩, k _ H1 F1 g1 (iter_en (λ F2 H2 s1 s2 => SqT.of (s2 _ _ (s1 _ _ q))) ar)⟩⟩
   | _ => cases e3
 · cases e2
noncomputable def zipD (ds es : List PyData) : List PyData := (ds.zip es).map λ p => PyData.tuple [p.1, p.2]
theorem zipD_get {ds es : List PyData} {i : Nat} {d : PyData} (h : (zipD ds es)[i]? = some d) : ∃ x y, ds[i]? = some x /\ es[i]? = some y /\ d = .tuple [x, y] := by
 unfold zipD at h
 rw [zK] at h
 obtain ⟨p, h1, h2⟩ := Q0.mp h
 obtain ⟨h3, h4⟩ := List.getElem?_zip_eq_some.mp h1
 exact ⟨p.1, p.2, h3, h4, h2.symm⟩
theorem zipD_len {ds es : List PyData} (h : ds.length = es.length) : (zipD ds es).length = ds.length := by simp [zipD, h]
theorem iter_zip {F : Hp} {S1 S2 : Hp -> List V -> Prop} {xs ys : List V} {ds es : List PyData} (h1 : ∀ F2 H2, Same F F2 -> Same F2 H2 -> S1 H2 xs) (h2 : ∀ F2 H2, Same F F2 -> Same F2 H2 -> S2 H2 ys) (a1 : Are K F xs ds) (a2 : Are K F ys es) (hl : ds.length = es.length) : IterD K F (Itz S1 S2) (zipD ds es) where
 go := λ i F2 H2 hi s1 s2 => by
  rw [zipD_len hl] at hi
  obtain ⟨x, e, _⟩ := a1.get (gEq hi)
  obtain ⟨y, e', _⟩ := a2.get (gEq (by omega : i < es.length))
  exact ⟨xs, ys, x, y, h1 F2 H2 s1 s2, h2 F2 H2 s1 s2, e, e'⟩
 stop := λ F2 H2 s1 s2 => ⟨xs, h1 F2 H2 s1 s2, by rw [zipD_len hl]; exact a1.length⟩
 yld := λ i d F2 H2 x H3 e s1 s2 y => by
  obtain ⟨p, v, u, hp, rfl, rfl, y1, y2⟩ := y
  have q1 := y1 xs (h1 F2 H2 s1 s2)
  have q2 := y2 ys (h2 F2 H2 s1 s2)
  obtain ⟨d1, d2, e1, e2, rfl⟩ := zipD_get e
  obtain ⟨x1, f1, i1⟩ := a1.get e1
  obtain ⟨x2, f2, i2⟩ := a2.get e2
  rw [q1] at f1
  rw [q2] at f2
  cases f1
  cases f2
  have sn : Same F2 (upd F2 p (.tup [v, u])) := same_new (s2.free hp) _
  exact ⟨_, Grow.new s2 hp, p, _, rfl, upd_same, v, [u], rfl, (i1.same s1).same sn, u, [], rfl, (i2.same s1).same sn, rfl⟩
noncomputable def dZip (fs : DSt -> Option (List PyData)) (δ : DSt) : Option (List PyData) := (fs δ).bind λ ds => match ds with
 | [.tuple xs, .tuple ys] => if xs.length = ys.length then some (zipD xs ys) else none
 | _ => none
theorem si_zip {ta : TA} {fs : DSt -> Option (List PyData)} (a : SA K ta fs) : SI K (iZipT K ta) (dZip fs) := λ H0 F0 F σ H δ ds R RR e k => by
 obtain ⟨es, e1, e2⟩ := bind_some e
 split at e2
 · rename_i d1 d2
   split at e2
   · rename_i hl
     cases e2
     refine a H0 F0 F σ H δ _ _ RR e1 λ vs H1 F1 g1 ar => ?_
     obtain ⟨x, r, rfl, hx, y, r', rfl, hy, hr⟩ := ar
     rw [show r' = [] from hr]
     obtain ⟨p, xs, rfl, q, ar⟩ := hx
     obtain ⟨p', ys, rfl, q', ar'⟩ := hy
     exact ⟨p, p', rfl, ⟨xs, SqT.of (g1.s _ _ q)⟩, ⟨ys, SqT.of (g1.s _ _ q')⟩, k _ H1 F1 g1 (iter_zip (λ F2 H2 s1 s2 => SqT.of (s2 _ _ (s1 _ _ q))) (λ F2 H2 s1 s2 => SqT.of (s2 _ _ (s1 _ _ q'))) ar ar' hl)⟩
   · cases e2
 · cases e2
end
noncomputable def loopD (fg : PyData -> DSt -> Option DSt) (fb : DSt -> Option DFlow) : List PyData -> DSt -> Option DFlow
 | [], δ => some (.nx δ)
 | d :: r, δ => (fg d δ).bind λ δ1 => (fb δ1).bind λ fl => match fl with
  | .nx δ2 => loopD fg fb r δ2
  | .ct δ2 => loopD fg fb r δ2
  | .bk δ2 => some (.nx δ2)
  | .rt v => some (.rt v)
  | .ro v => some (.ro v)
noncomputable def dFor (fi : DSt -> Option (List PyData)) (fg : PyData -> DSt -> Option DSt) (fb : DSt -> Option DFlow) (δ : DSt) : Option DFlow := (fi δ).bind λ ds => loopD fg fb ds δ
noncomputable def whileD (c : DSt -> Option Bool) (fb : DSt -> Option DFlow) : Nat -> DSt -> Option DFlow
 | 0, _ => none
 | n + 1, δ => (c δ).bind λ b => if b = true then (fb δ).bind λ fl => match fl with
  | .nx δ2 => whileD c fb n δ2
  | .ct δ2 => whileD c fb n δ2
  | .bk δ2 => some (.nx δ2)
  | .rt v => some (.rt v)
  | .ro v => some (.ro v) else some (.nx δ)
section
variable {K : Fg}
theorem ss_for {wi : TI} {g : TG} {tb : TS} {fi : DSt -> Option (List PyData)} {fg : PyData -> DSt -> Option DSt} {fb : DSt -> Option DFlow} (hi : SI K wi fi) (hg : SG K g fg) (hb : SS K tb fb) : SS K (tFor wi g tb) (dFor fi fg fb) := by
 intro H0 F0 F σ H δ r D R e h
 obtain ⟨ds, e1, e2⟩ := bind_some e
 refine hi H0 F0 F σ H δ ds _ R e1 λ J H1 F1 g1 it => ?_
 refine ⟨λ i m σ H => m = ds.length - i /\ i <= ds.length /\ ∃ F' δ', Rep K H0 F0 F' σ H δ' /\ Same F1 F' /\ loopD fg fb (ds.drop i) δ' = some r, ⟨ds.length, by simp, zU _, F1, δ, R.grow g1, Same.refl _, e2⟩, ?_⟩
 rintro i m σ' H' ⟨rfl, hle, F', δ', R', s', e'⟩
 by_cases hlt : i < ds.length
 · refine .inr ⟨it.go i F' H' hlt s' R'.g.s, λ σ H => i + 1 <= ds.length /\ ∃ F' δ', Rep K H0 F0 F' σ H δ' /\ Same F1 F' /\ loopD fg fb (ds.drop (i + 1)) δ' = some r, λ σ2 H2 q => ⟨ds.length - (i + 1), by omega, rfl, q⟩, λ x H2 y => ?_⟩
   have hd : ds[i]? = some ds[i] := gEq hlt
   obtain ⟨F2, g2, is⟩ := it.yld i _ F' H' x H2 hd s' R'.g.s y
   rw [Q27 hlt] at e'
   obtain ⟨δ1, q1, q2⟩ := bind_some e'
   obtain ⟨fl, q3, q4⟩ := bind_some q2
   refine hg H0 F0 F2 σ' H2 δ' δ1 x ds[i] _ (R'.grow g2) is q1 λ σ3 R3 => ?_
   refine hb H0 F0 F2 σ3 H2 δ1 fl _ R3 q3 ?_
   have up : Same F1 F2 := s'.trans g2.f
   cases fl with
   | nx δ2 => exact λ F3 σ4 H4 R4 s4 => ⟨hlt, F3, δ2, R4, up.trans s4, q4⟩
   | ct δ2 => exact λ F3 σ4 H4 R4 s4 => ⟨hlt, F3, δ2, R4, up.trans s4, q4⟩
   | bk δ2 =>
    cases q4
    exact λ F3 σ4 H4 R4 s4 => h F3 σ4 H4 R4 (g1.f.trans (up.trans s4))
   | rt d => cases q4; exact h
   | ro d => cases q4; exact h
 · have e3 : i = ds.length := by omega
   subst e3
   rw [List.drop_length] at e'
   cases e'
   exact .inl ⟨it.stop F' H' s' R'.g.s, h F' σ' H' R' (g1.f.trans s')⟩
theorem ss_while {c : TT} {tb : TS} {fc : DSt -> Option Bool} {fb : DSt -> Option DFlow} (n : Nat) (hc : ST K c fc) (hb : SS K tb fb) : SS K (tWhile c tb) (whileD fc fb n) := by
 intro H0 F0 F σ H δ r D R e h
 refine ⟨λ m σ H => ∃ F' δ', Rep K H0 F0 F' σ H δ' /\ Same F F' /\ whileD fc fb m δ' = some r, ⟨n, F, δ, R, Same.refl _, e⟩, ?_⟩
 rintro m σ' H' ⟨F', δ', R', s', e'⟩
 cases m with
 | zero => cases e'
 | succ m =>
  obtain ⟨b, q1, q2⟩ := bind_some e'
  refine hc H0 F0 F' σ' H' δ' b _ R' q1 λ H1 F1 g1 => ?_
  cases b with
  | false =>
   cases q2
   exact iteF (h F1 σ' H1 (R'.grow g1) (s'.trans g1.f))
  | true =>
   obtain ⟨fl, q3, q4⟩ := bind_some q2
   refine iteT ⟨λ σ H => ∃ F' δ', Rep K H0 F0 F' σ H δ' /\ Same F F' /\ whileD fc fb m δ' = some r, λ σ2 H2 q => ⟨m, Q23 _, q⟩, ?_⟩
   refine hb H0 F0 F1 σ' H1 δ' fl _ (R'.grow g1) q3 ?_
   have up : Same F F1 := s'.trans g1.f
   cases fl with
   | nx δ2 => exact λ F3 σ4 H4 R4 s4 => ⟨F3, δ2, R4, up.trans s4, q4⟩
   | ct δ2 => exact λ F3 σ4 H4 R4 s4 => ⟨F3, δ2, R4, up.trans s4, q4⟩
   | bk δ2 =>
    cases q4
    exact λ F3 σ4 H4 R4 s4 => h F3 σ4 H4 R4 (up.trans s4)
   | rt d => cases q4; exact h
   | ro d => cases q4; exact h
end
noncomputable def st0D (n : Nat) (fr : List (Str × Nat)) (δ : DSt) : DSt := List.replicate n none ++ fr.map λ p => match δ[p.2]? with
 | some (some (.fz d)) => some (.fz d)
 | _ => none
noncomputable def mapM' (f : PyData -> Option (Option PyData)) : List PyData -> Option (List PyData)
 | [] => some []
 | d :: r => (f d).bind λ o => match o with
  | some y => (mapM' f r).map (y :: ·)
  | none => mapM' f r
noncomputable def dYes (_ : DSt) : Option Bool := some true
noncomputable def dCompO (n : Nat) (fr : List (Str × Nat)) (fi : DSt -> Option (List PyData)) (fg : PyData -> DSt -> Option DSt) (fc : DSt -> Option Bool) (fe : DSt -> Option PyData) (δ : DSt) : Option (List PyData) :=
 (fi δ).bind λ ds => if ds.length <= LIM then mapM' (λ d => (fg d (st0D n fr δ)).bind λ δ1 => (fc δ1).bind λ b => if b = true then (fe δ1).map some else some none) ds else none
def Low (n : Nat) (fg : PyData -> DSt -> Option DSt) : Prop := ∀ d δ δ1, fg d δ = some δ1 -> δ1.length = δ.length /\ ∀ i, n <= i -> δ1[i]? = δ[i]?
theorem low_name {n i : Nat} (h : i < n := by decide) : Low n (gN i) := λ d δ δ1 e => by
 cases e
 exact ⟨Q10 .., λ j hj => set_get_ne (by omega)⟩
section
variable {K : Fg}
theorem rep0 {H0 F0 F : Hp} {σ : St} {H : Hp} {δ : DSt} (R : Rep K H0 F0 F σ H δ) (n : Nat) (fr : List (Str × Nat)) (H' : Hp) (F1 : Hp) (g : Grow F1 H' F H) : Rep K H' F1 F (st0 n fr σ) H (st0D n fr δ) where
 g := g
 tb := R.tb
 len := by simp [st0, st0D]
 fz := λ i d e => by
  unfold st0D at e
  unfold st0
  by_cases hi : i < n
  · rw [Q5 (by simpa using hi), Q8, if_pos hi] at e
    cases e
  · rw [Q6 (by simpa using hi), Q18, zK] at e ⊢
    cases q : fr[i - n]? with
    | none => rw [q] at e; cases e
    | some p =>
     rw [q] at e
     have e' : (match δ[p.2]? with | some (some (.fz d)) => some (Sl.fz d) | _ => none) = some (.fz d) := zV e
     split at e'
     · rename_i d' q'
       cases e'
       obtain ⟨v, h1, h2⟩ := R.fz p.2 d q'
       refine ⟨v, ?_, h2⟩
       show some ((σ[p.2]?).join) = some (some v)
       rw [h1]
       rfl
     · cases e'
 ow := λ i ds e => by
  exfalso
  unfold st0D at e
  by_cases hi : i < n
  · rw [Q5 (by simpa using hi), Q8, if_pos hi] at e
    cases e
  · rw [Q6 (by simpa using hi), Q18, zK] at e
    cases q : fr[i - n]? with
    | none => rw [q] at e; cases e
    | some p =>
     rw [q] at e
     have e' : (match δ[p.2]? with | some (some (.fz d)) => some (Sl.fz d) | _ => none) = some (.ow ds) := zV e
     split at e' <;> cases e'
 ap := λ i j ds es a e1 e2 e3 e4 => by
  exfalso
  unfold st0D at e1
  by_cases hi : i < n
  · rw [Q5 (by simpa using hi), Q8, if_pos hi] at e1
    cases e1
  · rw [Q6 (by simpa using hi), Q18, zK] at e1
    cases q : fr[i - n]? with
    | none => rw [q] at e1; cases e1
    | some p =>
     rw [q] at e1
     have e' : (match δ[p.2]? with | some (some (.fz d)) => some (Sl.fz d) | _ => none) = some (.ow ds) := zV e1
     split at e' <;> cases e'
 od := λ i ds e => by
  exfalso
  unfold st0D at e
  by_cases hi : i < n
  · rw [Q5 (by simpa using hi), Q8, if_pos hi] at e
    cases e
  · rw [Q6 (by simpa using hi), Q18, zK] at e
    cases q : fr[i - n]? with
    | none => rw [q] at e; cases e
    | some p =>
     rw [q] at e
     have e' : (match δ[p.2]? with | some (some (.fz d)) => some (Sl.fz d) | _ => none) = some (.od ds) := zV e
     split at e' <;> cases e'
 ad := λ i j ds es a e1 e2 e3 e4 => by
  exfalso
  unfold st0D at e1
  by_cases hi : i < n
  · rw [Q5 (by simpa using hi), Q8, if_pos hi] at e1
    cases e1
  · rw [Q6 (by simpa using hi), Q18, zK] at e1
    cases q : fr[i - n]? with
    | none => rw [q] at e1; cases e1
    | some p =>
     rw [q] at e1
     have e' : (match δ[p.2]? with | some (some (.fz d)) => some (Sl.fz d) | _ => none) = some (.od ds) := zV e1
     split at e' <;> cases e'
theorem st_yes : ST K tYes dYes := λ H0 F0 F σ H δ b Q R e h => by cases e; exact h H F (Grow.refl R.g.s)
theorem so_comp {n : Nat} {fr : List (Str × Nat)} {wi : TI} {g : TG} {tc : TT} {te : TE} {fi : DSt -> Option (List PyData)} {fg : PyData -> DSt -> Option DSt} {fc : DSt -> Option Bool} {fe : DSt -> Option PyData}
 (hi : SI K wi fi) (hg : SG K g fg) (hl : Low n fg) (hc : ST K tc fc) (he : SE K te fe) : SO K (tComp n fr wi g tc te) (dCompO n fr fi fg fc fe) := by
 intro H0 F0 F σ H δ rs Q R e h
 obtain ⟨ds, e1, e2⟩ := bind_some e
 split at e2
 · rename_i lim
   refine hi H0 F0 F σ H δ ds _ R e1 λ J H1 F1 g1 it acc hacc => ?_
   have hF1 : F1 acc = none := g1.s.free hacc
   have h0 : H acc = none := g1.h.free hacc
   have R1 := R.grow g1
   let f : PyData -> Option (Option PyData) := λ d => (fg d (st0D n fr δ)).bind λ δ1 => (fc δ1).bind λ b => if b = true then (fe δ1).map some else some none
   have e2' : mapM' f ds = some rs := e2
   refine ⟨λ i m σ' H' => m = ds.length - i /\ i <= ds.length /\ ∃ F' xs us vs, Rep K H1 F1 F' σ' H' (st0D n fr δ) /\ F' acc = none /\ H' acc = some (.lst xs) /\ Are K F' xs us /\ us.length <= i /\ mapM' f (ds.drop i) = some vs /\ rs = us ++ vs, ⟨ds.length, by simp, zU _, F1, [], [], rs, ?_, hF1, upd_same, rfl, Q1 _, e2', rfl⟩, ?_⟩
   · exact (rep0 R1 n fr H1 F1 (Grow.refl g1.s)).grow (Grow.fresh g1.s hacc)
   rintro i m σ' H' ⟨rfl, hle, F', xs, us, vs, R', hF', ha, ar, hu, em, er⟩
   have s' : Same F1 F' := R'.g.f
   by_cases hlt : i < ds.length
   · refine .inr ⟨it.go i F' H' hlt s' R'.g.s, λ σ' H' => i + 1 <= ds.length /\ ∃ F' xs us vs, Rep K H1 F1 F' σ' H' (st0D n fr δ) /\ F' acc = none /\ H' acc = some (.lst xs) /\ Are K F' xs us /\ us.length <= i + 1 /\ mapM' f (ds.drop (i + 1)) = some vs /\ rs = us ++ vs, λ σ2 H2 q => ⟨ds.length - (i + 1), by omega, rfl, q⟩, λ x H2 y => ?_⟩
     have hd : ds[i]? = some ds[i] := gEq hlt
     obtain ⟨F2, g2, is⟩ := it.yld i _ F' H' x H2 hd s' R'.g.s y
     rw [Q27 hlt] at em
     obtain ⟨o, q1, q2⟩ := bind_some em
     obtain ⟨δ1, q3, q4⟩ := bind_some q1
     obtain ⟨b, q5, q6⟩ := bind_some q4
     obtain ⟨ll, lh⟩ := hl _ _ _ q3
     have weak : ∀ {Fx : Hp} {σx : St} {Hx : Hp}, Rep K H1 F1 Fx σx Hx δ1 -> Rep K H1 F1 Fx σx Hx (st0D n fr δ) := λ {Fx σx Hx} RR => RR.weak ll.symm λ j s es => by
      by_cases hj : j < n
      · unfold st0D at es
        rw [Q5 (by simpa using hj), Q8, if_pos hj] at es
        cases es
      · rw [lh j (by omega)]; exact es
     have ha2 : H2 acc = some (.lst xs) := g2.h _ _ ha
     have hF2 : F2 acc = none := g2.o _ _ ha (λ _ z => nomatch z) hF'
     refine hg H1 F1 F2 σ' H2 _ δ1 x ds[i] _ (R'.grow g2) is q3 λ σ3 R3 => ?_
     refine hc H1 F1 F2 σ3 H2 δ1 b _ R3 q5 λ H4 F4 g4 => ?_
     have ha4 : H4 acc = some (.lst xs) := g4.h _ _ ha2
     have hF4 : F4 acc = none := g4.o _ _ ha2 (λ _ z => nomatch z) hF2
     cases b with
     | false =>
      have q6' : (some none : Option (Option PyData)) = some o := q6
      cases q6'
      refine iteF ⟨hlt, F4, xs, us, vs, weak (R3.grow g4), hF4, ha4, (ar.same g2.f).same g4.f, by omega, q2, er⟩
     | true =>
      have q6' : (fe δ1).map some = some o := q6
      obtain ⟨yd, q7, q8⟩ := Q0.mp q6'
      subst q8
      obtain ⟨ws, q9, q10⟩ := Q0.mp q2
      subst q10
      refine iteT (he H1 F1 F4 σ3 H4 δ1 yd _ (R3.grow g4) q7 λ v H5 F5 g5 i5 => ?_)
      have ha5 : H5 acc = some (.lst xs) := g5.h _ _ ha4
      have hF5 : F5 acc = none := g5.o _ _ ha4 (λ _ z => nomatch z) hF4
      have ar5 : Are K F5 xs us := ((ar.same g2.f).same g4.f).same g5.f
      refine ⟨xs, ha5, ?_, hlt, F5, xs ++ [v], us ++ [yd], ws, ?_, hF5, upd_same, ar5.append (Are.one i5), ?_, q9, by rw [er]; simp⟩
      · rw [ar5.length]
        exact lim_lt (by omega)
      · have R5 := weak ((R3.grow g4).grow g5)
        exact ⟨⟨R5.g.f, λ b u q => by rw [upd_ne (ne_of_none q hF5)]; exact R5.g.s b u q, λ b u q => by rw [upd_ne (ne_of_none q hacc)]; exact R5.g.h b u q, R5.g.o⟩, R5.len, R5.fz, λ j es q => by
         exfalso
         unfold st0D at q
         by_cases hj : j < n
         · rw [Q5 (by simpa using hj), Q8, if_pos hj] at q
           cases q
         · rw [Q6 (by simpa using hj), Q18, zK] at q
           cases z : fr[j - n]? with
           | none => rw [z] at q; cases q
           | some p =>
            rw [z] at q
            have e' : (match δ[p.2]? with | some (some (.fz d)) => some (Sl.fz d) | _ => none) = some (.ow es) := zV q
            (split at e' <;> cases e'), R5.ap, λ j es q => by
         exfalso
         unfold st0D at q
         by_cases hj : j < n
         · rw [Q5 (by simpa using hj), Q8, if_pos hj] at q
           cases q
         · rw [Q6 (by simpa using hj), Q18, zK] at q
           cases z : fr[j - n]? with
           | none => rw [z] at q; cases q
           | some p =>
            rw [z] at q
            have e' : (match δ[p.2]? with | some (some (.fz d)) => some (Sl.fz d) | _ => none) = some (.od es) := zV q
            (split at e' <;> cases e'), R5.ad, R5.tb⟩
      · rw [zQ, List.length_singleton]
        omega
   · have e3 : i = ds.length := by omega
     subst e3
     rw [List.drop_length] at em
     cases em
     rw [Q7] at er
     subst er
     refine .inl ⟨it.stop F' H' s' R'.g.s, ?_⟩
     refine h acc xs H' F' ?_ h0 hF' ha ar
     exact g1.trans R'.g
 · cases e2
end
noncomputable def resOf : DFlow -> Option PyData
 | .nx _ => some .none
 | .rt d => some d
 | .ro ds => some (.list ds)
 | _ => none
noncomputable def stD (n : Nat) (ds : List PyData) : DSt := ds.map (λ d => some (.fz d)) ++ List.replicate (n - ds.length) none
noncomputable def runD (n : Nat) (fb : DSt -> Option DFlow) (ds : List PyData) : Option PyData := (fb (stD n ds)).bind resOf
def spD (K : Fg) (n : Nat) (f : List PyData -> Option PyData) : Sp := λ vs H Q _ => ∃ F ds d, SameT K F H /\ vs.length = n /\ Are K F vs ds /\ f ds = some d /\ ∀ v H' F', Grow F H F' H' -> Is K F' v d -> Q v H'
theorem repStart {K : Fg} {F H : Hp} {N : List Str} {vs : List V} {ds : List PyData} (s : SameT K F H) (ar : Are K F vs ds) : Rep K H F F (L2.start N vs) H (stD N.length ds) where
 g := Grow.refl s.1
 tb := s.2
 len := by
  have := ar.length
  simp [L2.start, stD, this]
 fz := λ i d e => by
  have hl := ar.length
  unfold stD at e
  unfold L2.start
  by_cases hi : i < ds.length
  · rw [Q5 (by simpa using hi), zK] at e
    obtain ⟨d', e1, e2⟩ := Q0.mp e
    cases e2
    obtain ⟨x, h1, h2⟩ := ar.get e1
    refine ⟨x, ?_, h2⟩
    rw [Q5 (by rw [zJ]; omega), zK, h1]
    rfl
  · rw [Q6 (by simpa using hi), Q8] at e
    split at e <;> cases e
 ow := λ i es e => by
  exfalso
  unfold stD at e
  by_cases hi : i < ds.length
  · rw [Q5 (by simpa using hi), zK] at e
    obtain ⟨d', e1, e2⟩ := Q0.mp e
    cases e2
  · rw [Q6 (by simpa using hi), Q8] at e
    split at e <;> cases e
 ap := λ i j es us a e => by
  exfalso
  unfold stD at e
  by_cases hi : i < ds.length
  · rw [Q5 (by simpa using hi), zK] at e
    obtain ⟨d', e1, e2⟩ := Q0.mp e
    cases e2
  · rw [Q6 (by simpa using hi), Q8] at e
    split at e <;> cases e
 od := λ i es e => by
  exfalso
  unfold stD at e
  by_cases hi : i < ds.length
  · rw [Q5 (by simpa using hi), zK] at e
    obtain ⟨d', e1, e2⟩ := Q0.mp e
    cases e2
  · rw [Q6 (by simpa using hi), Q8] at e
    split at e <;> cases e
 ad := λ i j es us a e => by
  exfalso
  unfold stD at e
  by_cases hi : i < ds.length
  · rw [Q5 (by simpa using hi), zK] at e
    obtain ⟨d', e1, e2⟩ := Q0.mp e
    cases e2
  · rw [Q6 (by simpa using hi), Q8] at e
    split at e <;> cases e
section
variable {P : Program} {w : World} {K : Fg} {mg : Str -> Option Value} {base : Heap}
theorem fun_okD {x qual : Str} {st : Stmt} {f : Addr} {fd : FuncData} {N ps : List Str} {k n m : Nat} {fb : DSt -> Option DFlow} (F : Fun K x qual st f fd) (S : FnScope N ps (defScope st)) (hN : N.length = n) (hm : ps.length = m)
 (hbody : ∀ (cdv : Value) (A : Around) (outer : List Env) (s : Shared) (H : Hp) (E : XK), Room k (A.deeper (envOfC qual (defScope st) s.heap.objs.size f cdv)) ->
  ∃ t, PSs (cxOf CX0 P w K mg base N qual (defScope st) f cdv A outer s H E).nox (defBody st) t /\ SS K t fb) : FnOk P w K mg base CX0 (k + 1) f fd ps (spD K m (runD n fb)) := by
 subst hN hm
 refine F.ok S (λ vs H Q E h => ?_) (λ cdv A outer s H vs Q E hr h => ?_)
 · obtain ⟨F', ds, d, _, hl, _⟩ := h
   exact hl
 · obtain ⟨F', ds, d, sF, hl, ar, e, q⟩ := h
   obtain ⟨t, ht, hs⟩ := hbody cdv A outer s H E hr
   obtain ⟨r, e1, e2⟩ := bind_some e
   refine ⟨t, ht, hs H F' F' (L2.start N vs) H (stD N.length ds) r _ (repStart sF ar) e1 ?_⟩
   cases r with
   | nx δ => cases e2; exact λ F2 σ2 H2 R2 _ => q .non H2 F2 R2.g rfl
   | rt d' => cases e2; exact λ F2 v H2 g2 i2 => q v H2 F2 g2 i2
   | ro es =>
    cases e2
    exact λ F2 a xs H2 g2 h0 hf ha ar2 => q (.ref a) H2 _ (g2.frz h0 hf ha) ⟨a, xs, rfl, upd_same, ar2.same (same_new hf _)⟩
   | bk _ => cases e2
   | ct _ => cases e2
end
section
variable {K : Fg}
noncomputable def dOwnCall (n : Nat) (g : List PyData -> Option PyData) (fs : DSt -> Option (List PyData)) (δ : DSt) : Option PyData := (fs δ).bind λ ds => if ds.length = n then g ds else none
theorem se_call {n : Nat} {g : List PyData -> Option PyData} {t : TA} {fs : DSt -> Option (List PyData)} (a : SA K t fs) : SE K (tCall (spD K n g) [] E0 t) (dOwnCall n g fs) := by
 intro H0 F0 F σ H δ d Q R e h
 obtain ⟨ds, e1, e2⟩ := bind_some e
 split at e2
 · rename_i hl
   refine a H0 F0 F σ H δ ds _ R e1 λ vs H1 F1 g1 ar => ⟨F1, ds, d, ⟨g1.s, R.tb.same g1.f⟩, ?_, ?_, e2, λ v H2 F2 g2 i2 => h v H2 F2 (g1.trans g2) i2⟩
   · rw [Q7, ar.length, hl]
   · rw [Q7]; exact ar
 · cases e2
end
section
variable {K : Fg}
noncomputable def iiD (g : Int -> Int -> Option PyData) : PyData -> PyData -> Option PyData
 | .int a, .int b => g a b
 | _, _ => none
theorem iiD_some {g : Int -> Int -> Option PyData} {x y d : PyData} (h : iiD g x y = some d) : ∃ i j, x = .int i /\ y = .int j /\ g i j = some d := by
 unfold iiD at h
 split at h
 · exact ⟨_, _, rfl, rfl, h⟩
 · cases h
theorem od_i0 {g : Int -> Int -> V} {g' : Int -> Int -> PyData} (hg : ∀ i j H, Is K H (g i j) (g' i j)) : OpD K (rI0 g) (iiD λ i j => some (g' i j)) := λ F H x y dx dy d Q s hx hy e k => by
 obtain ⟨i, j, rfl, rfl, e⟩ := iiD_some e
 cases e
 exact ⟨i, j, hx, hy, k _ H F (Grow.refl s) (hg i j F)⟩
theorem od_i {C : Int -> Int -> Prop} {c : Int -> Int -> Bool} {g : Int -> Int -> V} {g' : Int -> Int -> PyData} (hc : ∀ i j, c i j = true -> C i j) (hg : ∀ i j H, Is K H (g i j) (g' i j)) : OpD K (rI C g) (iiD λ i j => if c i j = true then some (g' i j) else none) := λ F H x y dx dy d Q s hx hy e k => by
 obtain ⟨i, j, rfl, rfl, e1⟩ := iiD_some e
 split at e1
 · rename_i h
   cases e1
   exact ⟨i, j, hx, hy, hc i j h, k _ H F (Grow.refl s) (hg i j F)⟩
 · cases e1
noncomputable def subD := iiD λ i j => some (.int (i - j))
noncomputable def ltD := iiD λ i j => some (.bool (decide (i < j)))
noncomputable def leD := iiD λ i j => some (.bool (decide (i <= j)))
noncomputable def gtD := iiD λ i j => some (.bool (decide (j < i)))
noncomputable def iaddD := iiD λ i j => some (.int (i + j))
noncomputable def cMul (i j : Int) : Bool := (decide (-1000000000000 <= i) && decide (i <= 1000000000000)) || (decide (-1000000000000 <= j) && decide (j <= 1000000000000))
noncomputable def mulI := iiD λ i j => if cMul i j = true then some (.int (i * j)) else none
noncomputable def cMod (_ j : Int) : Bool := decide (0 < j)
noncomputable def modD := iiD λ i j => if cMod i j = true then some (.int (i % j)) else none
noncomputable def cDiv (_ j : Int) : Bool := decide (0 < j) && decide (j < 1073741824)
noncomputable def fdivD := iiD λ i j => if cDiv i j = true then some (.int (i / j)) else none
theorem od_sub : OpD K (rI0 λ i j => .int (i - j)) subD := od_i0 λ _ _ _ => rfl
theorem od_lt : OpD K (rI0 λ i j => .bl (decide (i < j))) ltD := od_i0 λ _ _ _ => rfl
theorem od_le : OpD K (rI0 λ i j => .bl (decide (i <= j))) leD := od_i0 λ _ _ _ => rfl
theorem od_gt : OpD K (rI0 λ i j => .bl (decide (j < i))) gtD := od_i0 λ _ _ _ => rfl
theorem od_iadd : OpD K (rI0 λ i j => .int (i + j)) iaddD := od_i0 λ _ _ _ => rfl
theorem cMul_ok {i j : Int} (h : cMul i j = true) : CMul i j := by
 unfold cMul at h
 simp only [Bool.or_eq_true, Q2, decide_eq_true_eq] at h
 unfold CMul
 omega
theorem od_mul : OpD K (rI CMul λ i j => .int (i * j)) mulI := od_i (λ _ _ h => cMul_ok h) λ _ _ _ => rfl
theorem od_mod : OpD K (rI (λ _ j => 0 < j) λ i j => .int (i % j)) modD := od_i (λ _ _ h => by simpa [cMod] using h) λ _ _ _ => rfl
theorem od_fdiv : OpD K (rI CDiv λ i j => .int (i / j)) fdivD := od_i (λ _ _ h => by simpa [cDiv, CDiv] using h) λ _ _ _ => rfl
def rCatD (K : Fg) : R2 := λ x y H Q => ∃ a b xs ys, x = .ref a /\ y = .ref b /\ H a = some (.tup xs) /\ H b = some (.tup ys) /\ xs.length + ys.length <= sizeLine /\ (ys = [] -> Q (.ref a) H) /\ (xs = [] -> Q (.ref b) H) /\ ∀ p, H p = none -> Q (.ref p) (upd H p (.tup (xs ++ ys)))
theorem op_catD {X : Cx} : OpR X (binaryOp .Add) (rCatD X.K) := by
 intro pins s σ H x y v u Q I rx ry h
 obtain ⟨a, b, xs, ys, rfl, rfl, ha, hb, hz, q1, q2, q3⟩ := h
 by_cases hx : xs = []
 · cases rx
   cases ry
   obtain ⟨its, r1, p1, _⟩ := I.tuple (SqT.of ha)
   obtain ⟨its2, r2, p2, _⟩ := I.tuple (SqT.of hb)
   exact cat_nil p1 p2 (r1.nil_iff.mpr hx) ⟨.ref b, H, I, rfl, q2 hx⟩
 · exact op_catT pins s σ H _ _ v u Q I rx ry ⟨a, b, xs, ys, rfl, rfl, SqT.of ha, SqT.of hb, hx, hz, q1, λ _ p hp => q3 p hp⟩
def rAddS : R2 := λ x y H Q => ∃ i j, x = .str i /\ y = .str j /\ i.length + j.length <= sizeLine /\ Q (.str (i ++ j)) H
def rAddA (K : Fg) : R2 := λ x y H Q => (rI0 λ i j => .int (i + j)) x y H Q \/ (rCatD K x y H Q \/ (rCat x y H Q \/ rAddS x y H Q))
theorem kx_add {X : Cx} (K : Fg) (h : X.K = K := by rfl) : OpR X (binaryOp .Add) (rAddA K) := op_add.or ((h ▸ op_catD).or (op_cat.or op_add_str))
noncomputable def addD : PyData -> PyData -> Option PyData
 | .int a, .int b => some (.int (a + b))
 | .tuple a, .tuple b => if a.length + b.length <= LIM then some (.tuple (a ++ b)) else none
 | .list a, .list b => if a.length + b.length <= LIM then some (.list (a ++ b)) else none
 | .str a, .str b => if a.length + b.length <= LIM then some (.str (a ++ b)) else none
 | _, _ => none
theorem od_add : OpD K (rAddA K) addD := λ F H x y dx dy d Q s hx hy e k => by
 unfold addD at e
 split at e
 · cases e
   exact .inl ⟨_, _, hx, hy, k _ H F (Grow.refl s) rfl⟩
 · rename_i a b
   split at e
   · rename_i hl
     cases e
     obtain ⟨p, xs, rfl, q, ar⟩ := hx
     obtain ⟨p', ys, rfl, q', ar'⟩ := hy
     refine .inr (.inl ⟨p, p', xs, ys, rfl, rfl, s _ _ q, s _ _ q', by rw [ar.length, ar'.length]; exact lim_line hl, λ z => ?_, λ z => ?_, λ t ht => ?_⟩)
     · refine k _ H F (Grow.refl s) ⟨p, xs, rfl, q, ?_⟩
       have := ar'.length
       rw [z] at this
       have : b = [] := List.eq_nil_of_length_eq_zero this.symm
       subst this
       rw [Q7]
       exact ar
     · refine k _ H F (Grow.refl s) ⟨p', ys, rfl, q', ?_⟩
       have := ar.length
       rw [z] at this
       have : a = [] := List.eq_nil_of_length_eq_zero this.symm
       subst this
       exact ar'
     · have sn : Same F (upd F t (.tup (xs ++ ys))) := same_new (s.free ht) _
       exact k _ _ _ (Grow.new s ht) ⟨t, _, rfl, upd_same, (ar.append ar').same sn⟩
   · cases e
 · rename_i a b
   split at e
   · rename_i hl
     cases e
     obtain ⟨p, xs, rfl, q, ar⟩ := hx
     obtain ⟨p', ys, rfl, q', ar'⟩ := hy
     refine .inr (.inr (.inl ⟨p, p', xs, ys, rfl, rfl, s _ _ q, s _ _ q', by rw [ar.length, ar'.length]; exact lim_line hl, λ t ht => ?_⟩))
     have sn : Same F (upd F t (.lst (xs ++ ys))) := same_new (s.free ht) _
     exact k _ _ _ (Grow.new s ht) ⟨t, _, rfl, upd_same, (ar.append ar').same sn⟩
   · cases e
 · rename_i a b
   split at e
   · rename_i hl
     cases e
     exact .inr (.inr (.inr ⟨a, b, hx, hy, lim_line hl, k _ H F (Grow.refl s) rfl⟩))
   · cases e
 · cases e
theorem atI_are {F : Hp} {xs : List V} {ds : List PyData} {i : Int} {d : PyData} (ar : Are K F xs ds) (e : atI ds i = some d) : ∃ v, atI xs i = some v /\ Is K F v d := by
 unfold atI at e ⊢
 rw [<- ar.length] at e
 obtain ⟨j, e1, e2⟩ := bind_some e
 rw [e1]
 exact ar.get e2
noncomputable def scrD : PyData -> Option (List Int)
 | .dict [(.none, .list ds)] => intsD ds
 | _ => none
theorem scr_of {F : Hp} {x : V} {d : PyData} {ns : List Int} (e : scrD d = some ns) (h : Is K F x d) : ∃ a, x = .ref a /\ SqL K F a (ns.map V.int) := by
 unfold scrD at e
 split at e
 · rename_i ds
   have ed := intsD_some e
   subst ed
   obtain ⟨a, rfl, h⟩ := h
   rcases h with ⟨ms, e1, q⟩ | ⟨m, _, q⟩ | ⟨nm, z, _⟩ | ⟨m, _, q⟩
   · have : ns = ms := by
      injection e1 with e1 _
      injection e1 with _ e1
      injection e1 with e1
      have := congrArg intsD e1
      rw [intsD_map, intsD_map] at this
      exact zV this
     subst this
     exact ⟨a, rfl, q⟩
   · obtain ⟨z, m', _, q, _⟩ := q
     have := q.1
     cases this
   · cases z
   · cases q.1
 · cases e
noncomputable def ixD : PyData -> PyData -> Option PyData
 | .tuple ds, .int i => atI ds i
 | .list ds, .int i => atI ds i
 | .str z, .int i => if z.length <= LIM then (atI z.cps.toList i).map λ c => .str ⟨#[c]⟩ else none
 | d, .int i => (scrD d).bind λ ns => (atI ns i).map PyData.int
 | _, _ => none
theorem kx_ix {X : Cx} (K : Fg) (h : X.K = K := by rfl) : IxR X (rIx K) := h ▸ ix_seq
theorem atI_map {α β : Type} (f : α -> β) (l : List α) (i : Int) : atI (l.map f) i = (atI l i).map f := by
 unfold atI
 rw [zJ]
 cases ixN l.length i with
 | none => rfl
 | some j => simp
theorem od_ix : OpD K (rIx K) ixD := λ F H x y dx dy d Q s hx hy e k => by
 unfold ixD at e
 split at e
 · obtain ⟨p, xs, rfl, q, ar⟩ := hx
   obtain ⟨v, e1, i1⟩ := atI_are ar e
   exact .inr (.inl ⟨p, xs, _, v, rfl, hy, SqT.of (s _ _ q), e1, k v H F (Grow.refl s) i1⟩)
 · obtain ⟨p, xs, rfl, q, ar⟩ := hx
   obtain ⟨v, e1, i1⟩ := atI_are ar e
   exact .inl ⟨p, xs, _, v, rfl, hy, SqL.of (s _ _ q), e1, k v H F (Grow.refl s) i1⟩
 · rename_i z i
   split at e
   · rename_i hl
     obtain ⟨c, e1, e2⟩ := Q0.mp e
     subst e2
     exact .inr (.inr ⟨z, i, c, hx, hy, lim_line hl, e1, k _ H F (Grow.refl s) rfl⟩)
   · cases e
 · rename_i i _ _ _
   obtain ⟨ns, e1, e2⟩ := bind_some e
   obtain ⟨n, e3, e4⟩ := Q0.mp e2
   subst e4
   obtain ⟨a, rfl, q⟩ := scr_of e1 hx
   exact .inl ⟨a, _, i, .int n, rfl, hy, s.seq q, by rw [atI_map, e3]; rfl, k _ H F (Grow.refl s) rfl⟩
 · cases e
noncomputable def lenD : PyData -> Option Nat
 | .tuple ds => some ds.length
 | .list ds => some ds.length
 | .str z => if z.length <= LIM then some z.length else none
 | d => (scrD d).map List.length
def rLenA (K : Fg) : List V -> Hp -> VK -> Prop := λ xs H Q => ∃ x n, xs = [x] /\ LenV K x H n /\ Q (.int (n : Nat)) H
theorem kx_lenA {X : Cx} (K : Fg) (h : X.K = K := by rfl) : CallR X (.builtin "len") (rLenA K) := h ▸ call_len
noncomputable def lenC : List PyData -> Option PyData
 | [d] => (lenD d).map λ n : Nat => .int (n : Nat)
 | _ => none
theorem lenV_of {F H : Hp} {x : V} {d : PyData} {n : Nat} (s : Same F H) (h : Is K F x d) (e : lenD d = some n) : LenV K x H n := by
 unfold lenD at e
 split at e
 · cases e
   obtain ⟨p, xs, rfl, q, ar⟩ := h
   exact .inr ⟨xs, SqT.of (s _ _ q), ar.length.symm⟩
 · cases e
   obtain ⟨p, xs, rfl, q, ar⟩ := h
   exact .inl ⟨xs, SqL.of (s _ _ q), ar.length.symm⟩
 · rename_i z
   split at e
   · rename_i hl
     cases e
     rw [show x = .str z from h]
     exact ⟨lim_line hl, rfl⟩
   · cases e
 · obtain ⟨ns, e1, e2⟩ := Q0.mp e
   subst e2
   obtain ⟨a, rfl, q⟩ := scr_of e1 h
   exact .inl ⟨_, s.seq q, by rw [zJ]⟩
theorem cd_len : CallD K (rLenA K) lenC := λ F H xs ds d Q s ar e k => by
 unfold lenC at e
 split at e
 · obtain ⟨n, e1, e2⟩ := Q0.mp e
   subst e2
   obtain ⟨x, r, rfl, hx, hr⟩ := ar
   rw [show r = [] from hr]
   exact ⟨x, n, rfl, lenV_of s hx e1, k _ H F (Grow.refl s) rfl⟩
 · cases e
noncomputable def cutD {α : Type} (xs : List α) (lo hi : Option Int) : List α := (xs.drop (HT.sIx xs.length 0 lo)).take (HT.sIx xs.length xs.length hi - HT.sIx xs.length 0 lo)
def rSlA (K : Fg) : V -> Option Int -> Option Int -> Hp -> VK -> Prop := λ x lo hi H Q => (rSlW K x lo hi H Q \/ rSlT K x lo hi H Q) \/ rSlL K x lo hi H Q
theorem kx_slA {X : Cx} (K : Fg) (h : X.K = K := by rfl) : SlR X (rSlA K) := h ▸ (sl_tupW.or sl_tup).or sl_list
def SlD (K : Fg) (r : V -> Option Int -> Option Int -> Hp -> VK -> Prop) (g : PyData -> Option Int -> Option Int -> Option PyData) : Prop := ∀ (F H : Hp) (x : V) (lo hi : Option Int) (dx d : PyData) (Q : VK), Same F H -> Is K F x dx -> g dx lo hi = some d -> (∀ v H' F', Grow F H F' H' -> Is K F' v d -> Q v H') -> r x lo hi H Q
noncomputable def slD : PyData -> Option Int -> Option Int -> Option PyData
 | .tuple ds, lo, hi => some (.tuple (cutD ds lo hi))
 | .list ds, lo, hi => some (.list (cutD ds lo hi))
 | _, _, _ => none
theorem are_cut {F : Hp} {xs : List V} {ds : List PyData} (ar : Are K F xs ds) (lo hi : Option Int) : Are K F (cutV xs lo hi) (cutD ds lo hi) := by
 unfold cutV cutD
 rw [ar.length]
 exact (ar.drop _).take _
theorem sd_sl : SlD K (rSlA K) slD := λ F H x lo hi dx d Q s hx e k => by
 unfold slD at e
 split at e
 · cases e
   obtain ⟨p, xs, rfl, q, ar⟩ := hx
   by_cases hw : HT.sIx xs.length 0 lo = 0 /\ HT.sIx xs.length xs.length hi = xs.length
   · refine .inl (.inl ⟨p, xs, rfl, SqT.of (s _ _ q), hw.1, hw.2, k _ H F (Grow.refl s) ⟨p, xs, rfl, q, ?_⟩⟩)
     unfold cutD
     rw [<- ar.length, hw.1, hw.2, List.drop_zero, Nat.sub_zero, ar.length, Q19]
     exact ar
   · refine .inl (.inr ⟨p, xs, rfl, SqT.of (s _ _ q), hw, λ t ht => ?_⟩)
     exact k _ _ _ (Grow.new s ht) ⟨t, _, rfl, upd_same, (are_cut ar lo hi).same (same_new (s.free ht) _)⟩
 · cases e
   obtain ⟨p, xs, rfl, q, ar⟩ := hx
   refine .inr ⟨p, xs, rfl, SqL.of (s _ _ q), λ t ht => ?_⟩
   exact k _ _ _ (Grow.new s ht) ⟨t, _, rfl, upd_same, (are_cut ar lo hi).same (same_new (s.free ht) _)⟩
 · cases e
def STo (K : Fg) (to : TO) (f : DSt -> Option (Option Int)) : Prop := ∀ (H0 F0 F : Hp) (σ : St) (H : Hp) (δ : DSt) (o : Option Int) (Q : Option Int -> Hp -> Prop), Rep K H0 F0 F σ H δ -> f δ = some o -> (∀ H' F', Grow F H F' H' -> Q o H') -> to σ H Q
noncomputable def dNoPart (_ : DSt) : Option (Option Int) := some none
noncomputable def dPart (f : DSt -> Option PyData) (δ : DSt) : Option (Option Int) := (f δ).bind λ d => match d with
 | .int i => some (some i)
 | _ => none
theorem so_none : STo K tNoPart dNoPart := λ H0 F0 F σ H δ o Q R e h => by cases e; exact h H F (Grow.refl R.g.s)
theorem so_part {te : TE} {f : DSt -> Option PyData} (a : SE K te f) : STo K (tPart te) (dPart f) := λ H0 F0 F σ H δ o Q R e h => by
 obtain ⟨d, e1, e2⟩ := bind_some e
 split at e2
 · rename_i i
   cases e2
   exact a H0 F0 F σ H δ _ _ R e1 λ v H1 F1 g1 i1 => ⟨i, i1, h H1 F1 g1⟩
 · cases e2
noncomputable def dSl (f : DSt -> Option PyData) (l h : DSt -> Option (Option Int)) (δ : DSt) : Option PyData := (f δ).bind λ d => (l δ).bind λ lo => (h δ).bind λ hi => slD d lo hi
theorem se_sl {te : TE} {tl th : TO} {f : DSt -> Option PyData} {l u : DSt -> Option (Option Int)} (a : SE K te f) (b : STo K tl l) (c : STo K th u) : SE K (tSl (rSlA K) te tl th) (dSl f l u) := λ H0 F0 F σ H δ d Q R e h => by
 obtain ⟨dx, e1, e⟩ := bind_some e
 obtain ⟨lo, e2, e⟩ := bind_some e
 obtain ⟨hi, e3, e⟩ := bind_some e
 refine a H0 F0 F σ H δ dx _ R e1 λ v H1 F1 g1 i1 => b H0 F0 F1 σ H1 δ lo _ (R.grow g1) e2 λ H2 F2 g2 => c H0 F0 F2 σ H2 δ hi _ ((R.grow g1).grow g2) e3 λ H3 F3 g3 => ?_
 exact sd_sl F3 H3 v lo hi dx d Q g3.s ((i1.same g2.f).same g3.f) e λ v' H4 F4 g4 i4 => h v' H4 F4 (g1.trans (g2.trans (g3.trans g4))) i4
mutual
theorem toD {H : Hp} : ∀ {x : V} (d : PyData), d.canLay0 = true -> Is K H x d -> L2.IsD K H x d
 | _, .none, _, h => h
 | _, .bool _, _, h => h
 | _, .int _, _, h => h
 | _, .str _, _, h => h
 | _, .list ds, c, h => by
  obtain ⟨a, xs, e, q, r⟩ := h
  exact ⟨a, xs, e, SqL.of q, toDs ds (by simpa [PyData.canLay0] using c) r⟩
 | _, .tuple ds, c, h => by
  obtain ⟨a, xs, e, q, r⟩ := h
  exact ⟨a, xs, e, SqT.of q, toDs ds (by simpa [PyData.canLay0] using c) r⟩
 | _, .dict _, c, h => by simp [PyData.canLay0] at c
theorem toDs {H : Hp} : ∀ {xs : List V} (ds : List PyData), PyData.canLayAll0 ds = true -> Are K H xs ds -> L2.AllD K H xs ds
 | _, [], _, h => h
 | _, d :: ds, c, h => by
  obtain ⟨x, r, e, q, t⟩ := h
  simp only [PyData.canLayAll0, Q2] at c
  exact ⟨x, r, e, toD d c.1 q, toDs ds c.2 t⟩
end
noncomputable def okD (d : PyData) : Bool := d.canLay0 && decide (d.depth <= 60)
theorem okD_cmp {d : PyData} (h : okD d = true) : cmpOk d := by
 unfold okD at h
 rw [Q2, decide_eq_true_eq] at h
 exact h
noncomputable def eqD (a b : PyData) : Option PyData := if (okD a && okD b) = true then some (.bool (PyData.eqv a b)) else none
noncomputable def neD (a b : PyData) : Option PyData := if (okD a && okD b) = true then some (.bool (!PyData.eqv a b)) else none
theorem od_eq : OpD K (rEqD K false) eqD := λ F H x y dx dy d Q s hx hy e k => by
 unfold eqD at e
 split at e
 · rename_i c
   rw [Q2] at c
   cases e
   exact ⟨dx, dy, toD dx (okD_cmp c.1).1 (hx.same s), toD dy (okD_cmp c.2).1 (hy.same s), okD_cmp c.1, okD_cmp c.2, k _ H F (Grow.refl s) rfl⟩
 · cases e
theorem od_ne : OpD K (rEqD K true) neD := λ F H x y dx dy d Q s hx hy e k => by
 unfold neD at e
 split at e
 · rename_i c
   rw [Q2] at c
   cases e
   exact ⟨dx, dy, toD dx (okD_cmp c.1).1 (hx.same s), toD dy (okD_cmp c.2).1 (hy.same s), okD_cmp c.1, okD_cmp c.2, k _ H F (Grow.refl s) rfl⟩
 · cases e
noncomputable def isNo : PyData -> Bool
 | .none => true
 | _ => false
noncomputable def isND (a b : PyData) : Option PyData := match b with
 | .none => some (.bool (isNo a))
 | _ => none
noncomputable def notND (a b : PyData) : Option PyData := match b with
 | .none => some (.bool (!isNo a))
 | _ => none
theorem isN_of {F : Hp} {x : V} {d : PyData} (h : Is K F x d) : decide (x = .non) = isNo d := by
 cases d with
 | none => rw [show x = .non from h]; rfl
 | bool b => rw [show x = .bl b from h]; rfl
 | int b => rw [show x = .int b from h]; rfl
 | str b => rw [show x = .str b from h]; rfl
 | list ds => obtain ⟨a, xs, rfl, _⟩ := h; rfl
 | tuple ds => obtain ⟨a, xs, rfl, _⟩ := h; rfl
 | dict ds => obtain ⟨a, rfl, _⟩ := h; rfl
theorem od_isN : OpD K (λ x y H Q => y = .non /\ Q (.bl (decide (x = .non))) H) isND := λ F H x y dx dy d Q s hx hy e k => by
 unfold isND at e
 split at e
 · cases e
   exact ⟨hy, k _ H F (Grow.refl s) (by rw [isN_of hx]; rfl)⟩
 · cases e
theorem od_notN : OpD K (λ x y H Q => y = .non /\ Q (.bl (!decide (x = .non))) H) notND := λ F H x y dx dy d Q s hx hy e k => by
 unfold notND at e
 split at e
 · cases e
   exact ⟨hy, k _ H F (Grow.refl s) (by rw [isN_of hx]; rfl)⟩
 · cases e
noncomputable def dChain (g g' : PyData -> PyData -> Option PyData) (fa fb fc : DSt -> Option PyData) (δ : DSt) : Option PyData := (fa δ).bind λ a => (fb δ).bind λ b => (g a b).bind λ r => match r with
 | .bool true => (fc δ).bind λ c => g' b c
 | .bool false => some (.bool false)
 | _ => none
theorem se_chain {r r' : R2} {g g' : PyData -> PyData -> Option PyData} {ta tb tc : TE} {fa fb fc : DSt -> Option PyData} (o : OpD K r g) (o' : OpD K r' g') (a : SE K ta fa) (b : SE K tb fb) (c : SE K tc fc) : SE K (tChain r r' ta tb tc) (dChain g g' fa fb fc) := λ H0 F0 F σ H δ d Q R e h => by
 obtain ⟨dx, ex, e⟩ := bind_some e
 obtain ⟨dy, ey, e⟩ := bind_some e
 obtain ⟨dz, ez, e⟩ := bind_some e
 refine a H0 F0 F σ H δ dx _ R ex λ v H1 F1 g1 i1 => b H0 F0 F1 σ H1 δ dy _ (R.grow g1) ey λ w H2 F2 g2 i2 => ?_
 refine o F2 H2 v w dx dy dz _ g2.s (i1.same g2.f) i2 ez λ v' H3 F3 g3 i3 => ?_
 split at e
 · refine ⟨true, i3, iteT ?_⟩
   obtain ⟨du, eu, e⟩ := bind_some e
   refine c H0 F0 F3 σ H3 δ du _ ((R.grow (g1.trans g2)).grow g3) eu λ u H4 F4 g4 i4 => ?_
   exact o' F4 H4 w u dy du d Q g4.s ((i2.same g3.f).same g4.f) i4 e λ v5 H5 F5 g5 i5 => h v5 H5 F5 (g1.trans (g2.trans (g3.trans (g4.trans g5)))) i5
 · cases e
   exact ⟨false, i3, iteF (h _ H3 F3 (g1.trans (g2.trans g3)) rfl)⟩
 · cases e
noncomputable def dNeg (f : DSt -> Option PyData) (δ : DSt) : Option PyData := (f δ).bind λ d => match d with
 | .int i => some (.int (-i))
 | _ => none
theorem se_neg {te : TE} {f : DSt -> Option PyData} (a : SE K te f) : SE K (tUn (rU λ i => .int (-i)) te) (dNeg f) := λ H0 F0 F σ H δ d Q R e h => by
 obtain ⟨dx, e1, e2⟩ := bind_some e
 split at e2
 · rename_i i
   cases e2
   exact a H0 F0 F σ H δ _ _ R e1 λ v H1 F1 g1 i1 => ⟨i, i1, h _ H1 F1 g1 rfl⟩
 · cases e2
noncomputable def tyD : PyData -> String
 | .none => "NoneType"
 | .bool _ => "bool"
 | .int _ => "int"
 | .str _ => "str"
 | .list _ => "list"
 | .tuple _ => "tuple"
 | .dict _ => "dict"
noncomputable def isiN (d : PyData) (n : String) : Bool := tyD d == n || (tyD d == "bool" && n == "int")
def rIsiD (K : Fg) : List V -> Hp -> VK -> Prop := λ xs H Q => ∃ x n d, xs = [x, .ty n] /\ Is K H x d /\ (d matches .dict _) = false /\ n ∈ ["int", "bool", "str", "list", "tuple"] /\ Q (.bl (isiN d n)) H
end
section
variable {X : Cx}
theorem kitT {K : Fg} (d : PyData) (hd : (d matches .dict _) = false) (n : String) (hn : n ∈ ["int", "bool", "str", "list", "tuple"]) : PySem.W.kitOne K (.type (tyD d)) (.type n) = some (isiN d n) := by
 have go : ∀ t ∈ ["NoneType", "bool", "int", "str", "list", "tuple"], ∀ n ∈ ["int", "bool", "str", "list", "tuple"],
  (if (Value.type t == Value.type n) = true then some true else if PySem.W.kitMeta n = true then (fastBuiltinMro t).map (·.contains (.type n)) else none) = some (t == n || (t == "bool" && n == "int")) := by decide +kernel
 have ht : tyD d ∈ ["NoneType", "bool", "int", "str", "list", "tuple"] := by
  cases d <;> simp [tyD] at hd ⊢
 exact go _ ht n hn
theorem call_isiD : CallR X (.builtin "isinstance") (rIsiD X.K) := by
 intro pins s σ H xs us Q I rv h
 obtain ⟨x, n, d, rfl, hx, hd, hn, q⟩ := h
 obtain ⟨u, w', rfl, r1, r2⟩ := rv.two
 cases r2
 have e := kitT (K := X.K) d hd n hn
 have fin : ∀ tk, EP X pins σ Q (.bool (isiN d n)) { s with toks := tk } := λ tk => ⟨.bl _, H, I.tok tk, rfl, q⟩
 cases d with
 | none => exact isinst_ok I r1 (by rw [show x = .non from hx]; exact TyOf.non) e fin
 | bool b => exact isinst_ok I r1 (by rw [show x = .bl b from hx]; exact TyOf.bl b) e fin
 | int b => exact isinst_ok I r1 (by rw [show x = .int b from hx]; exact TyOf.int b) e fin
 | str b => exact isinst_ok I r1 (by rw [show x = .str b from hx]; exact TyOf.str b) e fin
 | list ds =>
  obtain ⟨a, ys, rfl, q', _⟩ := hx
  exact isinst_ok I r1 (TyOf.lst q') e fin
 | tuple ds =>
  obtain ⟨a, ys, rfl, q', _⟩ := hx
  exact isinst_ok I r1 (TyOf.tup q') e fin
 | dict _ => cases hd
theorem kx_isiD (K : Fg) (h : X.K = K := by rfl) : CallR X (.builtin "isinstance") (rIsiD K) := h ▸ call_isiD
end
section
variable {K : Fg}
noncomputable def dIsi (n : String) (f : DSt -> Option PyData) (δ : DSt) : Option PyData := (f δ).bind λ d => match d with
 | .dict _ => none
 | d => some (.bool (isiN d n))
theorem se_isi {te : TE} {n : String} {f : DSt -> Option PyData} (a : SE K te f) (hn : n ∈ ["int", "bool", "str", "list", "tuple"] := by decide) : SE K (tCB (rIsiD K) (tCons te (tCons (tC (.ty n)) tNil))) (dIsi n f) := λ H0 F0 F σ H δ d Q R e h => by
 obtain ⟨dx, e1, e2⟩ := bind_some e
 refine a H0 F0 F σ H δ dx _ R e1 λ v H1 F1 g1 i1 => ?_
 cases dx with
 | dict _ => cases e2
 | none => cases e2; exact ⟨v, n, _, rfl, i1.same g1.s, rfl, hn, h _ H1 F1 g1 rfl⟩
 | bool _ => cases e2; exact ⟨v, n, _, rfl, i1.same g1.s, rfl, hn, h _ H1 F1 g1 rfl⟩
 | int _ => cases e2; exact ⟨v, n, _, rfl, i1.same g1.s, rfl, hn, h _ H1 F1 g1 rfl⟩
 | str _ => cases e2; exact ⟨v, n, _, rfl, i1.same g1.s, rfl, hn, h _ H1 F1 g1 rfl⟩
 | list _ => cases e2; exact ⟨v, n, _, rfl, i1.same g1.s, rfl, hn, h _ H1 F1 g1 rfl⟩
 | tuple _ => cases e2; exact ⟨v, n, _, rfl, i1.same g1.s, rfl, hn, h _ H1 F1 g1 rfl⟩
noncomputable def boolsD : List PyData -> Option (List Bool)
 | [] => some []
 | .bool n :: r => (boolsD r).map (n :: ·)
 | _ :: _ => none
theorem boolsD_some : ∀ {ds : List PyData} {ns : List Bool}, boolsD ds = some ns -> ds = ns.map PyData.bool
 | [], ns, h => by cases h; rfl
 | .bool n :: r, ns, h => by
  obtain ⟨ms, e1, e2⟩ := Q0.mp h
  subst e2
  rw [boolsD_some e1]; rfl
 | .none :: r, ns, h => by cases h
 | .int _ :: r, ns, h => by cases h
 | .str _ :: r, ns, h => by cases h
 | .list _ :: r, ns, h => by cases h
 | .tuple _ :: r, ns, h => by cases h
 | .dict _ :: r, ns, h => by cases h
theorem boolsD_map : ∀ ns : List Bool, boolsD (ns.map PyData.bool) = some ns
 | [] => rfl
 | n :: r => by
  show (boolsD (r.map PyData.bool)).map (n :: ·) = _
  rw [boolsD_map r]; rfl
noncomputable def allC : List PyData -> Option PyData
 | [.list ds] => (boolsD ds).map λ bs => .bool (bs.all id)
 | _ => none
theorem cd_all : CallD K (rAll K) allC := λ F H xs ds d Q s ar e k => by
 unfold allC at e
 split at e
 · obtain ⟨bs, e1, e2⟩ := Q0.mp e
   subst e2
   obtain ⟨x, r, rfl, hx, hr⟩ := ar
   rw [show r = [] from hr]
   obtain ⟨p, ys, rfl, q, ar⟩ := hx
   have := boolsD_some e1
   subst this
   have := Are.bools.mp ar
   subst this
   exact ⟨p, bs, rfl, SqL.of (s _ _ q), k _ H F (Grow.refl s) rfl⟩
 · cases e
noncomputable def tupC : List PyData -> Option PyData
 | [.list ds] => some (.tuple ds)
 | [.tuple ds] => some (.tuple ds)
 | _ => none
theorem cd_tup : CallD K (rTupleOf K) tupC := λ F H xs ds d Q s ar e k => by
 unfold tupC at e
 split at e
 · cases e
   obtain ⟨x, r, rfl, hx, hr⟩ := ar
   rw [show r = [] from hr]
   obtain ⟨p, ys, rfl, q, ar⟩ := hx
   exact ⟨p, ys, rfl, .inl ⟨SqL.of (s _ _ q), λ t ht => k _ _ _ (Grow.new s ht) ⟨t, _, rfl, upd_same, ar.same (same_new (s.free ht) _)⟩⟩⟩
 · cases e
   obtain ⟨x, r, rfl, hx, hr⟩ := ar
   rw [show r = [] from hr]
   obtain ⟨p, ys, rfl, q, ar⟩ := hx
   exact ⟨p, ys, rfl, .inr ⟨SqT.of (s _ _ q), k _ H F (Grow.refl s) ⟨p, ys, rfl, q, ar⟩⟩⟩
 · cases e
noncomputable def dListO (fs : DSt -> Option (List PyData)) (δ : DSt) : Option (List PyData) := (fs δ).bind λ ds => match ds with
 | [d] => seqD d
 | _ => none
theorem so_listOf {t : TA} {fs : DSt -> Option (List PyData)} (a : SA K t fs) : SO K (tCB (rListOf K) t) (dListO fs) := λ H0 F0 F σ H δ es Q R e h => by
 obtain ⟨ds, e1, e2⟩ := bind_some e
 refine a H0 F0 F σ H δ ds _ R e1 λ vs H1 F1 g1 ar => ?_
 split at e2
 · rename_i d
   obtain ⟨x, r, rfl, hx, hr⟩ := ar
   rw [show r = [] from hr]
   cases d with
   | list us =>
    cases e2
    obtain ⟨p, ys, rfl, q, ar⟩ := hx
    exact ⟨p, ys, rfl, .inl (SqL.of (g1.s _ _ q)), λ l hl => h l ys _ F1 (g1.trans (Grow.fresh g1.s hl)) (g1.h.free hl) (g1.s.free hl) upd_same ar⟩
   | tuple us =>
    cases e2
    obtain ⟨p, ys, rfl, q, ar⟩ := hx
    exact ⟨p, ys, rfl, .inr (SqT.of (g1.s _ _ q)), λ l hl => h l ys _ F1 (g1.trans (Grow.fresh g1.s hl)) (g1.h.free hl) (g1.s.free hl) upd_same ar⟩
   | _ => cases e2
 · cases e2
noncomputable def dInO (neg : Bool) (i : Nat) (f : DSt -> Option PyData) (δ : DSt) : Option PyData := match δ[i]? with
 | some (some (.ow ds)) => (f δ).bind λ d => match d with
  | .int n => (intsD ds).bind λ ns => some (.bool (if neg = true then !decide (n ∈ ns) else decide (n ∈ ns)))
  | _ => none
 | _ => none
theorem se_inO {te : TE} {f : DSt -> Option PyData} (neg : Bool) (i : Nat) (a : SE K te f) : SE K (tOp (rIn K neg) te (tVar i)) (dInO neg i f) := λ H0 F0 F σ H δ d Q R e h => by
 unfold dInO at e
 split at e
 · rename_i ds q
   obtain ⟨dx, e1, e2⟩ := bind_some e
   split at e2
   · rename_i n
     obtain ⟨ns, e3, e4⟩ := bind_some e2
     cases e4
     obtain ⟨p, xs, q1, q2, q3, q4, q5⟩ := R.ow i ds q
     have ed := intsD_some e3
     subst ed
     have ex := Are.ints.mp q5
     subst ex
     refine a H0 F0 F σ H δ _ _ R e1 λ v H1 F1 g1 i1 => ⟨.ref p, q1, p, _, rfl, .inl (SqL.of (g1.h _ _ q2)), ?_, flat_ints _, ?_⟩
     · rw [show v = .int n from i1]; rfl
     · rw [show v = .int n from i1, inV_int]
       exact h _ H1 F1 g1 (by cases neg <;> rfl)
   · cases e2
 · cases e
end
section
variable {X : Cx}
end
section
variable {K : Fg}
theorem canLays {ds : List PyData} (h : ∀ d ∈ ds, d.canLay0 = true) : PyData.canLayAll0 ds = true := by
 induction ds with
 | nil => simp [PyData.canLayAll0]
 | cons d r ih => simp [PyData.canLayAll0, h d lMs, ih λ x hx => h x (lMc _ hx)]
end
theorem law_spec {K : Fg} {f : List PyData -> Option PyData} {H : Hp} {a : Addr} {ns : List Int} (h : f [scr ns] = some (.bool true)) (q : SqL K H a (ns.map V.int)) (tb : Tb K H) : spD K 1 f [.ref a] H (λ v _ => v = .bl true) λ _ _ _ => False :=
 ⟨H, [scr ns], .bool true, ⟨Same.refl _, tb⟩, rfl, ⟨.ref a, [], rfl, ⟨a, rfl, .inl ⟨ns, rfl, q⟩⟩, rfl⟩, h, λ v H' F' _ i => i⟩
end DL
namespace DL
open PySem L2
theorem loopD_of {fg : PyData -> DSt -> Option DSt} {fb : DSt -> Option DFlow} : ∀ {ds : List PyData} (P : Nat -> DSt -> Prop) {δ : DSt}, P 0 δ ->
 (∀ (i : Nat) (hi : i < ds.length) (δ : DSt), P i δ -> ∃ δ1 δ2, fg ds[i] δ = some δ1 /\ fb δ1 = some (.nx δ2) /\ P (i + 1) δ2) -> ∃ δ', loopD fg fb ds δ = some (.nx δ') /\ P ds.length δ'
 | [], P, δ, h0, _ => ⟨δ, rfl, h0⟩
 | d :: r, P, δ, h0, h => by
  obtain ⟨δ1, δ2, e1, e2, h1⟩ := h 0 (by simp) δ h0
  obtain ⟨δ', e3, h3⟩ := loopD_of (ds := r) (λ i => P (i + 1)) h1 λ i hi δ hp => by
   have := h (i + 1) (by simpa using hi) δ hp
   simpa using this
  refine ⟨δ', ?_, h3⟩
  have e1' : fg d δ = some δ1 := e1
  show ((fg d δ).bind λ δ1 => (fb δ1).bind λ fl => match fl with
   | .nx δ2 => loopD fg fb r δ2
   | .ct δ2 => loopD fg fb r δ2
   | .bk δ2 => some (.nx δ2)
   | .rt v => some (.rt v)
   | .ro v => some (.ro v)) = _
  rw [e1']
  show ((fb δ1).bind λ fl => match fl with
   | .nx δ2 => loopD fg fb r δ2
   | .ct δ2 => loopD fg fb r δ2
   | .bk δ2 => some (.nx δ2)
   | .rt v => some (.rt v)
   | .ro v => some (.ro v)) = _
  rw [e2]
  exact e3
theorem loopD_cons {fg : PyData -> DSt -> Option DSt} {fb : DSt -> Option DFlow} {d : PyData} {r : List PyData} {δ : DSt} : loopD fg fb (d :: r) δ = ((fg d δ).bind λ δ1 => (fb δ1).bind λ fl => match fl with
 | .nx δ2 => loopD fg fb r δ2
 | .ct δ2 => loopD fg fb r δ2
 | .bk δ2 => some (.nx δ2)
 | .rt v => some (.rt v)
 | .ro v => some (.ro v)) := rfl
theorem mapM'_map {f : PyData -> Option (Option PyData)} {g : PyData -> PyData} : ∀ {ds : List PyData}, (∀ d ∈ ds, f d = some (some (g d))) -> mapM' f ds = some (ds.map g)
 | [], _ => rfl
 | d :: r, h => by
  show ((f d).bind λ o => match o with
   | some y => (mapM' f r).map (y :: ·)
   | none => mapM' f r) = _
  rw [h d lMs]
  show (mapM' f r).map (g d :: ·) = _
  rw [mapM'_map λ x hx => h x (lMc _ hx)]
  rfl
theorem mapM'_filter {f : PyData -> Option (Option PyData)} {p : PyData -> Bool} {g : PyData -> PyData} : ∀ {ds : List PyData}, (∀ d ∈ ds, f d = some (if p d = true then some (g d) else none)) -> mapM' f ds = some ((ds.filter p).map g)
 | [], _ => rfl
 | d :: r, h => by
  have ih := mapM'_filter (ds := r) (f := f) (p := p) (g := g) λ x hx => h x (lMc _ hx)
  show ((f d).bind λ o => match o with
   | some y => (mapM' f r).map (y :: ·)
   | none => mapM' f r) = _
  rw [h d lMs]
  cases e : p d with
  | true =>
   show (mapM' f r).map (g d :: ·) = _
   rw [ih, List.filter_cons, e]
   rfl
  | false =>
   show mapM' f r = _
   rw [ih, List.filter_cons, e]
   rfl
theorem dCompO_map {n : Nat} {fr : List (Str × Nat)} {fi : DSt -> Option (List PyData)} {fg : PyData -> DSt -> Option DSt} {fc : DSt -> Option Bool} {fe : DSt -> Option PyData} {δ : DSt} {ds : List PyData} (g : PyData -> PyData) (h1 : fi δ = some ds) (hl : ds.length <= LIM)
 (h : ∀ d ∈ ds, ((fg d (st0D n fr δ)).bind λ δ1 => (fc δ1).bind λ b => if b = true then (fe δ1).map some else some none) = some (some (g d))) : dCompO n fr fi fg fc fe δ = some (ds.map g) := by
 unfold dCompO
 rw [h1]
 show (if ds.length <= LIM then _ else none) = _
 rw [if_pos hl]
 exact mapM'_map h
theorem dCompO_filter {n : Nat} {fr : List (Str × Nat)} {fi : DSt -> Option (List PyData)} {fg : PyData -> DSt -> Option DSt} {fc : DSt -> Option Bool} {fe : DSt -> Option PyData} {δ : DSt} {ds : List PyData} (p : PyData -> Bool) (g : PyData -> PyData) (h1 : fi δ = some ds) (hl : ds.length <= LIM)
 (h : ∀ d ∈ ds, ((fg d (st0D n fr δ)).bind λ δ1 => (fc δ1).bind λ b => if b = true then (fe δ1).map some else some none) = some (if p d = true then some (g d) else none)) : dCompO n fr fi fg fc fe δ = some ((ds.filter p).map g) := by
 unfold dCompO
 rw [h1]
 show (if ds.length <= LIM then _ else none) = _
 rw [if_pos hl]
 exact mapM'_filter h
noncomputable def tupI (c : List Int) : PyData := .tuple (c.map PyData.int)
mutual
noncomputable def nb : PyData -> Bool
 | .none => true
 | .bool _ => false
 | .int _ => true
 | .str _ => true
 | .list ds => nbs ds
 | .tuple ds => nbs ds
 | .dict _ => false
noncomputable def nbs : List PyData -> Bool
 | [] => true
 | d :: r => nb d && nbs r
end
mutual
theorem eqv_iff : ∀ (a b : PyData), nb a = true -> nb b = true -> (PyData.eqv a b = true ↔ a = b)
 | .none, b, _, hb => by cases b <;> simp [PyData.eqv, nb] at hb ⊢
 | .bool _, _, ha, _ => by simp [nb] at ha
 | .int i, b, _, hb => by cases b <;> simp [PyData.eqv, nb] at hb ⊢
 | .str i, b, _, hb => by cases b <;> simp [PyData.eqv, nb] at hb ⊢
 | .list xs, b, ha, hb => by
  cases b with
  | list ys =>
   have := eqvs_iff xs ys (by simpa [nb] using ha) (by simpa [nb] using hb)
   simp [PyData.eqv, this]
  | _ => simp [PyData.eqv, nb] at hb ⊢
 | .tuple xs, b, ha, hb => by
  cases b with
  | tuple ys =>
   have := eqvs_iff xs ys (by simpa [nb] using ha) (by simpa [nb] using hb)
   simp [PyData.eqv, this]
  | _ => simp [PyData.eqv, nb] at hb ⊢
 | .dict _, _, ha, _ => by simp [nb] at ha
theorem eqvs_iff : ∀ (a b : List PyData), nbs a = true -> nbs b = true -> (PyData.eqvAll a b = true ↔ a = b)
 | [], [], _, _ => by simp [PyData.eqvAll]
 | [], _ :: _, _, _ => by simp [PyData.eqvAll]
 | _ :: _, [], _, _ => by simp [PyData.eqvAll]
 | x :: xs, y :: ys, ha, hb => by
  simp only [nbs, Q2] at ha hb
  have h1 := eqv_iff x y ha.1 hb.1
  have h2 := eqvs_iff xs ys ha.2 hb.2
  simp [PyData.eqvAll, h1, h2]
end
theorem nbs_all {ds : List PyData} : nbs ds = true ↔ ∀ d ∈ ds, nb d = true := by
 induction ds with
 | nil => simp [nbs]
 | cons d r ih => simp [nbs, ih]
theorem nb_list {ds : List PyData} (h : ∀ d ∈ ds, nb d = true) : nb (.list ds) = true := by simpa [nb] using nbs_all.mpr h
theorem nb_tup {ds : List PyData} (h : ∀ d ∈ ds, nb d = true) : nb (.tuple ds) = true := by simpa [nb] using nbs_all.mpr h
theorem nb_tupI (c : List Int) : nb (tupI c) = true := nb_tup λ d hd => by
 obtain ⟨n, _, rfl⟩ := Q11.mp hd
 rfl
def okN (n : Nat) (d : PyData) : Prop := d.canLay0 = true /\ d.depth <= n
theorem okN.ok {n : Nat} {d : PyData} (h : okN n d) (hn : n <= 60 := by decide) : okD d = true := by
 unfold okD
 rw [Q2, decide_eq_true_eq]
 exact ⟨h.1, Q9 h.2 hn⟩
theorem okN_int (i : Int) : okN 0 (.int i) := ⟨by simp [PyData.canLay0], by simp [PyData.depth]⟩
theorem depths {ds : List PyData} {n : Nat} (h : ∀ d ∈ ds, d.depth <= n) : PyData.depthAll ds <= n := by
 induction ds with
 | nil => simp [PyData.depthAll]
 | cons d r ih =>
  have h1 := h d lMs
  have h2 := ih λ x hx => h x (lMc _ hx)
  simp only [PyData.depthAll]
  omega
theorem okN_list {ds : List PyData} {n : Nat} (h : ∀ d ∈ ds, okN n d) : okN (n + 1) (.list ds) := by
 refine ⟨?_, ?_⟩
 · simp only [PyData.canLay0]; exact canLays λ d hd => (h d hd).1
 · simp only [PyData.depth]; have := depths λ d hd => (h d hd).2; omega
theorem okN_tup {ds : List PyData} {n : Nat} (h : ∀ d ∈ ds, okN n d) : okN (n + 1) (.tuple ds) := by
 refine ⟨?_, ?_⟩
 · simp only [PyData.canLay0]; exact canLays λ d hd => (h d hd).1
 · simp only [PyData.depth]; have := depths λ d hd => (h d hd).2; omega
theorem okN_tupI (c : List Int) : okN 1 (tupI c) := okN_tup λ d hd => by
 obtain ⟨n, _, rfl⟩ := Q11.mp hd
 exact okN_int n
theorem tupI_inj {a b : List Int} (h : tupI a = tupI b) : a = b := by
 unfold tupI at h
 injection h with h
 have := congrArg intsD h
 rw [intsD_map, intsD_map] at this
 exact zV this
theorem eqv_tupI (a b : List Int) : PyData.eqv (tupI a) (tupI b) = decide (a = b) := by
 rw [Bool.eq_iff_iff, eqv_iff _ _ (nb_tupI a) (nb_tupI b), decide_eq_true_eq]
 exact ⟨tupI_inj, λ h => by rw [h]⟩
theorem eqv_int (i j : Int) : PyData.eqv (.int i) (.int j) = decide (i = j) := by
 rw [PyData.eqv]
 rfl
theorem eqD_of {a b : PyData} (ha : okD a = true) (hb : okD b = true) : eqD a b = some (.bool (PyData.eqv a b)) := by
 unfold eqD; rw [ha, hb]; rfl
theorem neD_of {a b : PyData} (ha : okD a = true) (hb : okD b = true) : neD a b = some (.bool (!PyData.eqv a b)) := by
 unfold neD; rw [ha, hb]; rfl
theorem eqD_int (i j : Int) : eqD (.int i) (.int j) = some (.bool (decide (i = j))) := by rw [eqD_of (okN_int i).ok (okN_int j).ok, eqv_int]
theorem neD_int (i j : Int) : neD (.int i) (.int j) = some (.bool (!decide (i = j))) := by rw [neD_of (okN_int i).ok (okN_int j).ok, eqv_int]
theorem neD_tupI (a b : List Int) : neD (tupI a) (tupI b) = some (.bool (!decide (a = b))) := by rw [neD_of (okN_tupI a).ok (okN_tupI b).ok, eqv_tupI]
theorem isi_ii (i : Int) : isiN (.int i) "int" = true := by simp [isiN, tyD]
theorem isi_ib (i : Int) : isiN (.int i) "bool" = false := by simp [isiN, tyD]
theorem isi_tt (ds : List PyData) : isiN (.tuple ds) "tuple" = true := by simp [isiN, tyD]
theorem isi_ll (ds : List PyData) : isiN (.list ds) "list" = true := by simp [isiN, tyD]
theorem add_ii (i j : Int) : addD (.int i) (.int j) = some (.int (i + j)) := rfl
theorem sub_ii (i j : Int) : subD (.int i) (.int j) = some (.int (i - j)) := rfl
theorem lt_ii (i j : Int) : ltD (.int i) (.int j) = some (.bool (decide (i < j))) := rfl
theorem le_ii (i j : Int) : leD (.int i) (.int j) = some (.bool (decide (i <= j))) := rfl
theorem gt_ii (i j : Int) : gtD (.int i) (.int j) = some (.bool (decide (j < i))) := rfl
theorem iadd_ii (i j : Int) : iaddD (.int i) (.int j) = some (.int (i + j)) := rfl
theorem mul_ii (i j : Int) : mulI (.int i) (.int j) = if cMul i j = true then some (.int (i * j)) else none := rfl
theorem mod_ii (i j : Int) : modD (.int i) (.int j) = if cMod i j = true then some (.int (i % j)) else none := rfl
theorem fdiv_ii (i j : Int) : fdivD (.int i) (.int j) = if cDiv i j = true then some (.int (i / j)) else none := rfl
theorem len_t (ds : List PyData) : lenD (.tuple ds) = some ds.length := rfl
theorem len_l (ds : List PyData) : lenD (.list ds) = some ds.length := rfl
theorem scrD_scr (ns : List Int) : scrD (scr ns) = some ns := intsD_map ns
theorem lenD_scr (ns : List Int) : lenD (scr ns) = some ns.length := by
 show (scrD (scr ns)).map List.length = _
 rw [scrD_scr]; rfl
theorem ixD_scr (ns : List Int) (i : Int) : ixD (scr ns) (.int i) = (atI ns i).map PyData.int := by
 show ((scrD (scr ns)).bind λ ns => (atI ns i).map PyData.int) = _
 rw [scrD_scr]; rfl
theorem atI_nat' {α : Type} {xs : List α} {j : Nat} (h : j < xs.length) : atI xs (j : Int) = some xs[j] := atI_nat (gEq h)
end DL
namespace DL
open PySem PySem.Spec PyProof.Rows L2
noncomputable def lits (f : Expr -> Option PyData) : List Expr -> Option (List PyData)
 | [] => some []
 | e :: r => (f e).bind λ d => (lits f r).map (d :: ·)
noncomputable def lit : Nat -> Expr -> Option PyData
 | 0, _ => none
 | n + 1, e => match e with
  | .Constant (.int i) _ _ => some (.int i)
  | .Constant (.bool b) _ _ => some (.bool b)
  | .Constant .none _ _ => some .none
  | .Constant (.str x) _ _ => some (.str x)
  | .Tuple es _ _ => (lits (lit n) es).map .tuple
  | .List es _ => (lits (lit n) es).map .list
  | _ => none
mutual
noncomputable def tOf : PyData -> TE
 | .none => tC .non
 | .bool b => tC (.bl b)
 | .int i => tC (.int i)
 | .str x => tC (.str x)
 | .tuple ds => tTup (tOfs ds)
 | .list ds => tLst (tOfs ds)
 | .dict _ => λ _ _ _ => False
noncomputable def tOfs : List PyData -> TA
 | [] => tNil
 | d :: r => tCons (tOf d) (tOfs r)
end
mutual
noncomputable def litOk : PyData -> Bool
 | .none => true
 | .bool _ => true
 | .int _ => true
 | .str _ => true
 | .tuple ds => decide (ds.length <= LIM) && litsOk ds
 | .list ds => decide (ds.length <= LIM) && litsOk ds
 | .dict _ => false
noncomputable def litsOk : List PyData -> Bool
 | [] => true
 | d :: r => litOk d && litsOk r
end
section
variable {X : Cx}
theorem star_lit {n : Nat} {e : Expr} {d : PyData} {es : List Expr} (h : lit n e = some d) : starEach (e :: es) X.env = (false, eval e X.env) :: starEach es X.env := by
 cases n with
 | zero => cases h
 | succ n => cases e <;> first | rfl | (simp [lit] at h)
theorem pa_litsF {f : Expr -> Option PyData} (hf : ∀ e d, f e = some d -> PE X e (tOf d) /\ ∀ es, starEach (e :: es) X.env = (false, eval e X.env) :: starEach es X.env) : ∀ {es : List Expr} {ds : List PyData}, lits f es = some ds -> PA X es (tOfs ds)
 | [], ds, h => by cases h; exact pa_nil
 | e :: r, ds, h => by
  obtain ⟨d, e1, e2⟩ := bind_some h
  obtain ⟨us, e3, e4⟩ := Q0.mp e2
  subst e4
  exact pa_cons (hf e d e1).1 (pa_litsF hf e3) ((hf e d e1).2 r)
theorem pe_lit : ∀ (n : Nat) (e : Expr) (d : PyData), lit n e = some d -> PE X e (tOf d)
 | 0, _, _, h => by cases h
 | n + 1, e, d, h => by
  unfold lit at h
  split at h
  · cases h; exact pe_int
  · cases h; exact pe_bl
  · cases h; exact pe_non
  · cases h; exact pe_str
  · obtain ⟨us, e3, e4⟩ := Q0.mp h
    subst e4
    exact pe_tup (pa_litsF (λ e d q => ⟨pe_lit n e d q, λ es => star_lit q⟩) e3)
  · obtain ⟨us, e3, e4⟩ := Q0.mp h
    subst e4
    exact pe_lst (pa_litsF (λ e d q => ⟨pe_lit n e d q, λ es => star_lit q⟩) e3)
  · cases h
@[irreducible] noncomputable def tLits (ds : List PyData) : TA := tOfs ds
theorem pa_lits {es : List Expr} (ds : List PyData) (h : lits (lit 4) es = some ds) : PA X es (tLits ds) := by
 unfold tLits
 exact pa_litsF (λ e d q => ⟨pe_lit 4 e d q, λ es => star_lit q⟩) h
theorem ps_lits {i : Nat} {x : Str} {es : List Expr} {p1 p2 pos : Pos} (ds : List PyData) (hN : X.N.Nodup) (hi : X.N[i]? = some x) (hx : Loc X.env.scope x) (h : lits (lit 4) es = some ds) (hs : swapsWith (.List es p2) (some (.Name x p1)) pos.line X.env = pure false) (hf : X.fn x = true \/ X.env.scope.names.lookup x = some .local) :
 PS X (.Assign [.Name x p1] (.List es p2) pos) (tAsg (tLst (tLits ds)) (gName i)) := ps_set hN hi hx (pe_lst (pa_lits ds h)) hs hf
theorem pss_lits {st : Stmt} {rest : List Stmt} {t u : TS} (h1 : PS X st t) (h2 : PSs X rest u) : PSs X (st :: rest) (tSeq t u) := pss_cons h1 h2
end
section
variable {K : Fg}
noncomputable def dLits (ds : List PyData) (_ : DSt) : Option (List PyData) := some ds
mutual
theorem se_lit : ∀ (d : PyData), litOk d = true -> SE K (tOf d) (dC d)
 | .none, _ => se_non
 | .bool _, _ => se_bl
 | .int _, _ => se_int
 | .str _, _ => se_str
 | .tuple ds, h => by
  simp only [litOk, Q2, decide_eq_true_eq] at h
  have q := se_tup (sa_litsF ds h.2)
  intro H0 F0 F σ H δ d Q R e k
  refine q H0 F0 F σ H δ d Q R ?_ k
  cases e
  show ((some ds).bind λ ds => if ds.length <= LIM then some (PyData.tuple ds) else none) = _
  simp [h.1]
 | .list ds, h => by
  simp only [litOk, Q2, decide_eq_true_eq] at h
  have q := se_own (so_lst (sa_litsF ds h.2))
  intro H0 F0 F σ H δ d Q R e k
  refine q H0 F0 F σ H δ d Q R ?_ k
  cases e
  show (((some ds).bind λ ds => if ds.length <= LIM then some ds else none).map PyData.list) = _
  simp [h.1]
 | .dict _, h => by simp [litOk] at h
theorem sa_litsF : ∀ (ds : List PyData), litsOk ds = true -> SA K (tOfs ds) (dLits ds)
 | [], _ => sa_nil
 | d :: r, h => by
  simp only [litsOk, Q2] at h
  have q := sa_cons (se_lit d h.1) (sa_litsF r h.2)
  intro H0 F0 F σ H δ ds Q R e k
  refine q H0 F0 F σ H δ ds Q R ?_ k
  cases e
  rfl
end
theorem sa_lits (ds : List PyData) (h : litsOk ds = true) : SA K (tLits ds) (dLits ds) := by
 unfold tLits
 exact sa_litsF ds h
end
section
variable {X : Cx}
end
section
variable {K : Fg}
end
section
variable {X : Cx}
end
section
variable {K : Fg}
end
end DL
namespace DL
open PySem L2 PyProof.Rows
section
variable {K : Fg}
structure XI where
 c : Addr
 z : Option Int
instance : Coe Addr XI := ⟨λ c => ⟨c, none⟩⟩
def XI.ok (C : XI) (v : Value) : Prop := match C.z with
 | none => ∃ ea, v = .ref ea
 | some n => ∃ t, v = .int n t
def spX (K : Fg) (n : Nat) (C : XI) (g : List PyData -> Bool) : Sp := λ vs H _ E => ∃ F ds, SameT K F H /\ vs.length = n /\ Are K F vs ds /\ g ds = true /\ ∀ v F' H', Grow F H F' H' -> C.ok v -> E v (some C.c) H'
def SX (K : Fg) (E : XK) (C : XI) (ts : TS) (fx : DSt -> Bool) : Prop := ∀ (H0 F0 F : Hp) (σ : St) (H : Hp) (δ : DSt) (D : Ends), Rep K H0 F0 F σ H δ -> fx δ = true -> (∀ v F' H', Grow F0 H0 F' H' -> C.ok v -> E v (some C.c) H') -> ts D σ H
def SXE (K : Fg) (E : XK) (C : XI) (te : TE) (fx : DSt -> Bool) : Prop := ∀ (H0 F0 F : Hp) (σ : St) (H : Hp) (δ : DSt) (Q : VK), Rep K H0 F0 F σ H δ -> fx δ = true -> (∀ v F' H', Grow F H F' H' -> C.ok v -> E v (some C.c) H') -> te σ H Q
variable {E : XK} {C : XI}
noncomputable def xRaise (fs : DSt -> Option (List PyData)) (δ : DSt) : Bool := match fs δ with
 | some ds => decide (ds.length <= 1000)
 | none => false
theorem are_len {F : Hp} : ∀ {xs : List V} {ds : List PyData}, Are K F xs ds -> xs.length = ds.length
 | _, [], h => by cases h; rfl
 | _, d :: ds, h => by
  obtain ⟨x, r, rfl, _, h⟩ := h
  rw [zC, zC, are_len h]
theorem sx_raise {C : Addr} {ta : TA} {fs : DSt -> Option (List PyData)} (a : SA K ta fs) : SX K E C (tRaise C E ta) (xRaise fs) := λ H0 F0 F σ H δ D R e k => by
 unfold xRaise at e
 split at e
 · rename_i ds q
   exact a H0 F0 F σ H δ ds _ R q λ vs H' F' g ar => ⟨by rw [are_len ar]; exact small (of_decide_eq_true e), λ ea => k (.ref ea) F' H' (R.g.trans g) ⟨ea, rfl⟩⟩
 · cases e
noncomputable def xIf (c : DSt -> Option Bool) (fx : DSt -> Bool) (δ : DSt) : Bool := match c δ with
 | some true => fx δ
 | _ => false
theorem sx_seq1 {t u : TS} {fx : DSt -> Bool} (b : SX K E C t fx) : SX K E C (tSeq t u) fx := λ H0 F0 F σ H δ D R e k => b H0 F0 F σ H δ _ R e k
noncomputable def xCall (n : Nat) (g : List PyData -> Bool) (fs : DSt -> Option (List PyData)) (δ : DSt) : Bool := match fs δ with
 | some ds => decide (ds.length = n) && g ds
 | none => false
theorem sxe_call {n : Nat} {g : List PyData -> Bool} {t : TA} {fs : DSt -> Option (List PyData)} (a : SA K t fs) : SXE K E C (tCall (spX K n C g) [] E t) (xCall n g fs) := λ H0 F0 F σ H δ Q R e k => by
 unfold xCall at e
 split at e
 · rename_i ds q
   obtain ⟨e1, e2⟩ := Bool.and_eq_true_iff.mp e
   refine a H0 F0 F σ H δ ds _ R q λ vs H' F' g' ar => ?_
   show spX K n C g (vs ++ []) H' Q E
   rw [Q7]
   exact ⟨F', ds, ⟨g'.s, R.tb.same g'.f⟩, by rw [are_len ar]; exact of_decide_eq_true e1, ar, e2, λ ea F2 H2 g2 => k ea F2 H2 (g'.trans g2)⟩
 · cases e
end
section
variable {P : Program} {w : World} {K : Fg} {mg : Str -> Option Value} {base : Heap}
noncomputable def runX (n : Nat) (fx : DSt -> Bool) (ds : List PyData) : Bool := fx (stD n ds)
theorem fun_okX {x qual : Str} {st : Stmt} {f : Addr} {fd : FuncData} {N ps : List Str} {k n m : Nat} {C : XI} {fx : DSt -> Bool} (F : Fun K x qual st f fd) (S : FnScope N ps (defScope st)) (hN : N.length = n) (hm : ps.length = m)
 (hbody : ∀ (cdv : Value) (A : Around) (outer : List Env) (s : Shared) (H : Hp) (E : XK), Room k (A.deeper (envOfC qual (defScope st) s.heap.objs.size f cdv)) ->
  ∃ t, PSs (cxOf (CXF P w) P w K mg base N qual (defScope st) f cdv A outer s H E) (defBody st) t /\ SX K E C t fx) : FnOk P w K mg base (CXF P w) (k + 1) f fd ps (spX K m C (runX n fx)) := by
 subst hN hm
 obtain ⟨oc, od, kV, doc, pm, an, cdv, ct, osl, rfl, lk, hcd⟩ := F.ex
 refine fn_of lk hcd S (λ vs H Q E h => ?_) (λ A outer s H vs Q E hr h => ?_)
 · obtain ⟨F', ds, _, hl, _⟩ := h
   exact hl
 · obtain ⟨F', ds, sF, hl, ar, e, q⟩ := h
   obtain ⟨t, ht, hs⟩ := hbody cdv A outer s H E hr
   exact ⟨t, ht, hs H F' F' (L2.start N vs) H (stD N.length ds) _ (repStart sF ar) e q⟩
end
section
variable {K : Fg}
noncomputable def xSeq (f : DSt -> Option DFlow) (fx : DSt -> Bool) (δ : DSt) : Bool := match f δ with
 | some (.nx δ') => fx δ'
 | _ => false
theorem sx_seq2 {E : XK} {C : XI} {t u : TS} {f : DSt -> Option DFlow} {fx : DSt -> Bool} (a : SS K t f) (b : SX K E C u fx) : SX K E C (tSeq t u) (xSeq f fx) := λ H0 F0 F σ H δ D R e k => by
 unfold xSeq at e
 split at e
 · rename_i δ' q
   exact a H0 F0 F σ H δ (.nx δ') _ R q λ F' σ' H' R' _ => b H0 F0 F' σ' H' δ' D R' e k
 · cases e
theorem sx_drop {E : XK} {C : XI} {te : TE} {fx : DSt -> Bool} (a : SXE K E C te fx) : SX K E C (tDrop te) fx := λ H0 F0 F σ H δ D R e k => a H0 F0 F σ H δ _ R e λ ea F' H' g' => k ea F' H' (R.g.trans g')
end
structure OwnX (P : Program) (w : World) (K : Fg) (mg : Str -> Option Value) (base : Heap) (k : Nat) (x : Str) (ps : List Str) (sp : Sp) : Prop where
 ex : ∃ (f : Addr) (fd : FuncData), FnOk P w K mg base (CXF P w) k f fd ps sp /\ mg x = some (.ref f) /\ PySem.W.keepIn K (.ref f) = true /\ Binds K fd ps []
section
variable {X : Cx}
theorem pe_ownX {k n : Nat} {x : Str} {ps : List Str} {sp : Sp} {p pos : Pos} {e : Expr} {es : List Expr} {t : TA} {E : XK} (O : OwnX X.prog X.w X.K X.mg X.base k x ps sp) (hr : Room n X.A) (hx : Passes (CXF X.prog X.w) X E) (ha : PA X (e :: es) t) (hkn : k <= n := by decide) (hg : Gl X x := by rfl)
 (hdb : (x == ("__debug__" : Str)) = false := by decide) (he : starEach (e :: es) X.env = (false, eval e X.env) :: starEach es X.env := by rfl) (hpl : (backTo pos (starEach es X.env)).any (·.1) = false := by rfl) :
 PE X (.Call (.Name x p) (e :: es) [] pos) (tCall sp [] E t) := by
 obtain ⟨f, fd, F, m, kp, b⟩ := O.ex
 exact pe_call F (hr.mono hkn) hg m kp b .nil hx ha hdb he hpl
end
end DL
namespace DL
open PySem PySem.Spec PyProof.Rows L2
noncomputable def fnD (nm : Str) : PyData := .dict [(.bool true, .str nm)]
structure OwnN (P : Program) (w : World) (K : Fg) (mg : Str -> Option Value) (base : Heap) (k : Nat) (x : Str) (ps : List Str) (sp : Sp) : Prop where
 ex : ∃ (f : Addr) (fd : FuncData), FnOk P w K mg base CX0 k f fd ps sp /\ PySem.W.nsIn K mainGlobals x = some (some (.ref f)) /\ PySem.W.keepIn K (.ref f) = true /\ Binds K fd ps []
def tCallV (K : Fg) (i : Nat) (nm : Str) (sp : Sp) (t : TA) : TE := λ σ H Q => ∃ f, σ[i]? = some (some (.ref f)) /\ PySem.W.nsIn K mainGlobals nm = some (some (.ref f)) /\ t σ H λ vs H1 => sp (vs ++ []) H1 Q E0
theorem pe_ownV {X : Cx} {k n i : Nat} {x nm : Str} {ps : List Str} {sp : Sp} {p pos : Pos} {e : Expr} {es : List Expr} {t : TA} (O : OwnN X.prog X.w X.K X.mg X.base k nm ps sp) (hr : Room n X.A) (hv : PE X (.Name x p) (tVar i)) (ha : PA X (e :: es) t) (hkn : k <= n := by decide)
 (he : starEach (e :: es) X.env = (false, eval e X.env) :: starEach es X.env := by rfl) (hpl : (backTo pos (starEach es X.env)).any (·.1) = false := by rfl) :
 PE X (.Call (.Name x p) (e :: es) [] pos) (tCallV X.K i nm sp t) := by
 intro pins s σ H Q I h
 obtain ⟨f, hs, hn, h⟩ := h
 obtain ⟨f', fd, F, m, kp, b⟩ := O.ex
 rw [hn] at m
 cases m
 refine wpAny_Call_Name_kw (thn (hv pins s σ H (λ v H1 => v = .ref f /\ H1 = H) I ⟨_, hs, rfl, rfl⟩) λ u s1 ⟨v, H1, I1, r, q⟩ => ?_)
 obtain ⟨rfl, rfl⟩ := q
 obtain rfl : u = .ref f := r
 refine PySem.W.callWith_K (h₀ := X.base) I1.ok.mod.kin kp (thn (ha pos pins s1 σ _ _ I1 h) λ us s2 ⟨vs, H2, I2, r2, q2⟩ => ⟨I2.kIn, ?_⟩) he hpl
 exact run_fn F (hr.mono hkn) b .nil pass0 I2 r2 q2
section
variable {K : Fg}
theorem se_fn {a : Addr} {nm : Str} (h : PySem.W.nsIn K mainGlobals nm = some (some (.ref a))) : SE K (tC (.ref a)) (dC (fnD nm)) := by
 intro H0 F0 F σ H δ d Q R e k
 cases e
 exact k (.ref a) H F (Grow.refl R.g.s) ⟨a, rfl, .inr (.inr (.inl ⟨nm, rfl, h⟩))⟩
noncomputable def isFn (nm : Str) : PyData -> Bool
 | .dict [(.bool true, .str x)] => x == nm
 | _ => false
theorem isFn_self (nm : Str) : isFn nm (fnD nm) = true := by
 show (nm == nm) = true
 simp
noncomputable def dCallV (i : Nat) (nm : Str) (n : Nat) (g : List PyData -> Option PyData) (fs : DSt -> Option (List PyData)) (δ : DSt) : Option PyData := (dVar i δ).bind λ d => if isFn nm d = true then dOwnCall n g fs δ else none
theorem se_callV {i n : Nat} {nm : Str} {g : List PyData -> Option PyData} {t : TA} {fs : DSt -> Option (List PyData)} (a : SA K t fs) : SE K (tCallV K i nm (spD K n g) t) (dCallV i nm n g fs) := by
 intro H0 F0 F σ H δ d Q R e h
 obtain ⟨d0, e1, e2⟩ := bind_some e
 split at e2
 · rename_i hd
   have hf : d0 = fnD nm := by
    unfold isFn at hd
    split at hd
    · rw [show _ = nm from eq_of_beq hd]; rfl
    · cases hd
   subst hf
   unfold dVar at e1
   split at e1
   · rename_i d1 e0
     cases e1
     obtain ⟨v, hv, a0, rfl, hh⟩ := R.fz i _ e0
     rcases hh with ⟨ns, z, _⟩ | ⟨m, z, kv⟩ | ⟨nm', z, hn⟩ | ⟨m, z, kv⟩
     · cases z
     · obtain ⟨q, m', _, q2, _⟩ := kv
       cases q2.1
     · cases z
       exact ⟨a0, hv, hn, se_call (K := K) a H0 F0 F σ H δ d Q R e2 h⟩
     · cases kv.1
   · cases e1
 · cases e2
end
end DL
namespace SRT
open PySem PySem.W PyProof.Rows
noncomputable def Sat {α : Type} (lt : Nat -> Nat -> Bool) (n : Nat) : KasT α -> (α -> Prop) -> Prop
 | .ret a, Q => Q a
 | .ask i j k, Q => i < n /\ j < n /\ Sat lt n (k (lt i j)) Q
theorem sat_mono {α : Type} {lt : Nat -> Nat -> Bool} {n : Nat} {Q Q' : α -> Prop} (h : ∀ a, Q a -> Q' a) : ∀ {t : KasT α}, Sat lt n t Q -> Sat lt n t Q'
 | .ret a, q => h a q
 | .ask i j k, q => ⟨q.1, q.2.1, sat_mono h q.2.2⟩
theorem sat_bind {α β : Type} {lt : Nat -> Nat -> Bool} {n : Nat} {f : α -> KasT β} {Q : β -> Prop} : ∀ {t : KasT α}, Sat lt n t (λ a => Sat lt n (f a) Q) -> Sat lt n (t.bind f) Q
 | .ret a, q => q
 | .ask i j k, q => ⟨q.1, q.2.1, sat_bind q.2.2⟩
theorem sat_wp {α : Type} {lt : Nat -> Nat -> Bool} {n : Nat} {cmp : Nat -> Nat -> (Bool -> Shared -> Prop) -> Shared -> Prop} {J : Shared -> Prop} (hc : ∀ i j C s, i < n -> j < n -> J s -> (∀ s', J s' -> C (lt i j) s') -> cmp i j C s) {Q : α -> Prop} {Q' : α -> Shared -> Prop}
 (h : ∀ a s, Q a -> J s -> Q' a s) : ∀ {t : KasT α} {s : Shared}, J s -> Sat lt n t Q -> t.kasWp cmp Q' s
 | .ret a, s, js, q => h a s q js
 | .ask i j k, s, js, q => hc i j _ s q.1 q.2.1 js λ s' js' => sat_wp hc h js' q.2.2
noncomputable def g (p : Array Nat) (i : Nat) : Nat := (p[i]?).getD 0
theorem getD_g (p : Array Nat) (i : Nat) : p.getD i 0 = g p i := by unfold g; rw [Array.getD_eq_getD_getElem?]
structure Ord (lt : Nat -> Nat -> Bool) (n : Nat) : Prop where
 tr : ∀ a b c, lt a b = true -> lt b c = true -> lt a c = true
 to : ∀ a b, a < n -> b < n -> a ≠ b -> lt a b = false -> lt b a = true
structure Pm (n : Nat) (p : Array Nat) : Prop where
 sz : p.size = n
 lt : ∀ i, i < n -> g p i < n
 inj : ∀ i j, i < n -> j < n -> g p i = g p j -> i = j
 pe : p.Perm (List.range n).toArray
def Asc (lt : Nat -> Nat -> Bool) (p : Array Nat) (m : Nat) : Prop := ∀ i j, i < j -> j < m -> lt (g p i) (g p j) = true
def Dsc (lt : Nat -> Nat -> Bool) (p : Array Nat) (m : Nat) : Prop := ∀ i j, i < j -> j < m -> lt (g p j) (g p i) = true
theorem pm_of {n : Nat} {p : Array Nat} (h : p.Perm (List.range n).toArray) : Pm n p := by
 have hl : p.toList.Perm (List.range n) := by simpa using Array.perm_iff_toList_perm.mp h
 have hz : p.size = n := by rw [<- Q15, hl.length_eq, List.length_range]
 have hnd : p.toList.Nodup := hl.nodup_iff.mpr List.nodup_range
 have hg : ∀ i (hi : i < p.toList.length), g p i = p.toList[i] := λ i hi => by
  unfold g
  rw [<- Q16, gEq hi]
  rfl
 have hlen : p.toList.length = n := by rw [Q15]; exact hz
 refine ⟨hz, λ i hi => ?_, λ i j hi hj e => ?_, h⟩
 · rw [hg i (by omega)]
   have := hl.mem_iff.mp (Qf (l := p.toList) (n := i) (by omega))
   simpa using this
 · rw [hg i (by omega), hg j (by omega)] at e
   exact (List.getElem_inj hnd).mp e
section
variable {lt : Nat -> Nat -> Bool} {n : Nat} (O : Ord lt n)
include O
theorem asc_snoc {p : Array Nat} {m : Nat} (h1 : 1 <= m) (a : Asc lt p m) (l : lt (g p (m - 1)) (g p m) = true) : Asc lt p (m + 1) := λ i j hij hj => by
 by_cases e : j = m
 · subst e
   by_cases e2 : i = j - 1
   · rw [e2]; exact l
   · exact O.tr _ _ _ (a i (j - 1) (by omega) (by omega)) l
 · exact a i j hij (by omega)
theorem dsc_snoc {p : Array Nat} {m : Nat} (h1 : 1 <= m) (a : Dsc lt p m) (l : lt (g p m) (g p (m - 1)) = true) : Dsc lt p (m + 1) := λ i j hij hj => by
 by_cases e : j = m
 · subst e
   by_cases e2 : i = j - 1
   · rw [e2]; exact l
   · exact O.tr _ _ _ l (a i (j - 1) (by omega) (by omega))
 · exact a i j hij (by omega)
theorem asc_ok {p : Array Nat} (P : Pm n p) : ∀ (f m : Nat), 1 <= m -> m + f = n -> Asc lt p m -> Sat lt n (kas_asc p f m) (λ r => m <= r /\ r <= n /\ Asc lt p r /\ (r < n -> lt (g p r) (g p (r - 1)) = true))
 | 0, m, h1, hm, a => ⟨Q1 _, by omega, a, λ z => absurd z (by omega)⟩
 | f + 1, m, h1, hm, a => by
  unfold kas_asc
  rw [getD_g, getD_g]
  refine ⟨P.lt _ (by omega), P.lt _ (by omega), ?_⟩
  cases c : lt (g p m) (g p (m - 1)) with
  | true => exact ⟨Q1 _, by omega, a, λ _ => c⟩
  | false =>
   have l := O.to _ _ (P.lt m (by omega)) (P.lt (m - 1) (by omega)) (λ e => by have := P.inj m (m - 1) (by omega) (by omega) e; omega) c
   exact sat_mono (λ r q => ⟨by omega, q.2⟩) (asc_ok P f (m + 1) (by omega) (by omega) (asc_snoc O h1 a l))
theorem desc_ok {p : Array Nat} (P : Pm n p) : ∀ (f m : Nat), 1 <= m -> m + f = n -> Dsc lt p m -> Sat lt n (kas_desc f p m 0) (λ r => r.1 = p /\ r.2.2 = 0 /\ m <= r.2.1 /\ r.2.1 <= n /\ Dsc lt p r.2.1)
 | 0, m, h1, hm, a => ⟨rfl, rfl, Q1 _, by show m <= n; omega, a⟩
 | f + 1, m, h1, hm, a => by
  unfold kas_desc
  rw [getD_g, getD_g]
  refine ⟨P.lt _ (by omega), P.lt _ (by omega), ?_⟩
  cases c : lt (g p m) (g p (m - 1)) with
  | true => exact sat_mono (λ r q => ⟨q.1, q.2.1, by omega, q.2.2.2⟩) (desc_ok P f (m + 1) (by omega) (by omega) (dsc_snoc O h1 a c))
  | false =>
   have l := O.to _ _ (P.lt m (by omega)) (P.lt (m - 1) (by omega)) (λ e => by have := P.inj m (m - 1) (by omega) (by omega) e; omega) c
   refine ⟨P.lt _ (by omega), P.lt _ (by omega), ?_⟩
   rw [l]
   exact ⟨rfl, rfl, Q1 _, by show m <= n; omega, a⟩
omit O in
theorem rev_pm {p : Array Nat} (P : Pm n p) (i j : Nat) : Pm n (kas_rev p i j) := pm_of ((mirror_perm _ _ _ _).trans P.pe)
omit O in
theorem rev_asc {p : Array Nat} (P : Pm n p) {m : Nat} (hm : m <= n) (a : Dsc lt p m) : Asc lt (kas_rev p 0 m) m := λ i j hij hj => by
 have e : ∀ k, k < m -> g (kas_rev p 0 m) k = g p (m - 1 - k) := λ k hk => by
  unfold g kas_rev
  rw [getElem?_mirror_all (by rw [P.sz]; exact hm), if_pos ⟨zU _, hk⟩, Nat.zero_add]
 rw [e i (by omega), e j hj]
 exact a _ _ (by omega) (by omega)
theorem count_ok {p : Array Nat} (P : Pm n p) (hn : 2 <= n) : Sat lt n (kas_count n p) (λ r => 1 <= r.1 /\ r.1 <= n /\ Pm n r.2 /\ Asc lt r.2 r.1) := by
 unfold kas_count
 refine sat_bind (sat_mono (λ m q_ => ?_) (asc_ok O P (n - 1) 1 (Q1 _) (by omega) (λ i j hij hj => by omega)))
 obtain ⟨h1, h2, a, h3⟩ := q_
 split
 · exact ⟨h1, h2, P, a⟩
 · rename_i ne
   have hm : m < n := by
    have : m ≠ n := λ z => ne (by rw [z]; exact beq_self_eq_true n)
    omega
   split
   · rename_i g1
     rw [getD_g, getD_g]
     refine ⟨P.lt _ (by omega), P.lt _ (by omega), ?_⟩
     rw [a 0 (m - 1) (by omega) (by omega)]
     exact ⟨h1, h2, P, a⟩
   · rename_i g1
     have m1 : m = 1 := by omega
     subst m1
     unfold kas_descPart
     refine sat_bind (sat_mono (λ r ⟨q1, q2, q3, q4, q5⟩ => ?_) (desc_ok O P (n - (1 + 1)) (1 + 1) (by omega) (by omega) (λ i j hij hj => ?_)))
     · have : i = 0 := by omega
       have : j = 1 := by omega
       subst i j
       exact h3 (by omega)
     · rw [q2, if_neg (by omega), q1]
       unfold kas_tail3
       refine sat_bind (sat_mono (λ m q_ => ?_) (asc_ok O (rev_pm P 0 r.2.1) (n - r.2.1) r.2.1 (by omega) (by omega) (rev_asc P q4 q5)))
       obtain ⟨h1, h2, a, h3⟩ := q_
       exact ⟨by show 1 <= m; omega, h2, rev_pm P 0 r.2.1, a⟩
theorem place_ok {p : Array Nat} (P : Pm n p) {k : Nat} (hk : k < n) (a : Asc lt p k) : ∀ (f l r : Nat), l <= r -> r <= k -> r - l <= f -> (∀ i, i < l -> lt (g p i) (g p k) = true) -> (∀ i, r <= i -> i < k -> lt (g p k) (g p i) = true) ->
 Sat lt n (kas_place p k f l r) (λ m => m <= k /\ (∀ i, i < m -> lt (g p i) (g p k) = true) /\ ∀ i, m <= i -> i < k -> lt (g p k) (g p i) = true)
 | 0, l, r, h1, h2, h3, b1, b2 => ⟨by omega, b1, λ i hi hk => b2 i (by omega) hk⟩
 | f + 1, l, r, h1, h2, h3, b1, b2 => by
  unfold kas_place
  split
  · exact ⟨by omega, b1, λ i hi hk => b2 i (by omega) hk⟩
  · rename_i hlr
    rw [getD_g, getD_g]
    have hmid : (l + r) / 2 < r := by omega
    refine ⟨P.lt _ hk, P.lt _ (by omega), ?_⟩
    cases c : lt (g p k) (g p ((l + r) / 2)) with
    | true =>
     refine place_ok P hk a f l ((l + r) / 2) (by omega) (by omega) (by omega) b1 λ i hi hik => ?_
     by_cases e : i = (l + r) / 2
     · rw [e]; exact c
     · exact O.tr _ _ _ c (a _ i (by omega) hik)
    | false =>
     have q := O.to _ _ (P.lt k hk) (P.lt ((l + r) / 2) (by omega)) (λ e => by have := P.inj _ _ hk (by omega) e; omega) c
     refine place_ok P hk a f ((l + r) / 2 + 1) r (by omega) h2 (by omega) (λ i hi => ?_) b2
     by_cases e : i = (l + r) / 2
     · rw [e]; exact q
     · exact O.tr _ _ _ (a i _ (by omega) (by omega)) q
theorem bin_ok : ∀ (f : Nat) {p : Array Nat} (_ : Pm n p) (k : Nat), k + f = n -> Asc lt p k -> Sat lt n (kas_bin f p k) (λ q => Pm n q /\ Asc lt q n)
 | 0, p, P, k, hk, a => ⟨P, by rw [<- hk]; exact a⟩
 | f + 1, p, P, k, hk, a => by
  unfold kas_bin
  refine sat_bind (sat_mono (λ l q_ => ?_) (place_ok O P (by omega) a k 0 k (zU _) (Q1 _) (by omega) (λ i hi => absurd hi (Nat.not_lt_zero _)) (λ i hi hk => by omega)))
  obtain ⟨hl, b1, b2⟩ := q_
  have e : ∀ i, i <= k -> g (bubble p k (k - l)) i = if i = l then g p k else if l < i then g p (i - 1) else g p i := λ i hi => by
   unfold g
   rw [getElem?_bubble (by rw [P.sz]; omega) (k - l) (by omega)]
   by_cases c1 : i = l
   · rw [if_pos (by omega), if_pos c1]
   · rw [if_neg (by omega), if_neg c1]
     by_cases c2 : l < i
     · rw [if_pos (by omega), if_pos c2]
     · rw [if_neg (by omega), if_neg c2]
  refine bin_ok f (pm_of ((bubble_perm _ _ _).trans P.pe)) (k + 1) (by omega) λ i j hij hj => ?_
  rw [e i (by omega), e j (by omega)]
  by_cases c1 : i = l
  · rw [if_pos c1, if_neg (by omega), if_pos (by omega)]
    exact b2 _ (by omega) (by omega)
  · rw [if_neg c1]
    by_cases c2 : j = l
    · rw [if_pos c2, if_neg (by omega)]
      exact b1 _ (by omega)
    · rw [if_neg c2]
      by_cases c3 : l < i
      · rw [if_pos c3, if_pos (by omega)]
        exact a _ _ (by omega) (by omega)
      · rw [if_neg c3]
        by_cases c4 : l < j
        · rw [if_pos c4]
          exact a _ _ (by omega) (by omega)
        · rw [if_neg c4]
          exact a _ _ hij (by omega)
theorem sort_ok (hn : 2 <= n) : Sat lt n (kas_sort n) (λ q => Pm n q /\ Asc lt q n) := by
 unfold kas_sort
 refine sat_bind (sat_mono (λ r q_ => ?_) (count_ok O (pm_of (Array.Perm.refl _)) hn))
 obtain ⟨h1, h2, P, a⟩ := q_
 split
 · have : max r.1 1 = r.1 := by omega
   rw [this]
   exact bin_ok O _ P r.1 (by omega) a
 · have : r.1 = n := by omega
   exact ⟨P, by rw [<- this]; exact a⟩
end
end SRT
namespace L2
open PySem PySem.Spec PyProof.Rows PySem.W Att
noncomputable def lexI : List Int -> List Int -> Bool
 | [], [] => false
 | [], _ :: _ => true
 | _ :: _, [] => false
 | a :: x, c :: y => if a = c then lexI x y else decide (a < c)
noncomputable def lexB (fin : Bool) : List Int -> List Int -> Bool
 | a :: x, c :: y => if a = c then lexB fin x y else decide (a < c)
 | _, _ => fin
theorem lexB_eq : ∀ (x y : List Int), lexB (decide (x.length < y.length)) x y = lexI x y
 | [], [] => rfl
 | [], _ :: _ => by simp [lexB, lexI]
 | _ :: _, [] => by simp [lexB, lexI]
 | a :: x, c :: y => by
  have e : decide ((a :: x).length < (c :: y).length) = decide (x.length < y.length) := by simp
  rw [e]
  unfold lexB lexI
  rw [lexB_eq x y]
theorem lexI_tr : ∀ (x y z : List Int), lexI x y = true -> lexI y z = true -> lexI x z = true
 | [], [], _, h, _ => by cases h
 | [], _ :: _, [], _, h => by cases h
 | [], _ :: _, _ :: _, _, _ => rfl
 | _ :: _, [], _, h, _ => by cases h
 | _ :: _, _ :: _, [], _, h => by cases h
 | a :: x, b :: y, c :: z, h1, h2 => by
  unfold lexI at h1 h2 ⊢
  by_cases e1 : a = b
  · rw [if_pos e1] at h1
    by_cases e2 : b = c
    · rw [if_pos e2] at h2
      rw [if_pos (e1.trans e2)]
      exact lexI_tr x y z h1 h2
    · rw [if_neg e2] at h2
      rw [if_neg (by omega), e1]
      exact h2
  · rw [if_neg e1] at h1
    have l1 := of_decide_eq_true h1
    by_cases e2 : b = c
    · rw [if_neg (by omega), <- e2]
      exact h1
    · rw [if_neg e2] at h2
      have l2 := of_decide_eq_true h2
      rw [if_neg (by omega)]
      exact decide_eq_true (by omega)
theorem lexI_to : ∀ (x y : List Int), x ≠ y -> lexI x y = false -> lexI y x = true
 | [], [], h, _ => absurd rfl h
 | [], _ :: _, _, h => by cases h
 | _ :: _, [], _, _ => rfl
 | a :: x, c :: y, hn, h => by
  unfold lexI at h ⊢
  by_cases e : a = c
  · rw [if_pos e] at h
    rw [if_pos e.symm]
    exact lexI_to x y (λ z => hn (by rw [e, z])) h
  · rw [if_neg e] at h
    rw [if_neg (λ z => e z.symm)]
    have := of_decide_eq_false h
    exact decide_eq_true (by omega)
section
variable {prog : Program} {w : World} {A : Around} {E : Value -> Shared -> Prop} {s : Shared} {b : Bool} {Q : Bool -> Shared -> Prop}
theorem oneLt_ints {p : Bool} {x y : Int} {t u : Tok} (h : Q (decide (x < y)) s) : wpAny (model prog w) A (oneLt' p (.int x t) (.int y u)) Q E s := by
 cases p with
 | true => exact oneLt_int h
 | false => exact kat_one _ _ (lt_int h)
theorem katlex_ints {fin : Bool} {xs ys : List Value} {ns ms : List Int} (hx : IntsAre xs ns) (hy : IntsAre ys ms) : ∀ i, Q (lexB fin ns ms) s -> KatLex prog w A b fin Q (xs.zip ys) i s := by
 induction hx generalizing ys ms with
 | nil => exact λ i h => kat_nil h
 | cons a t hx ih =>
  intro i h
  cases hy with
  | nil => exact kat_nil h
  | cons c u hy =>
   refine kat_cons (wpAny_eqBool_int ?_)
   unfold lexB at h
   by_cases e : a = c
   · rw [if_pos e] at h
     rw [show (a == c) = true from beq_iff_eq.mpr e]
     exact kat_yes (ih hy (i + 1) h)
   · rw [if_neg e] at h
     rw [show (a == c) = false from beq_eq_false_iff_ne.mpr e]
     exact kat_no (oneLt_ints h)
end
def TpI (h : Heap) (v : Value) (k : List Int) : Prop := ∃ a o arr n, v = .ref a /\ h.get? a = some o /\ o.cls = .type "tuple" /\ o.data = .seq arr n /\ IntsAre arr.toList k
theorem TpI.firsts {h : Heap} {vs : List Value} {ks : List (List Int)} (p : Paired (TpI h) vs ks) (hp : ∀ k ∈ ks, k ≠ []) : ∃ fs, KatTups h vs fs /\ fs.length = vs.length /\ ∀ f ∈ fs, ∃ n t, f = Value.int n t := by
 induction p with
 | nil => exact ⟨[], KatTups.nil, rfl, λ f hf => nomatch hf⟩
 | cons q r ih =>
  obtain ⟨a, o, arr, n, e1, e2, e3, e4, e5⟩ := q
  obtain ⟨fs, h1, h2, h3⟩ := ih λ k hk => hp k (lMc _ hk)
  subst e1
  have ne := hp _ lMs
  generalize hl : arr.toList = l at e5
  cases e5 with
  | nil => exact absurd rfl ne
  | cons x t hx =>
   refine ⟨.int x t :: fs, KatTups.cons e2 e3 e4 (by rw [<- Q16, hl]; rfl) h1, by rw [zC, zC, h2], λ f hf => ?_⟩
   rcases Qb.mp hf with rfl | hf
   · exact ⟨x, t, rfl⟩
   · exact h3 f hf
theorem pgetD {α β : Type} {R : α -> β -> Prop} {x : α} {y : β} : ∀ {l : List α} {m : List β} (i : Nat), Paired R l m -> i < l.length -> R (l.getD i x) (m.getD i y)
 | _, _, _, .nil, h => absurd h (Nat.not_lt_zero _)
 | _, _, 0, .cons r _, _ => r
 | _ :: _, _ :: _, i + 1, .cons _ t, h => pgetD i t (Nat.lt_of_succ_lt_succ h)
section
variable {prog : Program} {w : World} {A : Around} {E : Value -> Shared -> Prop} {s : Shared}
theorem lsort_tups2 {L D : Addr} {m : Str -> Option Value} {c : Nat} {vs : List Value} {ks : List (List Int)} {Q : Value -> Shared -> Prop} (hL : s.heap.Ns L m) (hne : D ≠ L) (hD : s.heap.get? D = some (listOf vs.toArray c)) (ht : Paired (TpI s.heap) vs ks)
 (hnd : ks.Nodup) (hpos : ∀ k ∈ ks, k ≠ []) (h2 : 2 <= vs.length) (h64 : vs.length < 64)
 (k : ∀ h' c' (q : Array Nat), (∀ b o, b ≠ L -> b ≠ D -> s.heap.get? b = some o -> h'.get? b = some o) -> h'.Ns L m -> h'.get? D = some (listOf (q.toList.map λ i => vs.getD i .none).toArray c') ->
  SRT.Pm vs.length q -> SRT.Asc (λ i j => lexI (ks.getD i []) (ks.getD j [])) q vs.length -> Q .none { s with heap := h' }) :
 wpAny (model prog w) A (call (.builtin "list.sort") [.ref D]) Q E s := by
 have hlen : vs.length = ks.length := Paired.length ht
 have led : ∀ p ∈ ledger s.heap L D, p.1 ≠ D := λ ⟨_, _⟩ hp => (mem_ledger.mp hp).2.1
 refine kat_lsort (h₀ := noObjs s.heap) (L := L) (m := m) (news := (D, listOf vs.toArray c) :: ledger s.heap L D) (g := λ o => (D, o) :: ledger s.heap L D) (its := vs.toArray) (fr_all hL) (news_ledger hne hD) (.head led) (by simp) h2 h64 λ e1 h' F' N' => ?_
 have keep : ∀ b o, b ≠ L -> b ≠ D -> s.heap.get? b = some o -> h'.get? b = some o := λ b o n1 n2 e => (N' (b, o) (lMc _ (mem_ledger.mpr ⟨n1, n2, e⟩))).1
 obtain ⟨oL, esL, epL, hoL, hdL, _⟩ := hL
 have tup : ∀ {v : Value} {kk : List Int}, TpI s.heap v kk -> TpI h' v kk := λ q => by
  obtain ⟨a, o, arr, n, e1, e2, e3, e4, e5⟩ := q
  exact ⟨a, o, arr, n, e1, keep a o (λ z => by rw [z, hoL] at e2; cases e2; rw [hdL] at e4; cases e4) (λ z => by rw [z, hD] at e2; cases e2; exact absurd (Value.type.inj e3) (by decide)) e2, e3, e4, e5⟩
 have ht' : Paired (TpI h') vs ks := Paired.mapP ht λ a b q => tup q
 obtain ⟨fs, t1, t2, t3⟩ := TpI.firsts ht' hpos
 refine kat_kind (T := .type "int") t1 (by omega) (λ v hv => by obtain ⟨n, t, rfl⟩ := t3 v hv; exact Looks.of_pure rfl) rfl ?_
 have O : SRT.Ord (λ i j => lexI (ks.getD i []) (ks.getD j [])) vs.length := ⟨λ a b c => lexI_tr _ _ _, λ a b ha hb hab => lexI_to _ _ λ e => hab (by
  rw [gDq, gDq, gEq (by omega), gEq (by omega)] at e
  exact (List.getElem_inj hnd).mp e)⟩
 refine SRT.sat_wp (lt := λ i j => lexI (ks.getD i []) (ks.getD j [])) (n := vs.length) (J := λ s' => s' = { s with heap := h' }) (λ i j C s' hi hj js hC => ?_) (λ p s' hp js => ?_) rfl (SRT.sort_ok O h2)
 · subst js
   obtain ⟨a1, o1, r1, n1, x1, x2, x3, x4, x5⟩ := pgetD (x := Value.none) (y := []) i ht' hi
   obtain ⟨a2, o2, r2, n2, y1, y2, y3, y4, y5⟩ := pgetD (x := Value.none) (y := []) j ht' hj
   unfold kas_ask
   rw [x1, y1]
   refine kat_lt x2 x4 y2 y4 (katlex_ints x5 y5 0 ?_)
   have z1 : r1.size = (ks.getD i []).length := by rw [<- Q15]; exact x5.length
   have z2 : r2.size = (ks.getD j []).length := by rw [<- Q15]; exact y5.length
   rw [z1, z2, lexB_eq]
   exact hC _ rfl
 · subst js
   refine KasFin.intro F' N' (.head led) λ h'' c' F'' N'' => ?_
   exact k h'' c' p (λ b o n1 n2 e => (N'' (b, o) (lMc _ (mem_ledger.mpr ⟨n1, n2, e⟩))).1) F''.ns (N'' _ lMs).1 hp.1 hp.2
theorem lsort_short {D : Addr} {c : Nat} {vs : List Value} {Q : Value -> Shared -> Prop} (hD : s.heap.get? D = some (listOf vs.toArray c)) (h2 : vs.length < 2)
 (k : ∀ h' c', (∀ b o, b ≠ D -> s.heap.get? b = some o -> h'.get? b = some o) -> h'.get? D = some (listOf vs.toArray c') -> Q .none { s with heap := h' }) : wpAny (model prog w) A (call (.builtin "list.sort") [.ref D]) Q E s := by
 refine wpAny_call_entry slot_list_sort ⟨_, hD, rfl⟩ entry_list_sort ?_ (args_list_sort _); rw [list_sort_plain]
 have ha : D < s.heap.objs.size := hLs hD
 refine wB (listItems_at hD rfl ?_); refine wB (listUpdate_at hD rfl ?_ (hsz := by rw [zM, sizeLine_eq]; omega))
 obtain ⟨e1, ho1⟩ : ∃ e1, (s.heap.update D (Obj.mapSeq λ _ => #[])).get? D = some (seqObj "list" #[] e1) := ⟨_, get?_update_seq hD (λ _ => #[])⟩
 have kk : ∀ b o, b ≠ D -> s.heap.get? b = some o -> (s.heap.update D (Obj.mapSeq λ _ => #[])).get? b = some o := λ b o nb e => (hUo _ _ (Ne.symm nb)).trans e
 generalize s.heap.update D (Obj.mapSeq λ _ => #[]) = G0 at ho1 kk
 refine wB (seqEpoch_at ho1 rfl ?_); refine wB (wpAny_newTuple ?_ (by rw [List.toList_toArray, sizeLine_eq]; omega)); refine wB (wpAny_newList ?_); refine wpAny_holding ?_
 have ho2 := hPo (seqObj "list" #[] 0) (hPo (seqObj "tuple" vs.toArray 0) ho1)
 have k2 : ∀ b o, b ≠ D -> s.heap.get? b = some o -> ((G0.push (seqObj "tuple" vs.toArray 0)).push (seqObj "list" #[] 0)).get? b = some o := λ b o nb e => hPo _ (hPo _ (kk b o nb e))
 show wpAny (model prog w) _ _ _ _ { s with heap := (G0.push (seqObj "tuple" vs.toArray 0)).push (seqObj "list" #[] 0) }
 generalize (G0.push (seqObj "tuple" vs.toArray 0)).push (seqObj "list" #[] 0) = G at ho2 k2
 have h2' : vs.toArray.size < 2 := by rw [zM]; exact h2
 rw [if_pos h2', if_pos h2']; refine wB (wP ?_); dsimp only; rw [StateT.run_pure]; refine wB (wP ?_); dsimp only
 have out : (arrOf (SortSt.mk' general' (vs.toArray.zip vs.toArray) #[] 7 none)).map (·.2) = vs.toArray := by
  show (vs.toArray.zip vs.toArray).map (·.2) = vs.toArray
  rcases vs with _ | ⟨v, _ | ⟨u, r⟩⟩
  · simp
  · simp
  · exact absurd h2 (Nat.not_lt.mpr (Nat.le_add_left 2 _))
 rw [out]
 refine wB (seqEpoch_at ho2 rfl ?_); refine wB (listUpdate_at ho2 rfl ?_ (hsz2 := by show vs.toArray.size <= _; rw [sizeLine_eq]; omega))
 simp only [bne_self_eq_false, zN, if_false]
 exact wP ⟨_, rfl, k _ _ (λ b o nb e => (hUo _ _ (Ne.symm nb)).trans (k2 b o nb e)) (get?_update_seq ho2 (λ _ => vs.toArray))⟩
theorem pm_short {n : Nat} (h : n < 2) (lt : Nat -> Nat -> Bool) : SRT.Pm n (Array.range n) /\ SRT.Asc lt (Array.range n) n := by
 refine ⟨SRT.pm_of (by rw [show Array.range n = (List.range n).toArray by simp]), λ i j hij hj => ?_⟩
 omega
theorem out_short {vs : List Value} (h : vs.length < 2) : ((Array.range vs.length).toList.map λ i => vs.getD i .none) = vs := by
 rcases vs with _ | ⟨v, _ | ⟨u, r⟩⟩
 · rfl
 · rfl
 · exact absurd h (Nat.not_lt.mpr (Nat.le_add_left 2 _))
theorem lsort_tups {L D : Addr} {m : Str -> Option Value} {c : Nat} {vs : List Value} {ks : List (List Int)} {Q : Value -> Shared -> Prop} (hL : s.heap.Ns L m) (hne : D ≠ L) (hD : s.heap.get? D = some (listOf vs.toArray c)) (ht : Paired (TpI s.heap) vs ks)
 (hnd : ks.Nodup) (hpos : ∀ k ∈ ks, k ≠ []) (h64 : vs.length < 64)
 (k : ∀ h' c' (q : Array Nat), (∀ b o, b ≠ L -> b ≠ D -> s.heap.get? b = some o -> h'.get? b = some o) -> h'.Ns L m -> h'.get? D = some (listOf (q.toList.map λ i => vs.getD i .none).toArray c') ->
  SRT.Pm vs.length q -> SRT.Asc (λ i j => lexI (ks.getD i []) (ks.getD j [])) q vs.length -> Q .none { s with heap := h' }) :
 wpAny (model prog w) A (call (.builtin "list.sort") [.ref D]) Q E s := by
 by_cases h2 : 2 <= vs.length
 · exact lsort_tups2 hL hne hD ht hnd hpos h2 h64 k
 · have h2' : vs.length < 2 := by omega
   obtain ⟨p1, p2⟩ := pm_short h2' (λ i j => lexI (ks.getD i []) (ks.getD j []))
   exact lsort_short hD h2' λ h' c' kp hD' => k h' c' (Array.range vs.length) (λ b o _ nb e => kp b o nb e) (by obtain ⟨o, es, ep, e1, e2⟩ := hL; exact ⟨o, es, ep, kp _ _ hne.symm e1, e2⟩) (by rw [out_short h2']; exact hD') p1 p2
end
end L2
namespace L2
open PySem PySem.Spec PyProof.Rows PySem.W
section
variable {prog : Program} {w : World} {A : Around} {E : Value -> Shared -> Prop} {s : Shared} {d it : Addr} {es : Array DictEntry} {ep : Nat}
end
end L2
namespace L2
open PySem PySem.Spec PyProof.Rows PySem.W Att
theorem ns_unique {h : Heap} {L : Addr} {m m' : Str -> Option Value} (a : h.Ns L m) (b : h.Ns L m') : m = m' := by
 obtain ⟨o, es, ep, e1, e2, e3, e4⟩ := a
 obtain ⟨o', es', ep', f1, f2, f3, f4⟩ := b
 rw [e1] at f1
 cases f1
 rw [e2] at f2
 cases f2
 funext x
 rw [<- e4 x, <- f4 x]
theorem ints_of_vals {ks : List Int} {us : List Value} (h : Vals (ks.map V.int) us) : IntsAre us ks := by
 induction ks generalizing us with
 | nil => cases h; exact .nil
 | cons k ks ih => cases h with
  | cons r t =>
   obtain ⟨tk, e⟩ := (show ∃ t, _ = Value.int k t from r)
   rw [e]
   exact .cons k tk (ih t)
theorem key_ints (k : List Int) : (k.map (Sum.inl : Int -> Key)).map kV = k.map V.int := by
 rw [zO]
 rfl
theorem paired_of {α β : Type} {R : α -> β -> Prop} {x : α} {y : β} : ∀ {l : List α} {m : List β}, l.length = m.length -> (∀ i, i < l.length -> R (l.getD i x) (m.getD i y)) -> Paired R l m := by
 intro l
 induction l with
 | nil => intro m e h; cases m with
  | nil => exact .nil
  | cons _ _ => cases e
 | cons a l ih => intro m e h; cases m with
  | nil => cases e
  | cons b m => exact .cons (h 0 (Nat.succ_pos _)) (ih (Nat.succ.inj e) λ i hi => h (i + 1) (Nat.succ_lt_succ hi))
theorem vals_refs : ∀ bs : List Addr, Vals (bs.map V.ref) (bs.map Value.ref)
 | [] => .nil
 | b :: bs => .cons rfl (vals_refs bs)
end L2
namespace DL
open PySem L2
noncomputable def leI (a b : List Int) : Bool := lexI a b || decide (a = b)
noncomputable def sortK (ks : List (List Int)) : List (List Int) := ks.mergeSort leI
theorem lexI_irr : ∀ x : List Int, lexI x x = false
 | [] => rfl
 | a :: x => by unfold lexI; rw [if_pos rfl]; exact lexI_irr x
theorem leI_tr (a b c : List Int) (h1 : leI a b = true) (h2 : leI b c = true) : leI a c = true := by
 unfold leI at *
 rcases Bool.or_eq_true_iff.mp h1 with h1 | h1
 · rcases Bool.or_eq_true_iff.mp h2 with h2 | h2
   · rw [lexI_tr a b c h1 h2]; rfl
   · rw [<- of_decide_eq_true h2, h1]; rfl
 · rw [of_decide_eq_true h1]; exact h2
theorem leI_to (a b : List Int) : (leI a b || leI b a) = true := by
 unfold leI
 by_cases e : a = b
 · simp [e]
 · cases h : lexI a b with
   | true => rfl
   | false => rw [lexI_to a b e h]; simp
theorem sorted_unique : ∀ {l m : List (List Int)}, l.Perm m -> l.Pairwise (λ a b => lexI a b = true) -> m.Pairwise (λ a b => lexI a b = true) -> l = m
 | [], m, p, _, _ => by rw [List.nil_perm.mp p]
 | a :: x, [], p, _, _ => absurd p.length_eq (by simp)
 | a :: x, b :: y, p, s1, s2 => by
  have e : a = b := by
   have ha : a ∈ b :: y := p.mem_iff.mp lMs
   have hb : b ∈ a :: x := p.mem_iff.mpr lMs
   rcases Qb.mp ha with ha | ha
   · exact ha
   · rcases Qb.mp hb with hb | hb
     · exact hb.symm
     · have l1 := (List.pairwise_cons.mp s1).1 b hb
       have l2 := (List.pairwise_cons.mp s2).1 a ha
       have := lexI_tr a b a l1 l2
       rw [lexI_irr] at this
       cases this
  subst e
  rw [sorted_unique (List.Perm.cons_inv p) (List.pairwise_cons.mp s1).2 (List.pairwise_cons.mp s2).2]
theorem sortK_of {ks l : List (List Int)} (nd : ks.Nodup) (p : l.Perm ks) (s : l.Pairwise λ a b => lexI a b = true) : l = sortK ks := by
 have p2 : (sortK ks).Perm ks := List.mergeSort_perm ks leI
 have s2 : (sortK ks).Pairwise λ a b => leI a b = true := List.pairwise_mergeSort leI_tr leI_to ks
 have n2 : (sortK ks).Nodup := p2.nodup_iff.mpr nd
 refine sorted_unique (p.trans p2.symm) s ((s2.and n2).imp λ h => ?_)
 rcases Bool.or_eq_true_iff.mp h.1 with z | z
 · exact z
 · exact absurd (of_decide_eq_true z) h.2
theorem sortK_q {ks : List (List Int)} {q : Array Nat} (nd : ks.Nodup) (P : SRT.Pm ks.length q) (A : SRT.Asc (λ i j => lexI (ks.getD i []) (ks.getD j [])) q ks.length) : ((List.range ks.length).map λ i => ks.getD (SRT.g q i) []) = sortK ks := by
 have hl2 : q.toList.Perm (List.range ks.length) := by simpa using Array.perm_iff_toList_perm.mp P.pe
 have ql : q.toList = (List.range ks.length).map (SRT.g q) := by
  apply List.ext_getElem
  · rw [Q15, P.sz, zJ, List.length_range]
  · intro i h1 h2
    rw [List.getElem_map, List.getElem_range]
    unfold SRT.g
    rw [<- Q16, gEq h1]
    rfl
 have kr : (List.range ks.length).map (λ i => ks.getD i []) = ks := by
  apply List.ext_getElem
  · rw [zJ, List.length_range]
  · intro i h1 h2
    rw [List.getElem_map, List.getElem_range, gDq, gEq h2]
    rfl
 refine sortK_of nd ?_ ?_
 · have : ((List.range ks.length).map λ i => ks.getD (SRT.g q i) []) = q.toList.map λ i => ks.getD i [] := by rw [ql, zO]; rfl
   rw [this]
   have p := hl2.map (λ i => ks.getD i [])
   rw [kr] at p
   exact p
 · rw [List.pairwise_map]
   refine List.pairwise_iff_getElem.mpr λ i j hi hj hij => ?_
   rw [List.getElem_range, List.getElem_range]
   exact A i j hij (by simpa using hj)
noncomputable def keyD : PyData -> Option (List Int)
 | .tuple ds => intsD ds
 | _ => none
section
variable {K : Fg}
theorem are_tups {F : Hp} : ∀ {bs : List Addr} {ks : List (List Int)}, bs.length = ks.length -> (∀ i, i < ks.length -> F (bs.getD i 0) = some (.tup ((ks.getD i []).map V.int))) -> Are K F (bs.map V.ref) (ks.map λ k => .tuple (k.map .int))
 | [], [], _, _ => rfl
 | [], _ :: _, e, _ => by cases e
 | _ :: _, [], e, _ => by cases e
 | b :: bs, k :: ks, e, h => ⟨.ref b, _, rfl, ⟨b, _, rfl, h 0 (Nat.succ_pos _), Are.ints.mpr rfl⟩, are_tups (Nat.succ.inj e) λ i hi => h (i + 1) (Nat.succ_lt_succ hi)⟩
theorem Grow.tups {F H : Hp} (s : Same F H) (bs : List Addr) (hb : ∀ b ∈ bs, ∃ xs, H b = some (.tup xs)) : ∃ F', Grow F H F' H /\ ∀ b ∈ bs, F' b = H b := by
 refine ⟨λ b => if b ∈ bs then H b else F b, ⟨λ b u e => ?_, λ b u e => ?_, Same.refl _, λ b u e t n => ?_⟩, λ b hb => if_pos hb⟩
 · show (if b ∈ bs then H b else F b) = some u
   split
   · exact s b u e
   · exact e
 · have e : (if b ∈ bs then H b else F b) = some u := e
   split at e
   · exact e
   · exact s b u e
 · show (if b ∈ bs then H b else F b) = none
   split
   · rename_i hm
     obtain ⟨xs, z⟩ := hb b hm
     rw [z] at e
     cases e
     exact absurd rfl (t xs)
   · exact n
end
end DL
namespace L2
open PySem
section
variable {prog : Program} {w : World} {K : Type} [DecidableEq K] {knd : HeapKind prog w K} {A : Around} {E : Value -> Shared -> Prop} {s : Shared} {d a : Addr} {xs : List (K × Addr × Value)} {k : K} {v : Value} {o : Obj} {es : Array DictEntry} {ep : Nat}
end
end L2
namespace L2
open PySem PySem.Spec PyProof.Rows
section
variable {κ : Type} [DecidableEq κ]
noncomputable def valV (kvs : List (κ × V)) (k : κ) : Option V := (kvs.find? λ kv => decide (kv.1 = k)).map (·.2)
noncomputable def putK (kvs : List (κ × V)) (k : κ) (v : V) : List (κ × V) :=
 if (kvs.any λ kv => decide (kv.1 = k)) = true then kvs.map (λ kv => if kv.1 = k then (kv.1, v) else kv) else kvs ++ [(k, v)]
theorem RelO.getD {o : Option V} {u : Option Value} {d : V} {d' : Value} (r : RelO o u) (rd : RelV d d') : RelV (o.getD d) (u.getD d') := by
 cases o with
 | none => cases u with
  | none => exact rd
  | some _ => exact (show False from r).elim
 | some _ => cases u with
  | none => exact (show False from r).elim
  | some _ => exact r
theorem KV.any {kvs : List (κ × V)} {vs : List (κ × Value)} (r : KV kvs vs) (k : κ) : (kvs.any λ kv => decide (kv.1 = k)) = vs.any λ kv => decide (kv.1 = k) := by
 unfold KV at r
 induction r with
 | nil => rfl
 | cons h t ih => rw [List.any_cons, List.any_cons, ih, h.1]
theorem KV.length {kvs : List (κ × V)} {vs : List (κ × Value)} (r : KV kvs vs) : kvs.length = vs.length := Paired.length r
end
theorem kV_is {P : Program} {w : World} {k : Key} {u : Value} (r : RelV (kV k) u) : (mixKind P w).is k u = true := by
 cases k with
 | inl i => obtain ⟨t, e⟩ := (show ∃ t, u = Value.int i t from r); subst e; exact mixKind_int P w i t
 | inr x => obtain ⟨t, e⟩ := (show ∃ t, u = Value.str x t from r); subst e; exact mixKind_str P w x t
theorem items_are {P : Program} {w : World} : ∀ {ks : List Key} {us : List Value}, Vals (ks.map kV) us -> ItemsAre (mixKind P w) ks us
 | [], _, r => by rw [zL] at r; cases r; exact .nil
 | k :: ks, _, r => by
  rw [zI] at r
  cases r with
  | cons h t => exact .cons (kV_is h) (items_are t)
section
variable {P : Program} {w : World} {H : Hp} {h : Heap} {a : Addr}
theorem key_of {ks : List Key} (ok : HOk P w H h) (e : H a = some (.tup (ks.map kV))) : (tupleKind (mixKind P w)).is h ks a := by
 obtain ⟨_, its, r, ⟨o, h1, h2, n, h3⟩, _⟩ := (show ObjOk P w H h a (.tup (ks.map kV)) from ok a _ e)
 exact ⟨o, its.toArray, n, h1, h2, h3, by simpa using items_are r⟩
end
def DGet (H : Hp) (a : Addr) (y : V) (r : Option V) : Prop :=
 (∃ kvs k, Rd H a (.dK kvs) /\ y = kV k /\ r = valV kvs k) \/ ∃ kvs k b, Rd H a (.dT kvs) /\ y = .ref b /\ H b = some (.tup (k.map kV)) /\ r = valV kvs k
def DPut (H : Hp) (a : Addr) (y v : V) (H' : Hp) : Prop :=
 (∃ kvs k, H a = some (.dK kvs) /\ y = kV k /\ kvs.length < sizeLine /\ H' = upd H a (.dK (putK kvs k v))) \/
 ∃ kvs k b, H a = some (.dT kvs) /\ y = .ref b /\ H b = some (.tup (k.map kV)) /\ kvs.length < sizeLine /\ H' = upd H a (.dT (putK kvs k v))
theorem DGet.k {H : Hp} {a : Addr} {kvs : List (Key × V)} {k : Key} (e : H a = some (.dK kvs)) : DGet H a (kV k) (valV kvs k) := .inl ⟨kvs, k, .inl e, rfl, rfl⟩
theorem DGet.t {H : Hp} {a b : Addr} {kvs : List (List Key × V)} {k : List Key} (e : H a = some (.dT kvs)) (eb : H b = some (.tup (k.map kV))) : DGet H a (.ref b) (valV kvs k) := .inr ⟨kvs, k, b, .inl e, rfl, eb, rfl⟩
theorem DPut.t {H : Hp} {a b : Addr} {kvs : List (List Key × V)} {k : List Key} {v : V} (e : H a = some (.dT kvs)) (eb : H b = some (.tup (k.map kV))) (hl : kvs.length < sizeLine) :
 DPut H a (.ref b) v (upd H a (.dT (putK kvs k v))) := .inr ⟨kvs, k, b, e, rfl, eb, hl, rfl⟩
section
variable {X : Cx} {pins : List (Addr × Obj)} {σ : St} {H : Hp} {s : Shared} {a : Addr} {y v : V} {u r : Value} {o : Option V} {A : Around} {E : Value -> Shared -> Prop}
theorem Inv.big (I : Inv X pins σ H s) : sysModules < s.heap.objs.size := by
 have h : mainGlobals < s.heap.objs.size := (I.mod.glob.keeps I.bk).lt
 exact Nat.lt_trans (by decide) h
theorem d_write {h' : Heap} {t' : Nat} {ob : HO} (I : Inv X pins σ H s) (mu : Mut (H a)) (hs : Heap.SameBut a s.heap h') (he : ∃ q, h'.get? a = some q) (new : ObjOk X.prog X.w (upd H a ob) h' a ob) :
 Inv X pins σ (upd H a ob) { s with heap := h', toks := t' } :=
 I.write (x := a) (e := a) mu (.inl rfl) (λ b q hb z => (hs.2 b hb).trans z) he new
end
section
variable {X : Cx} {pins : List (Addr × Obj)} {σ : St} {H : Hp} {s : Shared} {a : Addr} {kvs : List (Key × V)} {k : Key} {u : Value} {A : Around} {E : Value -> Shared -> Prop}
end
def NoSl (i : Expr) : Prop := ∀ ov iv, subscripted i false ov iv = operate [ov, iv] (getItem ov iv)
theorem subD_of {prog : Program} {w : World} {A : Around} {E : Value -> Shared -> Prop} {s : Shared} {env : Env} {value slice : Expr} {pos : Pos} {T id : String} {Q : Value -> Shared -> Prop}
 (hl : typeLookup (.type T) "__getitem__" = pure (some (.builtin id))) (hs : NoSl slice)
 (h : wpAny (model prog w) A (eval value env) (λ o s₁ => wpAny (model prog w) A (eval slice env) (λ i s₂ => s₂.TypeIs o T /\ wpAny (model prog w) A (getItem o i) Q E s₂) E s₁) E s) :
 wpAny (model prog w) A (eval (.Subscript value slice pos) env) Q E s := by
 refine Subscript_ (wpAny_mono h (λ o s₁ h₁ => wpAny_mono h₁ (λ i s₂ h₂ => ?_) λ _ _ x => x) λ _ _ x => x)
 obtain ⟨hT, h₂⟩ := h₂
 unfold subscriptTail
 refine wB ?_
 rw [getitemInPython_of_ne hT.not_modules]
 refine wB (wpAny_specialOf hT hl ?_)
 have fin : wpAny (model prog w) A (subscripted slice false o i) (λ r s₃ => wpAny (model prog w) A (letTemporaryGo value o r >>= λ _ => pure r) Q E s₃) E s₂ := by
  rw [hs o i]
  exact wpAny_operating (wpAny_mono h₂ (λ r s₃ h₃ => wB (wpAny_letTemporaryGo (wP h₃))) λ _ _ x => x)
 first
  | exact wP (wB fin)
  | exact wB (wP (wB fin))
  | exact wB fin
section
variable {X : Cx} {o i e value : Expr} {pos pos' tpos : Pos} {td ty tv : TE}
end
section
variable {X : Cx} {pos : Pos}
end
section
variable {X : Cx} {pins : List (Addr × Obj)} {σ : St} {H : Hp} {s : Shared} {a : Addr} {y d : V} {u r : Value} {o : Option V} {A : Around} {E : Value -> Shared -> Prop}
end
section
variable {X : Cx} {o e f : Expr} {apos cpos : Pos} {td ty tx : TE}
end
section
variable {X : Cx} {pins : List (Addr × Obj)} {σ : St} {H : Hp} {s : Shared} {a : Addr} {kvs : List (Key × V)} {A : Around} {E : Value -> Shared -> Prop}
end
section
variable {X : Cx} {pins : List (Addr × Obj)} {σ : St} {H : Hp} {s : Shared} {a : Addr} {y : V} {u : Value} {A : Around} {E : Value -> Shared -> Prop}
end
end L2
namespace DL
open PySem L2
section
variable {K : Fg} {H0 F0 F : Hp} {σ : St} {H : Hp} {δ : DSt}
end
section
variable {K : Fg}
end
section
variable {K : Fg}
end
end DL
namespace L2
open PySem PySem.Spec PyProof.Rows
mutual
noncomputable def ltD : PyData -> PyData -> Option Bool
 | .int i, .int j => some (decide (i < j))
 | .bool p, .bool q => some (decide (b2i p < b2i q))
 | .tuple xs, .tuple ys => ltL xs ys
 | _, _ => none
noncomputable def ltL : List PyData -> List PyData -> Option Bool
 | [], [] => some false
 | [], _ :: _ => some true
 | _ :: _, [] => some false
 | x :: xs, y :: ys => if PyData.eqv x y = true then ltL xs ys else ltD x y
end
def LtAt (A : Around) (s : Shared) (a b : Value) (r : Bool) : Prop :=
 ∀ (prog : Program) (w : World) (E : Value -> Shared -> Prop) (Q : Value -> Shared -> Prop), Q (.bool r) s -> wpAny (model prog w) A (richCompare .Lt a b) Q E s
noncomputable def LexAt (A : Around) (s : Shared) (fin : Bool) : List Value -> List Value -> Bool -> Prop
 | v :: vs, w :: ws, r => (SeqAt.EqAt A s v w true /\ LexAt A s fin vs ws r) \/ (SeqAt.EqAt A s v w false /\ LtAt A s v w r)
 | _, _, r => r = fin
section
open PySem.SeqAt
open PySem.AutoSeq1 (wpAny_loadPart')
open PySem.MeetsSeq PySem.MeetsSeq2 PySem.MeetsSeq3
theorem tuple_lt_gen (l b : Addr) (items items2 : Array Value) (n n2 : Nat) (dd dd2 : Option Addr) (sl sl2 : Array (Option Value)) (r : Bool) :
 Meets (Builtin.«tuple.__lt__» ⟨[.ref l, .ref b], []⟩)
  (λ A R s => s.heap.get? l = some { cls := .type "tuple", dict := dd, data := .seq items n, slots := sl } /\ s.heap.get? b = some { cls := .type "tuple", dict := dd2, data := .seq items2 n2, slots := sl2 } /\
   LexAt A.in1 s (decide (items.size < items2.size)) items.toList items2.toList r /\ R (.ok (.ret (.bool r))) s) :=
 .of_wp λ prog w A R s h => by
  obtain ⟨hp, g, d, tk, os⟩ := s; obtain ⟨hl, hb, hx, h⟩ := h
  have f2 := AutoSeq1.sub_tuple_tuple
  wp_walk using wpAny_loadPart' hl, wpAny_loadPart' hb, wpAny_forIn_list _ (λ rest b s' => b.1 = none /\ s' = ⟨hp, g, d, tk, os⟩ /\ ∃ (vs ws : List Value), rest = vs.zip ws /\
   LexAt A.in1 ⟨hp, g, d, tk, os⟩ (decide (items.size < items2.size)) vs ws r) _
  case turn =>
   rintro ⟨y, x⟩ rest b s' ⟨hb', rfl, vs, ws, hz, hL⟩
   cases vs with
   | nil => rw [List.zip_nil_left] at hz; cases hz
   | cons v vs =>
    cases ws with
    | nil => rw [List.zip_nil_right] at hz; cases hz
    | cons u ws =>
     rw [List.zip_cons_cons] at hz
     injection hz with hyx hrest
     injection hyx with hy hx
     subst hy hx
     rcases hL with ⟨he, hL⟩ | ⟨he, hlt⟩
     · refine wB (he prog w _ _ ?_)
       wp_walk
       exact ⟨rfl, rfl, _, _, hrest, hL⟩
     · refine wB (he prog w _ _ ?_)
       have hri := hlt prog w
       wp_walk using hri
       exact ⟨_, rfl, by simpa using h⟩
  case fin =>
   rintro ⟨b1, b2⟩ s' ⟨hb', rfl, vs, ws, hz, hL⟩
   simp only at hb'
   subst hb'
   have hv : r = decide (items.size < items2.size) := by
    cases vs with
    | nil => cases ws <;> exact hL
    | cons v vs =>
     cases ws with
     | nil => exact hL
     | cons u ws => rw [List.zip_cons_cons] at hz; cases hz
   subst hv
   wp_walk
   exact ⟨_, rfl, by simpa [Builtin.Tuple.tupleCompareSizes] using h⟩
  case h =>
   exact ⟨rfl, rfl, items.toList, items2.toList, rfl, hx⟩
end
theorem ltAt_tup {A : Around} {s : Shared} {l b : Addr} {items items2 : Array Value} {r : Bool} (hl : s.heap.IsTuple l items) (hb : s.heap.IsTuple b items2) (hu : A.units < cLine) (hx : LexAt A.in1 s (decide (items.size < items2.size)) items.toList items2.toList r) :
 LtAt A s (.ref l) (.ref b) r := by
 intro prog w E Q h
 obtain ⟨⟨cls, dd, data, sl⟩, ho, hc, n, hd⟩ := id hl
 obtain ⟨⟨cls2, dd2, data2, sl2⟩, ho2, hc2, n2, hd2⟩ := id hb
 simp only at hc hd hc2 hd2
 subst hc hd hc2 hd2
 exact richCompare_meets_room (op := .Lt) ⟨_, ho, rfl⟩ ⟨_, ho2, rfl⟩ PySem.F.slot_tuple_lt PySem.F.entry_tuple_lt (PySem.F.args_tuple_lt_2 _ _) (tuple_lt_gen l b items items2 n n2 dd dd2 sl sl2 r)
  ⟨ho, ho2, hx, show Value.bool r ≠ Value.notImplemented /\ Q (.bool r) s from ⟨(λ x => nomatch x), h⟩⟩ hu
open PySem.SeqAt (room_here room_in room_head room_tail)
theorem ltL_fin {xs ys : List PyData} {r : Bool} (h : ltL xs ys = some r) (e : xs = [] \/ ys = []) : r = decide (xs.length < ys.length) := by
 cases xs with
 | nil =>
  cases ys with
  | nil => cases h; rfl
  | cons y ys => cases h; simp
 | cons x xs =>
  cases ys with
  | nil => cases h; simp
  | cons y ys => rcases e with e | e <;> cases e
mutual
theorem ltAt_reads : ∀ (da db : PyData) (A : Around) (s : Shared) (a b : Value) (as bs : List Addr) (r : Bool), Reads s.heap a da as -> Reads s.heap b db bs -> da.canLay0 = true -> db.canLay0 = true ->
 A.units + min da.depth db.depth < cLine -> ltD da db = some r -> LtAt A s a b r
 | .int x, db, A, s, _, _, _, _, r, ra, rb, _, hb, hu, e => by
  cases ra with
  | int _ t =>
   cases rb with
   | int y u =>
    cases e
    exact λ prog w E Q h => (PyProof.Rows.lt_int h : wpAny (model prog w) A (compareOp .Lt _ _) Q E s)
   | _ => cases e
 | .bool x, db, A, s, _, _, _, _, r, ra, rb, _, hb, hu, e => by
  cases ra
  cases rb with
  | bool y =>
   cases e
   exact λ prog w E Q h => (PyProof.Rows.lt_bool h : wpAny (model prog w) A (compareOp .Lt _ _) Q E s)
  | _ => cases e
 | .tuple xs, db, A, s, _, _, _, _, r, ra, rb, ha, hb, hu, e => by
  cases ra with
  | @tuple l o vs n _ as₁ h1 h2 h3 h4 =>
   cases rb with
   | @tuple l' o' vs' n' ys bs₁ k1 k2 k3 k4 =>
    have hl : s.heap.IsTuple l vs := ⟨_, h1, h2, _, h3⟩
    have hl' : s.heap.IsTuple l' vs' := ⟨_, k1, k2, _, k3⟩
    have n1 : vs.size = xs.length := by simpa using SeqAt.ReadsAll.length _ _ _ h4
    have n2 : vs'.size = ys.length := by simpa using SeqAt.ReadsAll.length _ _ _ k4
    refine ltAt_tup hl hl' (room_here hu) ?_
    have e2 : ltL xs ys = some r := by rw [ltD] at e; exact e
    exact lexAt_reads xs ys A.in1 s vs.toList vs'.toList _ _ r _ h4 k4 ha hb (room_in hu) e2 ⟨0, by rw [n1, n2]; rfl⟩
   | _ => simp [ltD] at e
 | .none, _, _, _, _, _, _, _, _, _, _, _, _, _, e => by simp [ltD] at e
 | .str _, _, _, _, _, _, _, _, _, _, _, _, _, _, e => by simp [ltD] at e
 | .list _, _, _, _, _, _, _, _, _, _, _, _, _, _, e => by simp [ltD] at e
 | .dict _, _, _, _, _, _, _, _, _, _, _, _, _, _, e => by simp [ltD] at e
theorem lexAt_reads : ∀ (xs ys : List PyData) (A : Around) (s : Shared) (vs ws : List Value) (as bs : List Addr) (r fin : Bool), ReadsAll s.heap vs xs as -> ReadsAll s.heap ws ys bs -> PyData.canLayAll0 xs = true -> PyData.canLayAll0 ys = true ->
 A.units + min (PyData.depthAll xs) (PyData.depthAll ys) < cLine -> ltL xs ys = some r -> (∃ k, fin = decide (xs.length + k < ys.length + k)) -> LexAt A s fin vs ws r
 | [], ys, A, s, _, ws, _, _, r, fin, ra, rb, _, _, _, e, ⟨k, hf⟩ => by
  cases ra
  have q := ltL_fin e (.inl rfl)
  rw [hf, q]
  show decide _ = decide _
  exact decide_eq_decide.mpr (by omega)
 | x :: xs, [], A, s, _, _, _, _, r, fin, ra, rb, _, _, _, e, ⟨k, hf⟩ => by
  cases rb
  have q := ltL_fin e (.inr rfl)
  cases ra
  rw [hf, q]
  show decide _ = decide _
  exact decide_eq_decide.mpr (by omega)
 | x :: xs, y :: ys, A, s, _, _, _, _, r, fin, ra, rb, ha, hb, hu, e, ⟨k, hf⟩ => by
  have ha' : x.canLay0 = true /\ PyData.canLayAll0 xs = true := by simpa [PyData.canLayAll0] using ha
  have hb' : y.canLay0 = true /\ PyData.canLayAll0 ys = true := by simpa [PyData.canLayAll0] using hb
  cases ra with
  | cons r1 rs =>
   cases rb with
   | cons r1' rs' =>
    have eq := SeqAt.eqAt_reads x y A s _ _ _ _ r1 r1' ha'.1 hb'.1 (room_head hu)
    rw [ltL] at e
    by_cases c : PyData.eqv x y = true
    · rw [if_pos c] at e
      rw [c] at eq
      exact .inl ⟨eq, lexAt_reads xs ys A s _ _ _ _ r fin rs rs' ha'.2 hb'.2 (room_tail hu) e ⟨k + 1, by rw [hf]; exact decide_eq_decide.mpr (by simp only [zC]; omega)⟩⟩
    · rw [if_neg c] at e
      have c' : PyData.eqv x y = false := by simpa using c
      rw [c'] at eq
      exact .inr ⟨eq, ltAt_reads x y A s _ _ _ _ r r1 r1' ha'.1 hb'.1 (room_head hu) e⟩
end
end L2
namespace DL
open PySem L2
section
variable {K : Fg}
end
end DL
namespace L2
open PySem PySem.Spec PyProof.Rows
noncomputable def mIx (lt : Nat -> Nat -> Bool) : Nat -> Nat
 | 0 => 0
 | n + 1 => if lt (n + 1) (mIx lt n) = true then n + 1 else mIx lt n
theorem mIx_le (lt : Nat -> Nat -> Bool) : ∀ n, mIx lt n <= n
 | 0 => Q1 _
 | n + 1 => by
  unfold mIx
  split
  · exact Q1 _
  · exact Nat.le_succ_of_le (mIx_le lt n)
theorem vals_get {xs : List V} {us : List Value} (r : Vals xs us) {i : Nat} {u : Value} (e : us[i]? = some u) : ∃ x, xs[i]? = some x /\ RelV x u := by
 induction r generalizing i with
 | nil => simp at e
 | cons h _ ih =>
  cases i with
  | zero =>
   simp at e
   subst e
   exact ⟨_, rfl, h⟩
  | succ i => exact ih (by simpa using e)
section
variable {X : Cx} {pins : List (Addr × Obj)} {σ : St} {S I l : Addr} {xs : List V} {F H0 : Hp} {lt : Nat -> Nat -> Bool} {R : Result -> Shared -> Prop}
end
end L2
namespace DL
open PySem L2
section
variable {K : Fg}
noncomputable def minC : List PyData -> Option PyData
 | [.list ds] => if (!ds.isEmpty && ds.all okD && ds.all (λ a => ds.all λ b => (L2.ltD a b).isSome)) = true then ds[mIx (λ i j => (L2.ltD (ds.getD i .none) (ds.getD j .none)).getD false) (ds.length - 1)]? else none
 | _ => none
end
end DL
namespace L2
open PySem PySem.Spec PyProof.Rows
section
variable {X : Cx}
end
section
variable {prog : Program} {w : World} {A : Around} {E : Value -> Shared -> Prop} {s : Shared}
end
section
variable {X : Cx}
end
end L2
namespace DL
open PySem L2
section
variable {K : Fg}
end
section
variable {X : Cx}
end
end DL
namespace L2
open PySem PySem.Spec PyProof.Rows PySem.W PySem.Calls PySem.Builtin PySem.Builtin.ObjectAttr PySem.Builtin.Getset_descriptor
section
variable {pr : Program} {wd : World} {Ar : Around} {Ex : Value -> Shared -> Prop} {t : Shared} {K : Frag} {x C : Addr}
theorem xc_find {M : Model} {h : Heap} {nm : Str} {a g : Value} (kin : K.In h) (ha : findIn K (.ref C) nm = some (some a)) (hg : specialIn K a "__get__" = some (some g)) (ht : takesIn K a = some true) : Looks M h (find (.ref x) (.ref C) nm) (.bind g a) :=
 (looks_findIn kin ha).andThen ((show Looks M h (getOf (some a)) (some g) from looks_specialIn kin hg).andThen ((show Looks M h (dataDescriptor? (some a) (some g)) (some (g, a)) from (looks_takesIn kin ht).andThen .now).andThen (Looks.tag .now)))
theorem xc_get {R : Result -> Shared -> Prop} {tp : Value} (kin : K.In t.heap) (ty : ∀ M, Looks M t.heap (typeOf (.ref x)) (.ref C)) (om : mroIn K C (.type "object") = some true)
 (fin : R (.ok (.ret (.ref C))) t) : codeAny (model pr wd) Ar (.call (.builtin "getset_descriptor.__get__") ⟨[.builtin "object.__class__", .ref x, tp], []⟩) R t := by
 obtain ⟨hp, gs, dn, tk, ops⟩ := t
 have T0 := ty (model pr wd)
 have T1 := looks_mroIn (M := model pr wd) kin om
 refine codeAny_call_builtin KF.slot_gs.plain KF.entry_gs (KF.slot_gs.check _ _ _ _ _ _ _ _ KF.type_class (KF.args_gs _ _ _) ?go)
 case go =>
  unfold Builtin.«getset_descriptor.__get__» descrGet; rw [dga_obj]
  refine wB (wP ?go2)
  case go2 =>
   unfold descrGetter descrCheckInstance descrNameAndClass isInstance; simp only [KF.owner_class]
   (repeat lk)
   refine ⟨Code.quiet_builtin _ (by decide +kernel), codeAny_builtin KF.entry_class ?go3⟩
   case go3 =>
    unfold Builtin.«object.__class__» shownTypeOf; (repeat lk)
    exact fin
theorem xd_entry {Q : Fin -> Shared -> Prop} {tn : Tok} (kin : K.In t.heap) (ty : ∀ M, Looks M t.heap (typeOf (.ref x)) (.ref C)) (ha : findIn K (.ref C) "__class__" = some (some (.builtin "object.__class__")))
 (hn : specialIn K (.builtin "object.__class__") "__get__" = some (some (.builtin "getset_descriptor.__get__"))) (htk : takesIn K (.builtin "object.__class__") = some true) (om : mroIn K C (.type "object") = some true)
 (fin : Q (.done (.ret (.ref C))) t) : wpAny (model pr wd) Ar (Builtin.«object.__getattribute__» ⟨[.ref x, .str "__class__" tn], []⟩) Q Ex t := by
 obtain ⟨hp, gs, dn, tk, ops⟩ := t
 have T0 := ty (model pr wd)
 have T2 := xc_find (M := model pr wd) (x := x) kin ha hn htk
 unfold Builtin.«object.__getattribute__»
 refine wB (wpAny_of_eq (show slotArgs "__getattribute__" 1 ⟨[.ref x, .str "__class__" tn], []⟩ = pure (.ref x, [.str "__class__" tn]) from rfl) ?go)
 case go =>
  refine wB (wpAny_of_eq (show attrName (.str "__class__" tn) = pure "__class__" from rfl) ?go1)
  case go1 =>
   refine wB (T0.at (wB (T2.at ?go2)))
   case go2 =>
    show wpAny _ _ (bindTo (.builtin "getset_descriptor.__get__") (.builtin "object.__class__") (.ref x) (.ref C)) _ _ _
    show wpAny _ _ (holding [.builtin "object.__class__"] (call (.builtin "getset_descriptor.__get__") [.builtin "object.__class__", .ref x, .ref C]) >>= ret) _ _ _
    refine wB (wpAny_holding (wpAny_mono (wpAny_call (xc_get (t := ⟨hp, gs, dn, tk, ops⟩) kin ty om (R := λ r u => match r with | .ok (.ret v) => v = .ref C /\ u = ⟨hp, gs, dn, tk, ops⟩ | .ok _ => False | .error _ => False) ⟨rfl, rfl⟩)) (λ v u z => ?go3) λ _ _ z => z.elim))
    case go3 =>
     obtain ⟨rfl, rfl⟩ := z
     exact wP fin
theorem xd_check {M : Model} {Q : Unit -> Shared -> Prop} {nv : Value} (kin : K.In t.heap) (ty : ∀ M, Looks M t.heap (typeOf (.ref x)) (.ref C)) (ob : mroIn K C (.type "BaseException") = some true) (fin : Q () t) :
 wpAny M Ar (checkBuiltinCall "BaseException.__getattribute__" ⟨[.ref x, nv], []⟩) Q Ex t := by
 have hk : builtinKind "BaseException.__getattribute__" = some .slot := by decide +kernel
 have hsplit : splitId "BaseException.__getattribute__" = some ("BaseException", "__getattribute__") := by decide +kernel
 have ha := PySem.F.args_bexc_ga (.ref x) nv
 have T : Looks M t.heap (isInstance (.ref x) (.type "BaseException")) true := (ty M).andThen (looks_mroIn kin ob)
 simp only [checkBuiltinCall, hk, hsplit]
 refine wB (T.here ?_)
 repeat (first | exact fin | wp_step)
theorem xd_class {Q : Option Value -> Shared -> Prop} (kin : K.In t.heap) (ty : ∀ M, Looks M t.heap (typeOf (.ref x)) (.ref C)) (g1 : findIn K (.ref C) "__getattribute__" = some (some (.builtin "BaseException.__getattribute__"))) (g2 : findIn K (.ref C) "__getattr__" = some none)
 (ha : findIn K (.ref C) "__class__" = some (some (.builtin "object.__class__")))
 (hn : specialIn K (.builtin "object.__class__") "__get__" = some (some (.builtin "getset_descriptor.__get__"))) (htk : takesIn K (.builtin "object.__class__") = some true) (om : mroIn K C (.type "object") = some true) (ob : mroIn K C (.type "BaseException") = some true)
 (fin : Q (some (.ref C)) { t with toks := t.toks + 1 }) : wpAny (model pr wd) Ar (getAttr? (.ref x) "__class__") Q Ex t := by
 obtain ⟨hp, gs, dn, tk, ops⟩ := t
 have T0 := ty (model pr wd)
 have T1 := looks_findIn (M := model pr wd) kin g1
 have T3 := looks_findIn (M := model pr wd) kin g2
 have bs : bindSpecial (.builtin "BaseException.__getattribute__") (.ref x) = pure (.builtin "BaseException.__getattribute__", [.ref x]) := (PySem.F.attrBase_ValueError.ga).bind (.ref x)
 unfold getAttr? getAttrBy? getAttrBy
 refine wB (wpAny_mkText (wB (wpAny_attempt (wpAny_holding (wB (T0.at (wB (T1.at ?go))))))))
 case go =>
  show wpAny _ _ (getAttrByItsOwn (.ref x) (.str "__class__" tk) (.ref C) (.builtin "BaseException.__getattribute__") false false) _ _ _
  unfold getAttrByItsOwn
  refine wB (show wpAny _ _ (typeLookup (.ref C) "__getattr__") _ _ _ from T3.at ?go1)
  case go1 =>
   refine wB (wpAny_attempt (wpAny_holding ?go2))
   case go2 =>
    show wpAny _ _ (boundAndCalled (.builtin "BaseException.__getattribute__") (.ref x) (.str "__class__" tk)) _ _ _
    unfold boundAndCalled
    refine wB (wpAny_of_eq bs ?go3)
    case go3 =>
     show wpAny _ _ (call (.builtin "BaseException.__getattribute__") [.ref x, .str "__class__" tk]) _ _ _
     refine wpAny_mono (wpAny_call (E := λ _ _ => False) (Q := λ v u => v = .ref C /\ u = ⟨hp, gs, dn, tk + 1, ops⟩) (codeAny_call_builtin (PySem.F.attrBase_ValueError.ga).plain PySem.F.entry_bexc_ga (xd_check (t := ⟨hp, gs, dn, tk + 1, ops⟩) kin ty ob (xd_entry (t := ⟨hp, gs, dn, tk + 1, ops⟩) kin ty ha hn htk om ?go4)))) (λ v u z => ?go5) λ _ _ z => z.elim
     case go4 => exact ⟨rfl, rfl⟩
     case go5 =>
      obtain ⟨rfl, rfl⟩ := z
      exact handed_on rfl (wP fin)
end
structure ExcCls (K : Frag) (C : Addr) : Prop where
 g1 : findIn K (.ref C) "__getattribute__" = some (some (.builtin "BaseException.__getattribute__"))
 g2 : findIn K (.ref C) "__getattr__" = some none
 ha : findIn K (.ref C) "__class__" = some (some (.builtin "object.__class__"))
 hn : specialIn K (.builtin "object.__class__") "__get__" = some (some (.builtin "getset_descriptor.__get__"))
 htk : takesIn K (.builtin "object.__class__") = some true
 om : mroIn K C (.type "object") = some true
 ob : mroIn K C (.type "BaseException") = some true
theorem ExcCls.isT {K : Frag} {C : Addr} (X : ExcCls K C) {M : Model} {h : Heap} (kin : K.In h) : Looks M h (isType (.ref C)) true := by
 have e := X.om
 unfold mroIn at e
 obtain ⟨cd, hc, _⟩ := Option.bind_eq_some_iff.mp e
 unfold clsIn at hc
 split at hc
 · rename_i c' d' cd' sl' ho
   intro A' Q' E' s' k q
   unfold isType loadHead
   exact wB (wpAny_loadPart (k _ _ (kin _ _ ho)) (wP q))
 · cases hc
theorem isi_noX {prog : Program} {w : World} {A : Around} {E : Value -> Shared -> Prop} {s : Shared} {K : Frag} {ea C : Addr} {c : Value} {ob : Obj} {Q : Value -> Shared -> Prop} (kin : K.In s.heap) (at_ : s.heap.get? ea = some ob) (cl : ob.cls = .ref C) (X : ExcCls K C)
 (no : kitOne K (.ref C) c = some false) (k : ∀ tk, Q (.bool false) { s with toks := tk }) : wpAny (model prog w) A (call (.builtin "isinstance") [.ref ea, c]) Q E s := by
 refine call_isinstance (S := λ _ R t => (K.In t.heap /\ t.heap.get? ea = some ob) /\ ∀ tk, R (.ok (.ret (.bool false))) { t with toks := tk }) (λ pr w2 A2 R t ht => isinstance_outer ?_ (by intro q; cases q)) ⟨⟨kin, at_⟩, k⟩
 obtain ⟨hh, g, d, tt, os⟩ := t
 obtain ⟨⟨ki, here⟩, fin⟩ := ht
 have ty : ∀ M, Looks M hh (typeOf (.ref ea)) (.ref C) := λ M => cl ▸ (Looks.ld here).andThen .now
 have tyM := ty (model pr w2)
 unfold Builtin.«isinstance.nested»
 refine wB (tyM.at ?_)
 unfold kitOne at no
 by_cases q : (Value.ref C == c) = true
 · rw [if_pos q] at no
   cases no
 · rw [if_neg q] at no
   rw [if_neg q]
   obtain ⟨a1, a2, a3⟩ := kit_cls (M := model pr w2) ki no
   have both : Looks (model pr w2) hh (isInstance (.ref ea) c) false := tyM.andThen a3
   refine wB (a1.at ?_)
   rw [if_pos (by decide)]
   k_delta "plainIsInstance"
   refine wB (wB (a2.at ?_))
   simp only [Q12, zN, if_false]
   refine wB (both.at ?_)
   simp only [zN, if_false]
   refine wB (xd_class (t := ⟨hh, g, d, tt, os⟩) ki ty X.g1 X.g2 X.ha X.hn X.htk X.om X.ob ?_)
   refine wB ((X.isT ki).at ?_)
   simp only [Q12, zN, if_false]
   refine wB (wpAny_rule ?_)
   refine a3.at ?_
   first
    | exact wP (fin _)
    | exact wP (wP (fin _))
    | exact wB (wP (wP (fin _)))
def rIsiB (K : Frag) : List V -> Hp -> VK -> Prop := λ xs H Q => ∃ ea C y c b, xs = [.ref ea, y] /\ ((∃ D, y = .ref D /\ c = .ref D) \/ ∃ n, y = .ty n /\ c = .type n) /\ H ea = some (XO ea C) /\ kitOne K (.ref C) c = some b /\ ExcCls K C /\ Q (.bl b) H
theorem call_isiB {X : Cx} : CallR X (.builtin "isinstance") (rIsiB X.K) := by
 intro pins s σ H xs us Q I rv h
 obtain ⟨ea, C, y, c, b, rfl, hy, tr, ans, xc, q⟩ := h
 obtain ⟨u, w', rfl, r1, r2⟩ := rv.two
 cases (show u = Value.ref ea from r1)
 have ec : w' = c := by
  rcases hy with ⟨D, rfl, rfl⟩ | ⟨n, rfl, rfl⟩
  · exact r2
  · exact r2
 subst ec
 obtain ⟨⟨ob, e, cl⟩, _⟩ := (show ObjOk X.prog X.w H s.heap ea (XO ea C) from I.hok ea _ tr)
 cases b with
 | true => exact isi_flown I.kIn e cl ans λ tk => ⟨.bl true, H, I.tok tk, rfl, q⟩
 | false => exact isi_noX I.kIn e cl xc ans λ tk => ⟨.bl false, H, I.tok tk, rfl, q⟩
end L2
namespace DL
open PySem L2 PyProof.Rows
section
variable {X : Cx}
def tNoS : TS := λ _ _ _ => False
theorem pss_any {sts : List Stmt} : PSs X sts tNoS := λ _ _ _ _ _ _ h => h.elim
end
section
variable {K : Fg} {E : XK} {C : XI}
noncomputable def xNo (_ : DSt) : Bool := false
theorem sx_no {t : TS} : SX K E C t xNo := λ H0 F0 F σ H δ D R e k => nomatch e
noncomputable def xIf2 (c : DSt -> Option Bool) (f g : DSt -> Bool) (δ : DSt) : Bool := match c δ with
 | some true => f δ
 | some false => g δ
 | none => false
theorem sx_if {c : TT} {fc : DSt -> Option Bool} {t u : TS} {f g : DSt -> Bool} (a : ST K c fc) (b : SX K E C t f) (d : SX K E C u g) : SX K E C (tIfS c t u) (xIf2 fc f g) := λ H0 F0 F σ H δ D R e k => by
 unfold xIf2 at e
 split at e
 · rename_i q
   exact a H0 F0 F σ H δ true _ R q λ H' F' g' => iteT (b H0 F0 F' σ H' δ D (R.grow g') e k)
 · rename_i q
   exact a H0 F0 F σ H δ false _ R q λ H' F' g' => iteF (d H0 F0 F' σ H' δ D (R.grow g') e k)
 · cases e
end
section
variable {K : Fg} {E : XK} {C : Addr}
def Ans (K : Fg) (C : Addr) (y : V) (b : Bool) : Prop := ∃ c, ((∃ D, y = .ref D /\ c = .ref D) \/ ∃ n, y = .ty n /\ c = .type n) /\ PySem.W.kitOne K (.ref C) c = some b
theorem Ans.cls {D : Addr} {b : Bool} (h : PySem.W.kitOne K (.ref C) (.ref D) = some b) : Ans K C (.ref D) b := ⟨_, .inl ⟨D, rfl, rfl⟩, h⟩
theorem Ans.ty {n : String} {b : Bool} (h : PySem.W.kitOne K (.ref C) (.type n) = some b) : Ans K C (.ty n) b := ⟨_, .inr ⟨n, rfl, rfl⟩, h⟩
def tIs (K : Fg) (i : Nat) (y : V) : TE := tCB (rIsiB K) (tCons (tVar i) (tCons (tC y) tNil))
end
end DL
namespace L2
open PySem PySem.Spec PyProof.Rows
section
variable {X : Cx} {pins : List (Addr × Obj)} {σ : St} {S I l : Addr} {xs : List V} {F H0 : Hp} {lt : Nat -> Nat -> Bool} {R : Result -> Shared -> Prop}
end
end L2
namespace DL
open PySem L2
section
variable {K : Fg}
end
section
variable {K : Fg}
end
end DL
namespace L2
open PySem PySem.Spec PyProof.Rows PySem.W
theorem refs_of : ∀ {bs : List Addr} {us : List Value}, Vals (bs.map V.ref) us -> us = bs.map Value.ref
 | [], _, .nil => rfl
 | b :: bs, _, .cons r t => by rw [refs_of t, show _ = Value.ref b from r]; rfl
end L2
namespace DL
open PySem L2
section
variable {K : Fg}
theorem are_keys {F : Hp} : ∀ {xs : List V} {ds : List PyData} {ks : List (List Int)}, Are K F xs ds -> ds = ks.map (λ k => .tuple (k.map .int)) -> ∃ as : List Addr, xs = as.map V.ref /\ as.length = ks.length /\ ∀ i, i < ks.length -> F (as.getD i 0) = some (.tup ((ks.getD i []).map V.int))
 | _, [], [], h, _ => ⟨[], by rw [show _ = [] from h]; rfl, rfl, λ i hi => absurd hi (Nat.not_lt_zero _)⟩
 | _, [], _ :: _, _, e => by cases e
 | _, _ :: _, [], _, e => by cases e
 | _, d :: ds, k :: ks, h, e => by
  rw [zI] at e
  injection e with e1 e2
  subst e1
  obtain ⟨x, r, rfl, ⟨a, ys, rfl, h1, h2⟩, h3⟩ := h
  have ey := Are.ints.mp h2
  subst ey
  obtain ⟨as, rfl, l, q⟩ := are_keys h3 e2
  refine ⟨a :: as, rfl, by simp [l], λ i hi => ?_⟩
  cases i with
  | zero => exact h1
  | succ i => exact q i (by simpa using hi)
noncomputable def tksD : List PyData -> Option (List (List Int))
 | [] => some []
 | d :: r => (keyD d).bind λ k => (tksD r).map (k :: ·)
theorem tksD_some : ∀ {ds : List PyData} {ks : List (List Int)}, tksD ds = some ks -> ds = ks.map λ k => .tuple (k.map .int)
 | [], ks, h => by cases h; rfl
 | d :: r, ks, h => by
  obtain ⟨k, e1, e2⟩ := bind_some h
  obtain ⟨us, e3, e4⟩ := Q0.mp e2
  subst e4
  rw [zI, <- tksD_some e3]
  unfold keyD at e1
  split at e1
  · rw [intsD_some e1]
  · cases e1
end
end DL
namespace L2
open PySem PySem.Spec PyProof.Rows PySem.W
section
variable {X : Cx} {pins : List (Addr × Obj)} {σ : St} {H : Hp} {s : Shared}
end
end L2
namespace DL
open PySem PySem.Spec PyProof.Rows L2 PySem.W
section
variable {K : Fg}
end
section
variable {X : Cx} {pins : List (Addr × Obj)} {σ : St} {S I l f : Addr} {xs : List V} {ds ks : List PyData} {Fa Ha : Hp} {R : Result -> Shared -> Prop}
def Turn (X : Cx) (σ : St) (f : Addr) (xs : List V) (ks : List PyData) (Fa Ha : Hp) : Prop := ∀ (i : Nat) (x : V), xs[i]? = some x -> ∀ (pins' : List (Addr × Obj)) (F H : Hp) (s : Shared) (u : Value), Inv X pins' σ H s -> Grow Fa Ha F H -> RelV x u ->
 wpAny (model X.prog X.w) X.A.in1 (call (.ref f) [u]) (λ r s' => ∃ v H' F', Inv X pins' σ H' s' /\ RelV v r /\ Grow F H F' H' /\ Is X.K F' v (ks.getD i .none)) (λ _ _ => False) s
end
section
variable {X : Cx}
end
end DL
namespace L2
open PySem PySem.Spec PyProof.Rows PySem.W
section
variable {prog : Program} {w : World} {A : Around} {E : Value -> Shared -> Prop} {s : Shared} {d it r : Addr} {es : Array DictEntry} {ep : Nat}
end
section
variable {X : Cx} {pins : List (Addr × Obj)} {σ : St} {S I d : Addr} {ns : List Int} {es : Array DictEntry} {ep : Nat} {H0 : Hp} {R : Result -> Shared -> Prop}
end
section
variable {X : Cx} {pins : List (Addr × Obj)} {σ : St} {H : Hp} {s : Shared}
end
end L2
namespace DL
open PySem L2
section
variable {X : Cx} {K : Fg}
end
end DL
namespace L2
open PySem PySem.Spec PyProof.Rows PySem.W Att
def ItSt (h : Heap) (it d S : Addr) (i n ep : Nat) : Prop := ∃ x0 f ok ov, h.get? it = some { cls := .type "dict_itemiterator", dict := none, data := .fields #[x0, .bool f, .ref d, .int i 0, .int n 0, .int ep 0, ok, ov], slots := #[] } /\
 (x0 = .none \/ ∃ (a : Addr) (oa : Obj), x0 = rawInt a /\ h.get? a = some oa /\ a ≠ it /\ a ≠ S)
theorem ItSt.keep {h h' : Heap} {it d S : Addr} {i n ep : Nat} (x : ItSt h it d S i n ep) (k : ∀ b o, b ≠ S -> h.get? b = some o -> h'.get? b = some o) (n1 : it ≠ S) : ItSt h' it d S i n ep := by
 obtain ⟨x0, f, ok, ov, e, r⟩ := x
 refine ⟨x0, f, ok, ov, k _ _ n1 e, r.imp id λ ⟨a, oa, r1, r2, r3, r4⟩ => ⟨a, oa, r1, k _ _ r4 r2, r3, r4⟩⟩
section
variable {prog : Program} {w : World} {A : Around} {E : Value -> Shared -> Prop} {s : Shared} {d it r S : Addr} {es : Array DictEntry} {ep : Nat}
end
section
variable {prog : Program} {w : World} {A : Around} {s : Shared} {R : Result -> Shared -> Prop} {es : Array DictEntry} {ep : Nat}
end
section
variable {prog : Program} {w : World} {A : Around} {E : Value -> Shared -> Prop} {s : Shared} {r d : Addr} {es : Array DictEntry} {ep : Nat}
end
theorem lexI_irr : ∀ x : List Int, lexI x x = false
 | [] => rfl
 | a :: x => by unfold lexI; rw [if_pos rfl]; exact lexI_irr x
theorem ltL_ints (x y : List Int) : ltL (x.map PyData.int) (y.map PyData.int) = some (lexI x y) := by
 induction x generalizing y with
 | nil => cases y <;> rfl
 | cons a x ih => cases y with
  | nil => rfl
  | cons c y =>
   rw [zI, zI, ltL, lexI, DL.eqv_int]
   by_cases e : a = c
   · rw [if_pos e, if_pos (decide_eq_true e), ih y]
   · rw [if_neg e, if_neg (by simpa using e), ltD]
theorem ltD_ints (x y : List Int) : ltD (DL.tupI x) (DL.tupI y) = some (lexI x y) := by
 rw [DL.tupI, DL.tupI, ltD]; exact ltL_ints x y
section
variable {prog : Program} {w : World} {A : Around} {E : Value -> Shared -> Prop} {s : Shared}
end
end L2
namespace L2
open PySem PySem.Spec PyProof.Rows PySem.W
end L2
namespace DL
open PySem L2
noncomputable abbrev KN := List Int × Int
def ltP (a b : KN) : Prop := lexI a.1 b.1 = true
section
variable {X : Cx} {K : Fg}
end
end DL
namespace DL
open PySem PySem.Spec PyProof.Rows L2 PySem.W
noncomputable def tabOf (K : Frag) (q : Addr × Obj) : Option (Addr × Array Value) := match q.2.data with
 | .func fd => (lamOf fd).bind λ ps => match fd.code with
  | .ref c => match K.lookup c with
   | some ⟨_, _, .fields vs, _⟩ => match (vs[11]? : Option Value) with
    | some (.ref P) => if codeHdIn K c P = true then some (P, ps) else none
    | _ => none
   | _ => none
  | _ => none
 | _ => none
noncomputable def tblsOf (K : Frag) : List (Addr × Array Value) := K.filterMap (tabOf K)
theorem codeHdIn_at {K : Frag} {c P : Addr} (h : codeHdIn K c P = true) : ∃ a b d vs, K.lookup c = some ⟨a, b, .fields vs, d⟩ /\ vs[11]? = some (Value.ref P) := by
 unfold codeHdIn at h
 split at h
 · rename_i b vs d hk
   simp only [Q2] at h
   have e1 := h.1.1.1.1.1
   split at e1
   · rename_i P' h11
     exact ⟨_, b, d, vs, hk, by rw [h11, beq_iff_eq.mp e1]⟩
   · cases e1
 · cases h
theorem lk_mem {α : Type} : ∀ {l : List (Addr × α)} {a : Addr} {o : α}, l.lookup a = some o -> (a, o) ∈ l
 | [], _, _, h => by cases h
 | (b, u) :: r, a, o, h => by
  rw [Qc] at h
  split at h
  · rename_i z
    cases h
    rw [eq_of_beq z]
    exact lMs
  · exact lMc _ (lk_mem h)
theorem mem_tbls {K : Frag} {P : Addr} {ps : Array Value} (t : TblK K P ps) : (P, ps) ∈ tblsOf K := by
 obtain ⟨f, oc, od, fd, sl, c, h1, h2, h3, h4⟩ := t
 obtain ⟨a, b, d, vs, k1, k2⟩ := codeHdIn_at h3
 refine List.mem_filterMap.mpr ⟨(f, ⟨oc, od, .func fd, sl⟩), lk_mem h1, ?_⟩
 unfold tabOf
 simp only [h4, zD, h2, k1, k2, h3, if_true]
theorem of_tbls {K : Frag} {q : Addr × Array Value} (m : q ∈ tblsOf K) : ∃ c, codeHdIn K c q.1 = true := by
 obtain ⟨⟨f, o⟩, _, e⟩ := List.mem_filterMap.mp m
 unfold tabOf at e
 split at e
 · obtain ⟨ps, _, e⟩ := bind_some e
   split at e
   · split at e
     · split at e
       · split at e
         · rename_i hc
           cases e
           exact ⟨_, hc⟩
         · cases e
       · cases e
     · cases e
   · cases e
 · cases e
structure Tabs (K : Frag) (h : Heap) : Prop where
 one : ∀ x ∈ tblsOf K, ∀ y ∈ tblsOf K, x.1 = y.1 -> x = y
 out : (tblsOf K).all (λ q => (K.lookup q.1).isNone) = true
 at_ : ∀ q ∈ tblsOf K, h.get? q.1 = some (tabObj #[])
theorem list_one {α : Type} {l : List α} (h : l.length <= 1) {x y : α} (hx : x ∈ l) (hy : y ∈ l) : x = y := by
 match l, h with
 | [], _ => cases hx
 | [z], _ => rw [Q1d.mp hx, Q1d.mp hy]
noncomputable def tabH (K : Frag) : Hp := λ b => ((tblsOf K).find? λ q => q.1 == b).map λ q => .tbl q.2
theorem tabH_some {K : Frag} {b : Addr} {o : HO} (e : tabH K b = some o) : ∃ ps, (b, ps) ∈ tblsOf K /\ o = .tbl ps := by
 unfold tabH at e
 obtain ⟨q, e1, e2⟩ := Q0.mp e
 have m := zR e1
 have z : q.1 = b := by
  have y := List.find?_some e1
  exact beq_iff_eq.mp y
 exact ⟨q.2, by rw [<- z]; exact m, e2.symm⟩
theorem tabH_at {K : Frag} (h1 : ∀ x ∈ tblsOf K, ∀ y ∈ tblsOf K, x.1 = y.1 -> x = y) {b : Addr} {ps : Array Value} (m : (b, ps) ∈ tblsOf K) : tabH K b = some (.tbl ps) := by
 unfold tabH
 cases z : (tblsOf K).find? λ q => q.1 == b with
 | none => exact absurd (beq_self_eq_true b) (by have := List.find?_eq_none.mp z _ m; simpa using this)
 | some q => rw [h1 q (zR z) (b, ps) m (beq_iff_eq.mp (List.find?_some (p := λ q : Addr × Array Value => q.1 == b) z))]; rfl
structure BMdB (base : Heap) (mg : Str -> Option Value) : Prop where
 ex : ∃ (bm : Addr) (o : Obj), mg "__builtins__" = some (.ref bm) /\ bm ≠ builtinsNs /\ bm ≠ mainGlobals /\ base.get? bm = some o /\ o.cls = .type "module" /\ o.dict = some builtinsNs /\ o.data = .plain
noncomputable def lawH (K : Frag) (a : Addr) (o : Option HO) : Hp := λ b => if b = a then o else tabH K b
theorem law_callT {P : Program} {w : World} {K : Frag} {mg mb : Str -> Option Value} {CX : CXT} {k : Nat} {fa a : Addr} {fd : FuncData} {x : Str} {sp : Sp} {s₁ : Shared} {vs : List Value} {ns : List Int}
 (KX : K.In s₁.heap) (TB : Tabs K s₁.heap) (hns : s₁.heap.Ns mainGlobals mg) (hb : s₁.heap.Ns builtinsNs mb) (hbb : ∀ x : Str, x ≠ "__name__" -> mb x = bootBuiltins x) (hlim : s₁.heap.NoLimit) (hbm : ∃ bm ob, mg "__builtins__" = some (.ref bm) /\ bm ≠ builtinsNs /\ s₁.heap.get? bm = some ob /\ ob.cls = .type "module" /\ ob.dict = some builtinsNs /\ ob.data = .plain) (hg : s₁.gens = #[])
 (ha : s₁.heap.get? a = some { cls := .type "list", data := .seq vs.toArray }) (hi : IntsAre vs ns) (hl : ns.length <= sizeLine) (hr : Room k callerA)
 (F : ∀ base : Heap, K.In base -> base.Ns mainGlobals mg -> BMdB base mg -> FnOk P w K mg base CX k fa fd [x] sp) (hbind : ∀ (s : Shared) (u : Value), BindsTo s fd ⟨[u], []⟩ [(x, u)])
 (hsp : ∀ H : Hp, Tb K H -> SqL K H a (ns.map V.int) -> sp [.ref a] H (λ v _ => v = .bl true) λ _ _ _ => False)
 (hCX : ∀ H e s', CX [] H s₁ (λ _ _ _ => False) e s' -> False) :
 codeAny (model P w) callerA (.call (.ref fa) ⟨[.ref a], []⟩) (λ r s' => r = .ok (.ret (.bool true)) /\ OldK s₁.heap s'.heap /\ s'.os = s₁.os /\ AllBare s'.gens) s₁ := by
 have rv := vals_ints hi
 have lenV := hi.length
 have atT : ∀ {b ps}, (b, ps) ∈ tblsOf K -> s₁.heap.get? b = some (tabObj #[]) := λ {b ps} m => TB.at_ _ m
 have naT : ∀ {ps}, (a, ps) ∉ tblsOf K := λ {ps} m => by
  have e := atT m
  rw [ha] at e
  cases e
 have core : ∀ o : Option HO, (o = none \/ ∃ ob xs, o = some (.frz ob (.lst xs))) -> SqL K (lawH K a o) a (ns.map V.int) -> (∀ u, o = some u -> ObjOk P w (lawH K a o) s₁.heap a u) -> (o ≠ none -> K.lookup a = none) ->
  codeAny (model P w) callerA (.call (.ref fa) ⟨[.ref a], []⟩) (λ r s' => r = .ok (.ret (.bool true)) /\ OldK s₁.heap s'.heap /\ s'.os = s₁.os /\ AllBare s'.gens) s₁ := by
  intro o hO hS hok0 hK
  have cases3 : ∀ b u, lawH K a o b = some u -> (b = a /\ o = some u) \/ ∃ ps, (b, ps) ∈ tblsOf K /\ u = .tbl ps := λ b u e => by
   unfold lawH at e
   split at e
   · exact .inl ⟨by assumption, e⟩
   · exact .inr (tabH_some e)
  have hok : HOk P w (lawH K a o) s₁.heap := λ b u e => by
   rcases cases3 b u e with ⟨rfl, z⟩ | ⟨ps, m, rfl⟩
   · exact hok0 u z
   · exact Or.inl (atT m)
  have noA : ∀ {b : Addr} {ob : Obj} {es : Array DictEntry} {ep : Nat}, s₁.heap.get? b = some ob -> ob.data = .dict es ep -> lawH K a o b = none := λ {b ob es ep} e d => by
   cases q : lawH K a o b with
   | none => rfl
   | some u =>
    rcases cases3 b u q with ⟨rfl, z⟩ | ⟨ps, m, rfl⟩
    · rw [ha] at e; cases e; cases d
    · rw [atT m] at e; cases e; cases d
  have nsK : ∀ {b : Addr} {m : Str -> Option Value}, s₁.heap.Ns b m -> (hidT s₁.heap (lawH K a o)).Ns b m := λ {b m} ⟨ob, es, ep, e, d, r⟩ => ⟨ob, es, ep, hidT_get e (noA e d), d, r⟩
  have hKb : K.In (hidT s₁.heap (lawH K a o)) := λ b ob e => hidT_get (KX b ob e) (by
   cases q : lawH K a o b with
   | none => rfl
   | some u =>
    rcases cases3 b u q with ⟨rfl, z⟩ | ⟨ps, m, rfl⟩
    · rw [hK (by rw [z]; exact λ y => nomatch y)] at e; cases e
    · have z := Qd.mp TB.out _ m
      rw [e] at z
      cases z)
  have hB : BMdB (hidT s₁.heap (lawH K a o)) mg := by
   obtain ⟨bm, ob, m1, m2, m3, m4, m5, m6⟩ := hbm
   refine ⟨bm, ob, m1, m2, λ z => ?_, hidT_get m3 ?_, m4, m5, m6⟩
   · obtain ⟨og, es, ep, g1, g2, _⟩ := hns
     rw [<- z, m3] at g1
     cases g1
     rw [m6] at g2
     cases g2
   · cases q : lawH K a o bm with
     | none => rfl
     | some u =>
      rcases cases3 bm u q with ⟨rfl, z⟩ | ⟨ps, m, rfl⟩
      · rw [ha] at m3; cases m3; cases m6
      · rw [atT m] at m3; cases m3; cases m6
  have hM : Mod K mg (hidT s₁.heap (lawH K a o)) := ⟨hKb, nsK hns, ⟨mb, nsK hb, hbb⟩, let ⟨mc, h1, h2⟩ := hlim; ⟨mc, nsK h1, h2⟩⟩
  have e0 : Env0 P w K mg (hidT s₁.heap (lawH K a o)) callerA [] s₁ (lawH K a o) := ⟨rfl, hM, λ b o e => of_hidT e, Nat.le_of_eq (hidT_size _ _), trivial, (λ b hb => absurd (show b ∈ ([] : List Addr) from hb) (by simp)), hok, .of_eq hg⟩
  have tb : Tb K (lawH K a o) := λ b ps t => by
   have m := mem_tbls t
   unfold lawH
   rw [if_neg (λ z => naT (z ▸ m))]
   exact tabH_at TB.one m
  refine codeAny_mono ((F _ hKb (nsK hns) hB).run callerA [] s₁ (lawH K a o) ⟨[.ref a], []⟩ [.ref a] [.ref a] _ _ hr e0 (hbind s₁ (.ref a)) (.cons rfl .nil) (hsp _ tb hS)) λ r s' h => ?_
  cases r with
  | error e => exact (hCX _ e s' h).elim
  | ok fl =>
   cases fl with
   | next => exact False.elim h
   | brk => exact False.elim h
   | cont => exact False.elim h
   | ret u =>
    obtain ⟨v, H', os, bare, un, hok', r', q⟩ := h
    have q' : v = .bl true := q
    subst q'
    obtain rfl : u = Value.bool true := r'
    have key : ∀ b ob, s₁.heap.get? b = some ob -> s'.heap.get? b = some ob \/ (∃ arr, isCodeTable s₁.heap b /\ ob = tabObj #[] /\ s'.heap.get? b = some (tabObj arr)) := λ b ob e => by
     cases q : lawH K a o b with
     | none => exact .inl (un.keep b ob e q (by intro z; exact absurd (show b ∈ ([] : List Addr) from z) (by simp)) (by simp))
     | some u =>
      rcases cases3 b u q with ⟨rfl, z⟩ | ⟨ps, m, rfl⟩
      · rcases hO with y | ⟨oo, xs, y⟩
        · rw [y] at z; cases z
        · rw [y] at z
          cases z
          have z2 := un.frzs b oo _ q
          obtain ⟨e1, _⟩ := hok b _ q
          obtain ⟨e2, _⟩ := hok' b _ z2
          rw [e] at e1; cases e1
          exact .inl e2
      · obtain ⟨more, z2⟩ := un.tbls b _ q
        obtain ⟨c, hc⟩ := of_tbls m
        have ct := ((codeHd_of_K KX hc).tab (atT m)).isCodeTable
        have eo := atT m
        rw [e] at eo
        cases eo
        rcases (show ObjOk P w H' s'.heap b (.tbl _) from hok' b _ z2) with y | ⟨c', oo, uu, l, cc, q0, t0, t2, vs', _, y, _⟩
        · exact .inr ⟨#[], ct, rfl, y⟩
        · exact .inr ⟨_, ct, rfl, y⟩
    refine ⟨rfl, ⟨λ b ob e => ?_, λ b ob e => ?_⟩, os, bare⟩
    · rcases key b ob e with z | ⟨arr, z1, z2, z3⟩
      · exact .inl z
      · subst z2
        exact .inr (.inl ⟨z1, rfl, #[], arr, rfl, by rw [Array.empty_append]; exact z3⟩)
    · rcases key b ob e with z | ⟨arr, _, _, z3⟩
      · exact ⟨_, z⟩
      · exact ⟨_, z3⟩
 cases hk : K.lookup a with
 | some o =>
  have e := KX a o hk
  rw [ha] at e
  cases e
  exact core none (.inl rfl) (.inr ⟨_, vs.toArray, _, hk, rfl, rfl, rfl, by rw [zM, lenV]; exact hl, by simpa using rv⟩) (λ u z => nomatch z) λ z => absurd rfl z
 | none =>
  refine core (some (.frz { cls := .type "list", data := .seq vs.toArray } (.lst (ns.map V.int)))) (.inr ⟨_, _, rfl⟩) (.inl (.inr ⟨{ cls := .type "list", data := .seq vs.toArray }, if_pos rfl⟩)) (λ u z => ?_) λ _ => hk
  cases z
  exact ⟨ha, by rw [zJ]; exact hl, vs, _, rv, ha⟩
theorem walk_ofT {l : OpenLaw} {n k : Nat} {q : Program} {loose : List Str} {XP : (Str -> Option Value) -> Heap -> Prop} {YP : World -> Heap -> Prop} {d : DefRec} {K : Params -> Frag} {CX : World -> CXT} {sp : World -> Sp} {x : Str}
 (hn : l.most = some n) (hn2 : n <= sizeLine) (hdf : d.params.defaults = []) (hr : Room k callerA)
 (hY : ∀ (w : World) (h : Heap), YP w h -> (K w.params).In h /\ Tabs (K w.params) h)
 (F : ∀ (w : World) (mg : Str -> Option Value) (fa : Addr) (h : Heap), (K w.params).In h -> h.Ns mainGlobals mg -> mg d.name = some (.ref fa) ->
  ∃ fd : FuncData, (∀ (s : Shared) (u : Value), BindsTo s fd ⟨[u], []⟩ [(x, u)]) /\ ∀ base : Heap, (K w.params).In base -> base.Ns mainGlobals mg -> BMdB base mg -> FnOk l.prog w (K w.params) mg base (CX w) k fa fd [x] (sp w))
 (hsp : ∀ (w : World) (H : Hp) (a : Addr) (ns : List Int), ns.length <= n -> Tb (K w.params) H -> SqL (K w.params) H a (ns.map V.int) -> sp w [.ref a] H (λ v _ => v = .bl true) λ _ _ _ => False)
 (hCX : ∀ (w : World) (H : Hp) (s : Shared) (e : Value) (s' : Shared), CX w [] H s (λ _ _ _ => False) e s' -> False) :
 WalkO q loose XP YP l.row.toRowW d [] (λ f vs => PySem.call f vs) := by
 refine Att.attach_call hn hdf λ w s₀ s₁ mg mb fa o pm cd doc a vs ns G Y ho hd hcd hmg hobj hints hlen hg => ?_
 obtain ⟨KX, TB⟩ := hY w _ Y
 obtain ⟨fd, hb, hF⟩ := F w mg fa _ KX G.T.g hmg
 exact law_callT KX TB G.T.g G.T.b G.T.builtins G.T.nolimit G.T.bmain hg hobj hints (Q9 hlen hn2) hr hF hb (λ H hO hS => hsp w H a ns hlen hO hS) λ H e s' => hCX w H s₁ e s'
theorem tabs_of {K : Frag} {h : Heap} {ts : List Addr} (hT : ∀ P ∈ ts, h.get? P = some (tabObj #[])) (e : (tblsOf K).map (·.1) = ts) (h1 : ts.length <= 1) (h2 : (tblsOf K).all (λ q => (K.lookup q.1).isNone) = true) : Tabs K h :=
 ⟨λ x hx y hy _ => list_one (by rw [<- zJ (f := λ q : Addr × Array Value => q.1), e]; exact h1) hx hy, h2, λ q m => hT _ (e ▸ zP m)⟩
section
variable {P : Program} {w : World} {K : Frag} {mg : Str -> Option Value} {base : Heap}
end
end DL
namespace DL
open PySem L2
noncomputable abbrev Cl := List (List Int × List PyData)
noncomputable abbrev Es := List (List Int × Addr × List V)
noncomputable def encL (c : Cl) : List (PyData × PyData) := c.map λ p => (tupI p.1, .list p.2)
noncomputable def mOf (es : Es) : List (List Key × V) := es.map λ e => (e.1.map Sum.inl, V.ref e.2.1)
noncomputable def ads (es : Es) : List Addr := es.map λ e => e.2.1
noncomputable def fzOnly (δ : DSt) : Bool := δ.all λ s => match s with
 | some (.ow _) => false
 | some (.od _) => false
 | _ => true
theorem fzOnly_get {δ : DSt} (h : fzOnly δ = true) {j : Nat} {s : Sl} (e : δ[j]? = some (some s)) : ∃ d, s = .fz d := by
 have := Qd.mp h _ (List.mem_of_getElem? e)
 cases s with
 | fz d => exact ⟨d, rfl⟩
 | ow _ => cases this
 | od _ => cases this
theorem fzOnly_set {δ : DSt} (h : fzOnly δ = true) (j : Nat) (d : PyData) : fzOnly (δ.set j (some (.fz d))) = true := by
 unfold fzOnly
 rw [Qd]
 intro s hs
 rcases List.mem_or_eq_of_mem_set hs with z | z
 · exact Qd.mp h s z
 · rw [z]
section
variable {K : Fg} {H0 F0 F F' : Hp} {σ : St} {H H' : Hp} {δ : DSt}
noncomputable def Ent (K : Fg) (H0 F H : Hp) : Es -> Cl -> Prop
 | [], [] => True
 | e :: es, p :: ps => (e.1 = p.1 /\ H e.2.1 = some (.lst e.2.2) /\ F e.2.1 = none /\ H0 e.2.1 = none /\ Are K F e.2.2 p.2) /\ Ent K H0 F H es ps
 | _, _ => False
theorem Ent.len {es : Es} {ps : Cl} (h : Ent K H0 F H es ps) : es.length = ps.length := by
 induction es generalizing ps with
 | nil =>
  cases ps with
  | nil => rfl
  | cons _ _ => exact h.elim
 | cons e es ih =>
  cases ps with
  | nil => exact h.elim
  | cons p ps =>
   rw [zC, zC, ih h.2]
theorem inl_inj : ∀ {a b : List Int}, a.map (Sum.inl : Int -> Key) = b.map Sum.inl -> a = b
 | [], [], _ => rfl
 | [], _ :: _, h => by cases h
 | _ :: _, [], h => by cases h
 | x :: a, y :: b, h => by
  rw [zI, zI] at h
  injection h with h1 h2
  injection h1 with h1
  rw [h1, inl_inj h2]
theorem Ent.kvs {es : Es} {ps : Cl} (h : Ent K H0 F H es ps) (s : Same F F') (q : ∀ e ∈ es, F' e.2.1 = H e.2.1) : Kvs K F' (mOf es) (encL ps) := by
 induction es generalizing ps with
 | nil =>
  cases ps with
  | nil => rfl
  | cons _ _ => exact h.elim
 | cons e es ih =>
  cases ps with
  | nil => exact h.elim
  | cons p ps =>
   obtain ⟨⟨h1, h2, h3, h4, h5⟩, r⟩ := h
   refine ⟨(e.1.map Sum.inl, V.ref e.2.1), mOf es, rfl, ⟨?_, ?_⟩, ih r λ x hx => q x (lMc _ hx)⟩
   · rw [h1]
     show tupI p.1 = .tuple ((p.1.map Sum.inl).map kD)
     unfold tupI
     rw [zO]
     rfl
   · exact ⟨e.2.1, e.2.2, rfl, (q e lMs).trans h2, h5.same s⟩
theorem Rep.upd_ {c : Addr} {o : HO} (R : Rep K H0 F0 F σ H δ) (z : fzOnly δ = true) (fc : F c = none) (hc : H0 c = none) : Rep K H0 F0 F σ (upd H c o) δ := by
 refine ⟨⟨R.g.f, λ b u e => by rw [upd_ne (ne_of_none e fc)]; exact R.g.s b u e, λ b u e => by rw [upd_ne (ne_of_none e hc)]; exact R.g.h b u e, R.g.o⟩, R.len, R.fz, λ j ds e => ?_, R.ap, λ j ds e => ?_, R.ad, R.tb⟩
 · obtain ⟨d, y⟩ := fzOnly_get z e
   cases y
 · obtain ⟨d, y⟩ := fzOnly_get z e
   cases y
structure PI (K : Fg) (H0 F0 F : Hp) (σ : St) (H : Hp) (δ : DSt) (i N : Nat) (kls : Cl) : Prop where
 R : Rep K H0 F0 F σ H δ
 z : fzOnly δ = true
 ln : δ.length = N
 ex : ∃ a es, σ[i]? = some (some (.ref a)) /\ H a = some (.dT (mOf es)) /\ F a = none /\ H0 a = none /\ Ent K H0 F H es kls /\ (a :: ads es).Nodup
end
section
variable {K : Fg}
end
end DL
namespace L2
open PySem PySem.Spec PyProof.Rows PySem.W
end L2
namespace DL
open PySem L2
section
variable {K : Fg}
end
end DL
namespace L2
open PySem PySem.Spec PyProof.Rows PySem.W
section
variable {prog : Program} {w : World} {A : Around} {E : Value -> Shared -> Prop} {s : Shared} {a b : Addr} {es : Array DictEntry} {ep ep2 : Nat}
end
end L2
namespace DL
open PySem L2
section
variable {K : Fg}
end
theorem us1 {P : List Value -> Prop} (h : ∀ a, P [a]) : ∀ us : List Value, us.length = 1 -> P us := λ us e => by
 rcases us with _ | ⟨a, _ | ⟨b, r⟩⟩
 · cases e
 · exact h a
 · exact absurd e (by simp)
theorem us2 {P : List Value -> Prop} (h : ∀ a b, P [a, b]) : ∀ us : List Value, us.length = 2 -> P us := λ us e => by
 rcases us with _ | ⟨a, r⟩
 · cases e
 · exact us1 (P := λ r => P (a :: r)) (h a) r (Nat.succ.inj e)
theorem us3 {P : List Value -> Prop} (h : ∀ a b c, P [a, b, c]) : ∀ us : List Value, us.length = 3 -> P us := λ us e => by
 rcases us with _ | ⟨a, r⟩
 · cases e
 · exact us2 (P := λ r => P (a :: r)) (h a) r (Nat.succ.inj e)
end DL
namespace L2
open PySem
theorem ps_setL {X : Cx} {pos : Pos} {i : Nat} {x : Str} {e : Expr} {te : TE} {pos' : Pos} (hN : X.N.Nodup) (he : PE X e te) (hi : X.N[i]? = some x := by rfl) (hx : Loc X.env.scope x := by first | exact Or.inl rfl | exact Or.inr rfl) (hs : swapsWith e (some (.Name x pos')) pos.line X.env = pure false := by rfl)
 (hf : X.fn x = true \/ X.env.scope.names.lookup x = some .local := by first | exact .inl rfl | exact .inr rfl | assumption) : PS X (.Assign [.Name x pos'] e pos) (tAsg te (gName i)) := ps_set hN hi hx he hs hf
theorem fsc {N P : List Str} {sc : Scope} (a : sc.kind = .function := by rfl) (b : sc.isCoroutine = false := by rfl) (c : sc.isGenerator = false := by rfl) (d : N.Nodup := by decide +kernel) (e : N.take P.length = P := by rfl)
 (f : ∀ x ∈ P, sc.names.lookup x = some .local \/ sc.names.lookup x = some .cell := by decide +kernel) (g : ∀ y ∈ sc.names, y.2 ≠ .free := by decide +kernel) : FnScope N P sc := ⟨a, b, c, d, e, f, g⟩
end L2
namespace L2
open PySem PySem.Spec PyProof.Rows PySem.W
section
variable {X : Cx}
end
end L2
namespace DL
open PySem PySem.Spec PyProof.Rows L2
section
variable {K : Fg}
end
end DL
namespace L2
open PySem PySem.Spec PyProof.Rows PySem.W
section
variable {prog : Program} {w : World} {A : Around} {E : Value -> Shared -> Prop} {hp : Heap} {gs : Array GenState} {dr : Drawn} {tk : Nat} {ost : OsState}
variable {n1 n2 : Str} {C NS : Addr} {b1 b2 b3 : List Value} {f1 : Bool} {ss : List Str} {vs : List Value} {f2 : Bool} {f3 : Option Bool} {od : Option Addr} {z0 z1 z2 z3 z5 : Option Value} {B nid iid : String}
end
section
variable {X : Cx}
end
section
variable {X : Cx} {pins : List (Addr × Obj)} {σ : St} {H : Hp} {s : Shared}
end
section
variable {P : Program} {w : World} {K : Frag} {mg : Str -> Option Value} {base : Heap} {N : List Str} {qual : Str} {scope : Scope} {f : Addr} {cd : Value} {A : Around} {outer : List Env} {s₀ : Shared} {H₀ : Hp} {E : XK}
end
end L2
namespace DL
open PySem L2 PyProof.Rows
section
variable {K : Fg} {E : XK} {C : Addr}
noncomputable def tQ (K : Fg) (i : Nat) : List V -> TA
 | [] => tNil
 | y :: r => tCons (tIs K i y) (tQ K i r)
inductive AllAns (K : Fg) (C : Addr) : List V -> List Bool -> Prop
 | nil : AllAns K C [] []
 | cons {y : V} {b : Bool} {ys : List V} {bs : List Bool} : Ans K C y b -> AllAns K C ys bs -> AllAns K C (y :: ys) (b :: bs)
theorem tQ_ans {ea : Addr} {i : Nat} {σ : St} {H : Hp} (hs : σ[i]? = some (some (.ref ea))) (hH : H ea = some (XO ea C)) (xc : ExcCls K C) {ys : List V} {bs : List Bool} (a : AllAns K C ys bs) : ∀ {Q : List V -> Hp -> Prop}, Q (bs.map V.bl) H -> tQ K i ys σ H Q := by
 induction a with
 | nil => intro Q q; exact q
 | cons a1 r ih =>
  intro Q q
  obtain ⟨c, w, k⟩ := a1
  exact ⟨.ref ea, hs, ea, C, _, c, _, rfl, w, hH, k, xc, ih q⟩
end
end DL
namespace L2
open PySem PySem.Spec PyProof.Rows PySem.W
section
variable {M : Model} {A : Around} {E : Value -> Shared -> Prop} {s : Shared}
end
section
variable {X : Cx} {pins : List (Addr × Obj)} {σ : St} {H : Hp} {s : Shared}
end
section
variable {prog : Program} {w : World} {A : Around} {R : Result -> Shared -> Prop} {s : Shared}
end
section
variable {X : Cx}
section
variable {N : List Str} {sc : Scope} {C : Addr} {fp : List Addr} {s0 : Shared} {H0 : Hp} {E : XK} {pins : List (Addr × Obj)} {σ : St} {H : Hp} {s : Shared}
end
end
end L2
namespace DL
open PySem L2 PyProof.Rows
section
variable {K : Fg} {E : XK} {C : XI}
end
end DL
namespace L2
open PySem PySem.Spec PyProof.Rows PySem.W
section
variable {X : Cx} {pins : List (Addr × Obj)} {σ : St} {H : Hp} {s : Shared}
end
end L2
namespace DL
open PySem L2 PyProof.Rows
section
variable {K : Fg} {E : XK} {C : Addr}
end
end DL
namespace L2
open PySem PySem.Spec PyProof.Rows PySem.W
section
variable {prog : Program} {w : World} {A : Around} {E : Value -> Shared -> Prop} {hp : Heap} {gs : Array GenState} {dr : Drawn} {tk : Nat} {ost : OsState}
variable {n1 n2 : Str} {C NS : Addr} {b1 b2 b3 : List Value} {f1 : Bool} {ss : List Str} {vs : List Value} {f2 : Bool} {f3 : Option Bool} {od : Option Addr} {z0 z1 z2 z3 z5 : Option Value} {B nid iid : String}
end
section
variable {X : Cx} {pins : List (Addr × Obj)} {σ : St} {H : Hp} {s : Shared}
end
end L2
namespace DL
open PySem L2 PyProof.Rows
section
variable {K : Fg} {E : XK} {C : XI}
end
section
variable {K : Fg} {E : XK} {C : Addr}
end
end DL
namespace L2
open PySem
section
variable {prog : Program} {w : World} {K : Type} [DecidableEq K] (hk : HeapKind prog w K)
inductive RefsAre (h : Heap) : List K -> List Value -> Prop
 | nil : RefsAre h [] []
 | cons {k : K} {b : Addr} {ks : List K} {vs : List Value} : hk.is h k b -> RefsAre h ks vs -> RefsAre h (k :: ks) (.ref b :: vs)
def IsTupH (h : Heap) (ks : List K) (a : Addr) : Prop := ∃ o items n, h.get? a = some o /\ o.cls = .type "tuple" /\ o.data = .seq items n /\ RefsAre hk h ks items.toList
variable {hk}
theorem RefsAre.inj {h : Heap} {x : List K} {vs : List Value} (hx : RefsAre hk h x vs) : ∀ {y : List K}, RefsAre hk h y vs -> x = y := by
 induction hx with
 | nil => intro y hy; cases hy; rfl
 | cons h1 _ ih =>
  intro y hy
  cases hy with
  | cons h2 t2 => rw [hk.inj h1 h2, ih t2]
theorem RefsAre.keeps {h h' : Heap} {d : Addr} {o : Obj} {es ep} {x : List K} {vs : List Value} (hx : RefsAre hk h x vs) (ho : h.get? d = some o) (hd : o.data = .dict es ep) (hs : Heap.SameBut d h h') : RefsAre hk h' x vs := by
 induction hx with
 | nil => exact .nil
 | cons h1 _ ih => exact .cons (hk.keeps h1 ho hd hs) ih
theorem IsTupH.typeIs {s : Shared} {ks : List K} {a : Addr} (x : IsTupH hk s.heap ks a) : s.TypeIs (.ref a) "tuple" := let ⟨o, _, _, ho, hc, _⟩ := x; ⟨o, ho, hc⟩
theorem IsTupH.inj {h : Heap} {a : Addr} {x y : List K} (hx : IsTupH hk h x a) (hy : IsTupH hk h y a) : x = y := by
 obtain ⟨o, items, n, ho, _, hd, hi⟩ := hx
 obtain ⟨o', items', n', ho', _, hd', hi'⟩ := hy
 rw [ho] at ho'
 cases ho'
 rw [hd] at hd'
 cases hd'
 exact hi.inj hi'
theorem IsTupH.keeps {h h' : Heap} {ks : List K} {a d : Addr} {o : Obj} {es ep} (x : IsTupH hk h ks a) (ho : h.get? d = some o) (hd : o.data = .dict es ep) (hs : Heap.SameBut d h h') : IsTupH hk h' ks a := by
 obtain ⟨o', items, n, ho', hc, hd', hi⟩ := x
 have hne : a ≠ d := λ e => by
  subst e
  rw [ho] at ho'
  cases ho'
  rw [hd] at hd'
  cases hd'
 exact ⟨o', items, n, (hs.2 a hne).trans ho', hc, hd', hi.keeps ho hd hs⟩
noncomputable def tupHashH (hk : HeapKind prog w K) (ks : List K) : Int := reduceHash (Builtin.Tuple.tupleHashOf (ks.map hk.hash))
noncomputable def tupDraws (hk : HeapKind prog w K) (ks : List K) : Nat := (ks.map hk.draws).sum + 1
variable {A : Around} {E : Value -> Shared -> Prop} {s : Shared}
theorem hash_tupH {ks : List K} {a : Addr} {Q : Int -> Shared -> Prop} (hr : hk.room A.in1) (hu : A.units < cLine) (hkk : IsTupH hk s.heap ks a) (h : Q (tupHashH hk ks) { s with toks := s.toks + tupDraws hk ks }) :
 wpAny (model prog w) A (pyHash (.ref a)) Q E s := by
 have hT := hkk.typeIs
 obtain ⟨o, items, n, ho, _, hd, hi⟩ := hkk
 unfold pyHash
 first | unfold pyHashByItsType | skip
 first | refine wB (wpAny_cRoomFor_or (.inr hu) ?_) | skip
 refine wB (wpAny_specialOf hT F.slot_tuple_hash.lookup ?_)
 show wpAny _ _ (if (some (Value.builtin "tuple.__hash__") == some Value.none) = true then _ else _) Q E s
 rw [if_neg (by rw [beq_builtin_none]; exact Qe)]
 refine wB (wpAny_specialOf hT F.slot_tuple_hash.lookup ?_)
 show wpAny _ _ (callSpecialIfBoundUnlessNone? (.ref a) "__hash__" _ >>= _) Q E s
 refine wB (wpAny_callSpecialIfBoundUnlessNone?_slot hT F.slot_tuple_hash (wpAny_call_entry F.slot_tuple_hash hT F.entry_tuple_hash ?_ (F.args_tuple_hash_1 _)))
 show wpAny _ _ (Builtin.Tuple.tupleItemsOf (.ref a) >>= _) _ _ s
 refine wB (wpAny_tupleItemsOf ho hd ?_)
 refine wB ?_
 rw [<- Array.forIn_toList]
 refine wpAny_forIn_list _
  (λ rest (b : Array Int) s' => ∃ done left, ks = done ++ left /\ RefsAre hk s.heap left rest /\ b.toList = done.map hk.hash /\ s' = { s with toks := s.toks + (done.map hk.draws).sum })
  _ ?_ ?_ _ _ ⟨[], ks, rfl, hi, rfl, rfl⟩
 · rintro x rest b s' ⟨done, left, rfl, hl, hb, rfl⟩
   cases hl with
   | @cons k _ ks' _ h1 hl' =>
    refine wB (hk.pyHash hr h1 ?_)
    have fin : ∃ done' left', done ++ k :: ks' = done' ++ left' /\ RefsAre hk s.heap left' rest /\ (b.push (hk.hash k)).toList = done'.map hk.hash /\
     ({ s with toks := s.toks + (done.map hk.draws).sum + hk.draws k } : Shared) = { s with toks := s.toks + (done'.map hk.draws).sum } :=
     ⟨done ++ [k], ks', by simp, hl', by simp [hb], by simp [Nat.add_assoc]⟩
    first
     | exact wP fin
     | exact wB (wP (wP fin))
 · rintro b s' ⟨done, left, rfl, hl, hb, rfl⟩
   cases hl
   rw [Q7] at h
   show wpAny _ _ (retInt (Builtin.Tuple.tupleHashOf b.toList)) _ _ _
   rw [hb]
   refine wpAny_ret_mkInt ?_
   show wpAny _ _ (if (decide (-(2 : Int) ^ 63 <= Builtin.Tuple.tupleHashOf (done.map hk.hash)) && decide (Builtin.Tuple.tupleHashOf (done.map hk.hash) < 2 ^ 63)) = true then _ else _) Q E _
   unfold tupHashH reduceHash tupDraws at h
   by_cases hr : (decide (-(2 : Int) ^ 63 <= Builtin.Tuple.tupleHashOf (done.map hk.hash)) && decide (Builtin.Tuple.tupleHashOf (done.map hk.hash) < 2 ^ 63)) = true
   · rw [if_pos hr]
     rw [if_pos hr] at h
     exact wP (by simpa [Nat.add_assoc] using h)
   · rw [if_neg hr]
     rw [if_neg hr] at h
     exact wB (wpAny_rule (wP (by simpa [Nat.add_assoc] using h)))
theorem eqT_tupH {x y : List K} {a b : Addr} {P : PySem.Fin -> Shared -> Prop} (hr : hk.room A) (hx : IsTupH hk s.heap x a) (hy : IsTupH hk s.heap y b) (h : P (.done (.ret (.bool (decide (x = y))))) s) :
 wpAny (model prog w) A (Builtin.«tuple.__eq__» ⟨[.ref a, .ref b], []⟩) P E s := by
 have hTb := hy.typeIs
 obtain ⟨oa, xs, na, hoa, _, hda, hia⟩ := hx
 obtain ⟨ob, ys, nb, hob, _, hdb, hib⟩ := hy
 show wpAny _ _ (isInstance (.ref b) (.type "tuple") >>= _) _ _ s
 refine wB (wpAny_isInstance hTb isSubtype_tuple_tuple ?_)
 simp only [Q12, zN, if_false]
 refine wB (wpAny_tupleItemsOf hoa hda ?_)
 refine wB (wpAny_tupleItemsOf hob hdb ?_)
 refine wB ?_
 refine wpAny_forIn_list _
  (λ rest r s' => r.1 = none /\ s' = s /\ ∃ x' y' xs' ys', rest = List.zip xs' ys' /\ RefsAre hk s.heap x' xs' /\ RefsAre hk s.heap y' ys' /\ decide (x' = y') = decide (x = y) /\ (xs'.length == ys'.length) = (xs.size == ys.size))
  _ ?_ ?_ _ _ ⟨rfl, rfl, x, y, xs.toList, ys.toList, rfl, hia, hib, rfl, by simp⟩
 · rintro ⟨u, v⟩ rest r s' ⟨hrr, rfl, x', y', xs', ys', hz, hx', hy', hdec, hlen⟩
   cases hx' with
   | nil => simp at hz
   | @cons k1 u' x'' xs'' h1 hx'' =>
    cases hy' with
    | nil => simp at hz
    | @cons k2 v' y'' ys'' h2 hy'' =>
     simp only [List.zip_cons_cons, List.cons.injEq, Prod.mk.injEq] at hz
     obtain ⟨⟨rfl, rfl⟩, rfl⟩ := hz
     refine wB (hk.eqBool hr (x := k1) (y := k2) h1 h2 ?_)
     by_cases hkk : k1 = k2
     · subst hkk
       rw [decide_eq_true rfl]
       simp only [Q12, zN, if_false]
       refine wP ⟨rfl, rfl, x'', y'', xs'', ys'', rfl, hx'', hy'', ?_, by simpa using hlen⟩
       rw [<- hdec]
       by_cases hxy : x'' = y''
       · simp [hxy]
       · simp [hxy]
     · rw [decide_eq_false hkk]
       simp only [Bool.not_false, if_true]
       have hf : decide (x = y) = false := by rw [<- hdec]; simp [hkk]
       rw [hf] at h
       exact wB (wP (wP (wP h)))
 · rintro ⟨r1, r2⟩ s' ⟨hrr, rfl, x', y', xs', ys', hz, hx', hy', hdec, hlen⟩
   simp only at hrr
   subst hrr
   refine wP ?_
   have hfin : (xs.size == ys.size) = decide (x = y) := by
    rw [<- hdec, <- hlen]
    cases hx' with
    | nil =>
     cases hy' with
     | nil => simp
     | cons _ _ => simp
    | cons _ _ =>
     cases hy' with
     | nil => simp
     | cons _ _ => simp at hz
   show P (.done (.ret (.bool (xs.size == ys.size)))) s'
   rw [hfin]; exact h
theorem eq_tupH {x y : List K} {a b : Addr} {Q : Bool -> Shared -> Prop} (hr : hk.room A.in1) (hu : A.units < cLine) (hx : IsTupH hk s.heap x a) (hy : IsTupH hk s.heap y b) (h : Q (decide (x = y)) s) :
 wpAny (model prog w) A (eqBool (.ref a) (.ref b)) Q E s := by
 unfold eqBool
 try with_reducible refine wpAny_holding ?_
 show wpAny _ _ (if (Value.ref a == Value.ref b) = true then _ else _) Q E s
 by_cases hab : (Value.ref a == Value.ref b) = true
 · rw [if_pos hab]
   have e : a = b := by have := eq_of_beq hab; injection this
   subst e
   obtain rfl := hx.inj hy
   exact wB (wpAny_rule (wP (by simpa using h)))
 · rw [if_neg hab]
   refine wB (wpAny_richCompare_same_room (op := .Eq) hx.typeIs hy.typeIs F.slot_tuple_eq (wpAny_call_entry F.slot_tuple_eq hx.typeIs F.entry_tuple_eq ?_ (F.args_tuple_eq_2 _ _)) hu)
   exact eqT_tupH hr hx hy ⟨_, rfl, (λ e => nomatch e), wpAny_truthy_bool h⟩
end
section
variable {prog : Program} {w : World} {K : Type} [DecidableEq K] {knd : KeyKind prog w K} {A : Around} {E : Value -> Shared -> Prop} {s : Shared}
theorem quiet_tup {n : Nat} {ks : List K} {a : Addr} {Q : Bool -> Shared -> Prop} (hk : IsTupleKey knd s.heap ks a) (h : Q true s) : wpAny (model prog w) A (eqIsQuiet (n + 1) (.ref a)) Q E s := by
 have hT := hk.typeIs
 obtain ⟨o, items, m, ho, _, hd, hi⟩ := hk
 unfold eqIsQuiet
 refine wB (wpAny_specialOf hT F.slot_tuple_eq.lookup ?_)
 show wpAny _ _ (isInstance (.ref a) (.type "tuple") >>= _) _ _ s
 refine wB (wpAny_isInstance hT isSubtype_tuple_tuple ?_)
 simp only [Q12, zN, if_false]
 refine wB (wpAny_seqItems ho hd ?_)
 refine wB ?_
 show wpAny _ _ (forIn items _ _) _ _ s
 rw [<- Array.forIn_toList]
 refine wpAny_forIn_list _ (λ rest r s' => r.1 = none /\ s' = s /\ ∀ v ∈ rest, carriedByValue v = true) _ ?_ ?_ _ _ ⟨rfl, rfl, hi.byValue⟩
 · rintro v rest r s' ⟨hr, rfl, hall⟩
   rw [eqIsQuiet_byValue _ (hall v lMs)]
   refine wB (wP ?_)
   simp only [Q12, zN, if_false]
   exact wP ⟨rfl, rfl, λ u hu' => hall u (lMc _ hu')⟩
 · rintro ⟨r1, r2⟩ s' ⟨hr, rfl, _⟩
   simp only at hr
   subst hr
   exact wP h
theorem quiet_tup2 {ks : List (List K)} {a : Addr} {Q : Bool -> Shared -> Prop} (hk : IsTupH (tupleKind knd) s.heap ks a) (h : Q true s) : wpAny (model prog w) A (eqIsQuiet 8 (.ref a)) Q E s := by
 have hT := hk.typeIs
 obtain ⟨o, items, m, ho, _, hd, hi⟩ := hk
 unfold eqIsQuiet
 refine wB (wpAny_specialOf hT F.slot_tuple_eq.lookup ?_)
 show wpAny _ _ (isInstance (.ref a) (.type "tuple") >>= _) _ _ s
 refine wB (wpAny_isInstance hT isSubtype_tuple_tuple ?_)
 simp only [Q12, zN, if_false]
 refine wB (wpAny_seqItems ho hd ?_)
 refine wB ?_
 show wpAny _ _ (forIn items _ _) _ _ s
 rw [<- Array.forIn_toList]
 refine wpAny_forIn_list _ (λ rest r s' => r.1 = none /\ s' = s /\ ∃ left, RefsAre (tupleKind knd) s.heap left rest) _ ?_ ?_ _ _ ⟨rfl, rfl, ks, hi⟩
 · rintro v rest r s' ⟨hr, rfl, left, hl⟩
   cases hl with
   | @cons k b ks' _ h1 hl' =>
    refine wB (quiet_tup (n := 6) (knd := knd) h1 ?_)
    simp only [Q12, zN, if_false]
    exact wP ⟨rfl, rfl, ks', hl'⟩
 · rintro ⟨r1, r2⟩ s' ⟨hr, rfl, _⟩
   simp only at hr
   subst hr
   exact wP h
noncomputable def tup2Kind {prog : Program} {w : World} {K : Type} [DecidableEq K] (knd : KeyKind prog w K) : HeapKind prog w (List (List K)) where
 is := IsTupH (tupleKind knd)
 hash := tupHashH (tupleKind knd)
 draws := tupDraws (tupleKind knd)
 room := λ A => A.units + 1 < cLine
 inj := λ hx hy => hx.inj hy
 keeps := λ x ho hd hs => x.keeps ho hd hs
 pyHash := λ hu hk h => hash_tupH (tupleKind_room_in1 hu) (Nat.lt_of_succ_lt hu) hk h
 eqBool := λ hu hx hy h => eq_tupH (tupleKind_room_in1 hu) (Nat.lt_of_succ_lt hu) hx hy h
 quiet := λ hk h => quiet_tup2 hk h
end
noncomputable abbrev Ek := List (List Key) × Addr × Value
def DNO (P : Program) (w : World) (a : Addr) (xs : List Ek) : HO := .ext λ h => ∃ (o : Obj) (es : Array DictEntry) (ep : Nat), h.get? a = some o /\ o.ExactDict /\ o.data = .dict es ep /\ es.toList = xs.map (entryOfKey (tup2Kind (mixKind P w))) /\ (xs.map (·.1)).Nodup /\ xs.length <= sizeLine /\ (a == sysModules) = false
def KeyAt (H : Hp) (b : Addr) (k : List (List Key)) : Prop := ∃ bs : List Addr, H b = some (.tup (bs.map .ref)) /\ Paired (λ (ks : List Key) (c : Addr) => H c = some (.tup (ks.map kV))) k bs
def KeysAt (H : Hp) (xs : List Ek) : Prop := ∀ x ∈ xs, KeyAt H x.2.1 x.1
section
variable {P : Program} {w : World} {H : Hp} {h : Heap}
theorem key2_of {b : Addr} {k : List (List Key)} (ok : HOk P w H h) (e : KeyAt H b k) : (tup2Kind (mixKind P w)).is h k b := by
 obtain ⟨bs, e1, e2⟩ := e
 obtain ⟨zz, its, r, ⟨o, h1, h2, n, h3⟩, zz2⟩ := (show ObjOk P w H h b (.tup (bs.map .ref)) from ok b _ e1)
 refine ⟨o, its.toArray, n, h1, h2, h3, ?_⟩
 rw [List.toList_toArray]
 clear e1 h1 h2 h3 zz zz2
 induction e2 generalizing its with
 | nil => cases r; exact .nil
 | @cons ks c k' bs' hc _ ih =>
  cases r with
  | cons r1 r2 =>
   cases (show _ = Value.ref c from r1)
   exact .cons (key_of ok hc) (ih _ r2)
theorem dno_ok {a : Addr} {xs : List Ek} {H' : Hp} (hk : ∀ x ∈ xs, (tup2Kind (mixKind P w)).is h x.1 x.2.1) (d : h.DictOfH (tup2Kind (mixKind P w)) a xs) (z : xs.length <= sizeLine) (m : (a == sysModules) = false) : ObjOk P w H' h a (DNO P w a xs) := by
 obtain ⟨o, es, ep, h1, h2, h3, h4, _, h5⟩ := d
 refine ⟨⟨o, es, ep, h1, h2, h3, h4, h5, z, m⟩, ⟨o, h1⟩, λ g1 g2 p q => ?_⟩
 obtain ⟨o', es', ep', e1, r⟩ := p
 exact ⟨o', es', ep', q o' e1, r⟩
theorem dno_of {a : Addr} {xs : List Ek} (ok : HOk P w H h) (e : H a = some (DNO P w a xs)) (ks : KeysAt H xs) : h.DictOfH (tup2Kind (mixKind P w)) a xs /\ xs.length <= sizeLine /\ (a == sysModules) = false := by
 obtain ⟨⟨o, es, ep, h1, h2, h3, h4, h5, z, m⟩, _⟩ := (show ObjOk P w H h a (DNO P w a xs) from ok a _ e)
 exact ⟨⟨o, es, ep, h1, h2, h3, h4, λ x hx => key2_of ok (ks x hx), h5⟩, z, m⟩
end
section
variable {X : Cx} {pins : List (Addr × Obj)} {σ : St} {H : Hp} {s : Shared} {a b : Addr} {xs : List Ek} {k : List (List Key)} {A : Around} {E : Value -> Shared -> Prop}
theorem n_get {p : Addr × Value} {Q : Value -> Shared -> Prop} (hu : A.units + 2 < cLine) (I : Inv X pins σ H s) (e : H a = some (DNO X.prog X.w a xs)) (ks : KeysAt H xs) (kb : KeyAt H b k) (hp : atKey xs k = some p) (h : ∀ s', Inv X pins σ H s' -> Q p.2 s') :
 wpAny (model X.prog X.w) A (getItem (.ref a) (.ref b)) Q E s := by
 obtain ⟨d, z, m⟩ := dno_of I.hok e ks
 exact wpAny_getItem_heap (knd := tup2Kind (mixKind X.prog X.w)) (show A.units + 1 + 1 < cLine by omega) (key2_of I.hok kb) d hp (h _ (I.tok _))
theorem n_in {Q : Value -> Shared -> Prop} (hu : A.units + 2 < cLine) (I : Inv X pins σ H s) (e : H a = some (DNO X.prog X.w a xs)) (ks : KeysAt H xs) (kb : KeyAt H b k) (h : ∀ s', Inv X pins σ H s' -> Q (.bool (atKey xs k).isSome) s') :
 wpAny (model X.prog X.w) A (compareOp .In (.ref b) (.ref a)) Q E s := by
 obtain ⟨d, z, m⟩ := dno_of I.hok e ks
 exact wpAny_in_heap (knd := tup2Kind (mixKind X.prog X.w)) (show A.units + 1 + 1 < cLine by omega) (key2_of I.hok kb) m d (h _ (I.tok _))
theorem stored_len (xs : List Ek) (k : List (List Key)) (b : Addr) (v : Value) : (storedH xs k b v).length <= xs.length + 1 := by
 unfold storedH
 split
 · rw [zJ]; omega
 · rw [zQ]; exact Q1 _
theorem n_set {r : Value} {Q : Unit -> Shared -> Prop} (hu : A.units + 2 < cLine) (I : Inv X pins σ H s) (e : H a = some (DNO X.prog X.w a xs)) (ks : KeysAt H xs) (kb : KeyAt H b k) (hl : xs.length < sizeLine) (h : ∀ s', Inv X pins σ (upd H a (DNO X.prog X.w a (storedH xs k b r))) s' -> Q () s') :
 wpAny (model X.prog X.w) A (setItem (.ref a) (.ref b) r) Q E s := by
 obtain ⟨d, z, m⟩ := dno_of I.hok e ks
 refine wpAny_setItem_heap (knd := tup2Kind (mixKind X.prog X.w)) (show A.units + 1 + 1 < cLine by omega) (key2_of I.hok kb) d (λ h' d' hs => h _ ?_) z
 have all := d'
 obtain ⟨q, es, ep, hq, _, _, _, hk, _⟩ := d'
 exact d_write I (by rw [e]; exact True.intro) hs ⟨q, hq⟩ (dno_ok hk all (by have := stored_len xs k b r; omega) m)
end
def tNewN (P : Program) (w : World) : TE := λ _ H Q => ∀ p, H p = none -> Q (.ref p) (upd H p (DNO P w p []))
def tInN (P : Program) (w : World) (ty td : TE) : TE := λ σ H Q => ty σ H λ y H1 => td σ H1 λ x H2 => ∃ a b xs k, x = .ref a /\ y = .ref b /\ H2 a = some (DNO P w a xs) /\ KeysAt H2 xs /\ KeyAt H2 b k /\ Q (.bl (atKey xs k).isSome) H2
def tGetN (P : Program) (w : World) (td ty : TE) : TE := λ σ H Q => td σ H λ x H1 => ty σ H1 λ y H2 => ∃ a b xs k c d, x = .ref a /\ y = .ref b /\ H2 a = some (DNO P w a xs) /\ KeysAt H2 xs /\ KeyAt H2 b k /\ atKey xs k = some (c, Value.ref d) /\ Q (.ref d) H2
def sPutN (P : Program) (w : World) (td ty tv : TE) : TS := λ D σ H => tv σ H λ v H1 => td σ H1 λ x H2 => ty σ H2 λ y H3 => ∃ a b xs k d, x = .ref a /\ y = .ref b /\ v = .ref d /\ H3 a = some (DNO P w a xs) /\ KeysAt H3 xs /\ KeyAt H3 b k /\ xs.length < sizeLine /\
 D.nx σ (upd H3 a (DNO P w a (storedH xs k b (.ref d))))
section
variable {X : Cx} {o i e value : Expr} {pos pos' tpos : Pos} {td ty tv : TE}
theorem pe_newN : PE X (.Dict [] [] pos) (tNewN X.prog X.w) := λ pins s σ H Q I h => by
 refine wpAny_Dict_empty ⟨.ref s.heap.objs.size, _, I.laid (a := s.heap.objs.size) (o := DNO X.prog X.w s.heap.objs.size []) (t' := s.toks) (λ _ _ q => hPo _ q) (Q1 _) ⟨⟨_, #[], 0, hPs _ rfl, ⟨rfl, rfl, rfl⟩, rfl, rfl, List.nodup_nil, zU _, beq_eq_false_iff_ne.mpr (Ne.symm (nNl I.big))⟩, ⟨_, hPs _ rfl⟩, λ g1 g2 p q => ?_⟩, rfl, h _ (I.hok.fresh (Q1 _))⟩
 obtain ⟨o', es', ep', e1, r⟩ := p
 exact ⟨o', es', ep', q o' e1, r⟩
theorem pc_inN (hu : X.A.units + 2 < cLine) (hi : PE X i ty) (ho : PE X o td) : PC X .In i o (tInN X.prog X.w ty td) := by
 intro pins s σ H Q I h
 refine thn (hi pins s σ H _ I h) λ iv s1 q_ => ?_
 obtain ⟨y, H1, I1, ry, q1⟩ := q_
 refine thn (ho pins s1 σ H1 _ I1 q1) λ u s2 q_ => ?_
 obtain ⟨x, H2, I2, rx, a, b, xs, k, rfl, rfl, e1, e2, e3, q2⟩ := q_
 obtain rfl : u = Value.ref a := rx
 obtain rfl : iv = Value.ref b := ry
 exact n_in hu I2 e1 e2 e3 λ s3 I3 => ⟨.bl _, H2, I3, rfl, q2⟩
theorem pe_getN (hu : X.A.units + 2 < cLine) (ho : PE X o td) (hi : PE X i ty) (hs : NoSl i) : PE X (.Subscript o i pos) (tGetN X.prog X.w td ty) := by
 intro pins s σ H Q I h
 refine subD_of PySem.F.slot_dict_getitem.lookup hs (thn (ho pins s σ H _ I h) λ u s1 q_ => ?_)
 obtain ⟨x, H1, I1, rx, q1⟩ := q_
 refine thn (hi pins s1 σ H1 _ I1 q1) λ iv s2 q_ => ?_
 obtain ⟨y, H2, I2, ry, a, b, xs, k, c, d, rfl, rfl, e1, e2, e3, e4, q2⟩ := q_
 obtain rfl : u = Value.ref a := rx
 obtain rfl : iv = Value.ref b := ry
 obtain ⟨⟨o1, es, ep, h1, h2, _⟩, _⟩ := (show ObjOk X.prog X.w H2 s2.heap a (DNO X.prog X.w a xs) from I2.hok a _ e1)
 exact ⟨⟨o1, h1, h2.1⟩, n_get hu I2 e1 e2 e3 e4 λ s3 I3 => ⟨.ref d, H2, I3, rfl, q2⟩⟩
theorem ps_putN (hu : X.A.units + 2 < cLine) (ho : PE X o td) (hi : PE X i ty) (hv : PE X value tv) (hs : swapsWith value (some (.Subscript o i pos')) pos.line X.env = pure false := by rfl) :
 PS X (.Assign [.Subscript o i pos'] value pos) (sPutN X.prog X.w td ty tv) := by
 intro pins s σ H D I h
 refine wpAny_Assign_Subscript (thn (hv pins s σ H _ I h) λ r s1 q_ => ?_) hs
 obtain ⟨v, H1, I1, rv, q1⟩ := q_
 refine thn (ho pins s1 σ H1 _ I1 q1) λ u s2 q_ => ?_
 obtain ⟨x, H2, I2, rx, q2⟩ := q_
 refine thn (hi pins s2 σ H2 _ I2 q2) λ iv s3 q_ => ?_
 obtain ⟨y, H3, I3, ry, a, b, xs, k, d, rfl, rfl, rfl, e1, e2, e3, e4, q3⟩ := q_
 obtain rfl : u = Value.ref a := rx
 obtain rfl : iv = Value.ref b := ry
 obtain rfl : r = Value.ref d := rv
 exact n_set hu I3 e1 e2 e3 e4 λ s4 I4 => ⟨σ, _, I4, q3⟩
end
end L2
namespace DL
open PySem L2
noncomputable abbrev Cn := List (List (List Int) × PyData)
theorem dno_tup {P : Program} {w : World} {a : Addr} {xs : List Ek} (ys : List V) (h : DNO P w a xs = .tup ys) : False := by unfold DNO at h; cases h
theorem dno_lst {P : Program} {w : World} {a : Addr} {xs : List Ek} {ys : List V} (h : some (DNO P w a xs) = some (.lst ys)) : False := by unfold DNO at h; cases h
noncomputable def tups2D : List PyData -> Option (List (List Int))
 | [] => some []
 | d :: r => (keyD d).bind λ k => (tups2D r).map (k :: ·)
noncomputable def key2D : PyData -> Option (List (List Int))
 | .tuple ds => tups2D ds
 | _ => none
noncomputable def k2 (k : List (List Int)) : List (List Key) := k.map λ r => r.map Sum.inl
theorem k2_inj {a b : List (List Int)} (h : k2 a = k2 b) : a = b := by
 unfold k2 at h
 exact (List.map_inj_right λ x y z => inl_inj z).mp h
noncomputable def isTup : PyData -> Bool
 | .tuple _ => true
 | _ => false
section
variable {K : Fg} {H0 F0 F F' : Hp} {σ : St} {H H' : Hp} {δ : DSt}
theorem keyAt_of {ds : List PyData} {k : List (List Int)} {c : Addr} {xs : List V} (e : tups2D ds = some k) (hc : F c = some (.tup xs)) (ar : Are K F xs ds) : KeyAt F c (k2 k) := by
 have : ∃ bs : List Addr, xs = bs.map V.ref /\ Paired (λ (ks : List Key) (c : Addr) => F c = some (.tup (ks.map kV))) (k2 k) bs := by
  clear hc
  induction ds generalizing k xs with
  | nil => cases e; cases (show xs = [] from ar); exact ⟨[], rfl, .nil⟩
  | cons d ds ih =>
   obtain ⟨k1, e1, e2⟩ := bind_some (show (keyD d).bind (λ k => (tups2D ds).map (k :: ·)) = some k from e)
   obtain ⟨kr, e3, rfl⟩ := Q0.mp e2
   obtain ⟨x, r, rfl, ix, ir⟩ := ar
   obtain ⟨bs, rfl, pr⟩ := ih e3 ir
   unfold keyD at e1
   split at e1
   rotate_left
   · cases e1
   obtain ⟨b, ys, rfl, hb, ay⟩ := ix
   rw [intsD_some e1] at ay
   rw [Are.ints.mp ay, <- key_ints] at hb
   exact ⟨b :: bs, rfl, .cons hb pr⟩
 obtain ⟨bs, rfl, pr⟩ := this
 exact ⟨bs, hc, pr⟩
theorem KeyAt.same {b : Addr} {k : List (List Key)} (h : KeyAt F b k) (s : Same F F') : KeyAt F' b k := by
 obtain ⟨bs, e1, e2⟩ := h
 refine ⟨bs, s _ _ e1, ?_⟩
 clear e1
 induction e2 with
 | nil => exact .nil
 | cons h1 _ ih => exact .cons (s _ _ h1) ih
noncomputable def EntN (K : Fg) (F : Hp) : List Ek -> Cn -> Prop
 | [], [] => True
 | x :: xs, e :: es => (x.1 = k2 e.1 /\ KeyAt F x.2.1 x.1 /\ ∃ c, x.2.2 = Value.ref c /\ Is K F (.ref c) e.2) /\ EntN K F xs es
 | _, _ => False
theorem EntN.same {xs : List Ek} {es : Cn} (h : EntN K F xs es) (s : Same F F') : EntN K F' xs es := by
 induction xs generalizing es with
 | nil =>
  cases es with
  | nil => exact True.intro
  | cons _ _ => exact h.elim
 | cons x xs ih =>
  cases es with
  | nil => exact h.elim
  | cons e es =>
   obtain ⟨⟨h1, h2, c, h3, h4⟩, r⟩ := h
   exact ⟨⟨h1, KeyAt.same h2 s, c, h3, h4.same s⟩, ih r⟩
theorem EntN.keys {xs : List Ek} {es : Cn} (h : EntN K F xs es) (s : Same F H) : KeysAt H xs := by
 induction xs generalizing es with
 | nil => exact λ x hx => nomatch hx
 | cons y xs ih =>
  cases es with
  | nil => exact h.elim
  | cons e es =>
   obtain ⟨⟨h1, h2, _⟩, r⟩ := h
   intro x hx
   rcases Qb.mp hx with rfl | hx
   · exact KeyAt.same h2 s
   · exact ih r x hx
theorem EntN.len {xs : List Ek} {es : Cn} (h : EntN K F xs es) : xs.length = es.length := by
 induction xs generalizing es with
 | nil =>
  cases es with
  | nil => rfl
  | cons _ _ => exact h.elim
 | cons y xs ih =>
  cases es with
  | nil => exact h.elim
  | cons e es => rw [zC, zC, ih h.2]
theorem EntN.snoc {xs : List Ek} {es : Cn} {k : List (List Int)} {b c : Addr} {d : PyData} (h : EntN K F xs es) (hb : KeyAt F b (k2 k)) (hc : Is K F (.ref c) d) : EntN K F (xs ++ [(k2 k, b, Value.ref c)]) (es ++ [(k, d)]) := by
 induction xs generalizing es with
 | nil =>
  cases es with
  | nil => exact ⟨⟨rfl, hb, c, rfl, hc⟩, True.intro⟩
  | cons _ _ => exact h.elim
 | cons y xs ih =>
  cases es with
  | nil => exact h.elim
  | cons e es => exact ⟨h.1, ih h.2⟩
theorem EntN.none_ {xs : List Ek} {es : Cn} {k : List (List Int)} (h : EntN K F xs es) (e : es.find? (λ e => decide (e.1 = k)) = none) : atKey xs (k2 k) = none := by
 induction xs generalizing es with
 | nil => rfl
 | cons y xs ih =>
  cases es with
  | nil => exact h.elim
  | cons p es =>
   obtain ⟨⟨h1, _⟩, r⟩ := h
   by_cases hk : p.1 = k
   · rw [Q26 (by simpa using hk)] at e; cases e
   · rw [Q1b (by simpa using hk)] at e
     unfold atKey
     rw [Q1b (by rw [h1]; simpa using λ z => hk (k2_inj z))]
     exact ih r e
theorem EntN.some_ {xs : List Ek} {es : Cn} {k : List (List Int)} {p : List (List Int) × PyData} (h : EntN K F xs es) (e : es.find? (λ e => decide (e.1 = k)) = some p) : ∃ b c, atKey xs (k2 k) = some (b, Value.ref c) /\ Is K F (.ref c) p.2 := by
 induction xs generalizing es with
 | nil =>
  cases es with
  | nil => cases e
  | cons _ _ => exact h.elim
 | cons y xs ih =>
  cases es with
  | nil => exact h.elim
  | cons q es =>
   obtain ⟨⟨h1, _, c, h3, h4⟩, r⟩ := h
   by_cases hk : q.1 = k
   · rw [Q26 (by simpa using hk)] at e
     cases e
     unfold atKey
     rw [Q26 (by rw [h1, hk]; simp)]
     exact ⟨y.2.1, c, by rw [<- h3]; rfl, h4⟩
   · rw [Q1b (by simpa using hk)] at e
     unfold atKey
     rw [Q1b (by rw [h1]; simpa using λ z => hk (k2_inj z))]
     exact ih r e
theorem Rep.putO {j : Nat} {b : Addr} {vs : List V} {ds : List PyData} (R : Rep K H0 F0 F σ H δ) (z : fzOnly δ = true) (hs : σ[j]? = some (some (.ref b))) (hb : H b = some (.lst vs)) (fb : F b = none) (h0 : H0 b = none) (ar : Are K F vs ds) : Rep K H0 F0 F σ H (δ.set j (some (.ow ds))) := by
 have no : ∀ {i : Nat} {s : Sl}, (δ.set j (some (.ow ds)))[i]? = some (some s) -> (i = j /\ s = .ow ds) \/ δ[i]? = some (some s) := λ {i s} e => by
  rcases get_set e with ⟨y, w⟩ | ⟨_, w⟩
  · exact .inl ⟨y, zV w⟩
  · exact .inr w
 refine ⟨R.g, by rw [Q10]; exact R.len, λ i d e => ?_, λ i ds e => ?_, λ i l ds es c e1 e2 => ?_, λ i ds e => ?_, λ i l ds es c e1 e2 => ?_, R.tb⟩
 · rcases no e with ⟨_, y⟩ | y
   · cases y
   · exact R.fz i d y
 · rcases no e with ⟨rfl, y⟩ | y
   · cases y
     exact ⟨b, vs, hs, hb, fb, h0, ar⟩
   · obtain ⟨_, w⟩ := fzOnly_get z y; cases w
 · rcases no e1 with ⟨rfl, _⟩ | y
   · rcases no e2 with ⟨rfl, _⟩ | y
     · exact λ _ _ => rfl
     · obtain ⟨_, w⟩ := fzOnly_get z y; cases w
   · obtain ⟨_, w⟩ := fzOnly_get z y; cases w
 · rcases no e with ⟨_, y⟩ | y
   · cases y
   · obtain ⟨_, w⟩ := fzOnly_get z y; cases w
 · rcases no e1 with ⟨_, y⟩ | y
   · cases y
   · obtain ⟨_, w⟩ := fzOnly_get z y; cases w
theorem Rep.any (R : Rep K H0 F0 F σ H δ) (i : Nat) (v : V) : Rep K H0 F0 F (σ.set i (some v)) H (δ.set i none) := by
 have old : ∀ {j : Nat} {s : Sl}, (δ.set i none)[j]? = some (some s) -> j ≠ i /\ δ[j]? = some (some s) := λ {j s} e => by
  rcases get_set e with ⟨_, z⟩ | ⟨n, z⟩
  · cases z
  · exact ⟨n, z⟩
 have ps : ∀ {j : Nat}, j ≠ i -> (σ.set i (some v))[j]? = σ[j]? := λ n => Q1e (Ne.symm n)
 refine ⟨R.g, by rw [Q10, Q10]; exact R.len, λ j d e => ?_, λ j ds e => ?_, λ j l ds es a e1 e2 e3 e4 => ?_, λ j ds e => ?_, λ j l ds es a e1 e2 e3 e4 => ?_, R.tb⟩
 · rw [ps (old e).1]; exact R.fz j d (old e).2
 · rw [ps (old e).1]; exact R.ow j ds (old e).2
 · rw [ps (old e1).1] at e3; rw [ps (old e2).1] at e4; exact R.ap j l ds es a (old e1).2 (old e2).2 e3 e4
 · rw [ps (old e).1]; exact R.od j ds (old e).2
 · rw [ps (old e1).1] at e3; rw [ps (old e2).1] at e4; exact R.ad j l ds es a (old e1).2 (old e2).2 e3 e4
noncomputable def loopN (fy : DSt -> Option PyData) (jc jo j : Nat) : List PyData -> DSt -> Cn -> List PyData -> Option DSt
 | [], δ, _, ps => some (δ.set j (some (.ow ps)))
 | d :: r, δ, es, ps => (fy (δ.set jc (some (.fz d)))).bind λ o => (key2D o).bind λ k => if (decide (es.length < LIM) && decide (ps.length < LIM) && isTup d) = true then
  match es.find? λ e => decide (e.1 = k) with
  | some e => loopN fy jc jo j r ((δ.set jc (some (.fz d))).set jo (some (.fz o))) es (ps ++ [.tuple [e.2, d]])
  | none => loopN fy jc jo j r ((δ.set jc (some (.fz d))).set jo (some (.fz o))) (es ++ [(k, d)]) ps
  else none
noncomputable def dFirsts (fi : DSt -> Option (List PyData)) (jc jo i j : Nat) (fy : DSt -> Option PyData) (fr : DSt -> Option DFlow) (δ : DSt) : Option DFlow :=
 if (fzOnly ((δ.set i none).set j none) && decide (jc < δ.length) && decide (jo < δ.length) && decide (i < δ.length) && decide (j < δ.length)) = true then (fi ((δ.set i none).set j none)).bind λ ds => (loopN fy jc jo j ds ((δ.set i none).set j none) [] []).bind fr else none
structure QI (P : Program) (w : World) (K : Fg) (H0 F0 F : Hp) (σ : St) (H : Hp) (δ : DSt) (i j N : Nat) (es : Cn) (ps : List PyData) : Prop where
 R : Rep K H0 F0 F σ H δ
 z : fzOnly δ = true
 ln : δ.length = N
 ex : ∃ a b xs vs, σ[i]? = some (some (.ref a)) /\ H a = some (DNO P w a xs) /\ F a = none /\ H0 a = none /\ EntN K F xs es /\ σ[j]? = some (some (.ref b)) /\ H b = some (.lst vs) /\ F b = none /\ H0 b = none /\ Are K F vs ps
variable {P : Program} {w : World}
theorem QI.grow {i j N : Nat} {es : Cn} {ps : List PyData} (I : QI P w K H0 F0 F σ H δ i j N es ps) (g : Grow F H F' H') : QI P w K H0 F0 F' σ H' δ i j N es ps := by
 obtain ⟨a, b, xs, vs, h1, h2, h3, h4, h5, h6, h7, h8, h9, hA⟩ := I.ex
 exact ⟨I.R.grow g, I.z, I.ln, a, b, xs, vs, h1, g.h _ _ h2, g.o _ _ h2 dno_tup h3, h4, h5.same g.f, h6, g.h _ _ h7, g.o _ _ h7 (λ _ z => nomatch z) h8, h9, hA.same g.f⟩
theorem QI.set {i j l N : Nat} {es : Cn} {ps : List PyData} {v : V} {d : PyData} (I : QI P w K H0 F0 F σ H δ i j N es ps) (n1 : l ≠ i) (n2 : l ≠ j) (h : Is K F v d) : QI P w K H0 F0 F (σ.set l (some v)) H (δ.set l (some (.fz d))) i j N es ps := by
 obtain ⟨a, b, xs, vs, h1, h2, h3, h4, h5, h6, r⟩ := I.ex
 exact ⟨I.R.set h, fzOnly_set I.z l d, by rw [Q10]; exact I.ln, a, b, xs, vs, by rw [Q1e n1]; exact h1, h2, h3, h4, h5, by rw [Q1e n2]; exact h6, r⟩
theorem ss_firsts {wi : TI} {ty : TE} {tr : TS} {fi : DSt -> Option (List PyData)} {fy : DSt -> Option PyData} {fr : DSt -> Option DFlow} (jc jo i j : Nat) (hi : SI K wi fi) (hy : SE K ty fy) (hr : SS K tr fr)
 (n1 : jc ≠ i := by decide) (n2 : jo ≠ i := by decide) (n3 : jo ≠ jc := by decide) (n4 : jc ≠ j := by decide) (n5 : jo ≠ j := by decide) (n6 : j ≠ i := by decide) :
 SS K (tSeq (tAsg (tNewN P w) (gName i)) (tSeq (tAsg (tLst tNil) (gName j)) (tSeq (tFor wi (gName jc) (tSeq (tAsg ty (gName jo)) (tIfS (tTest (tInN P w (tVar jo) (tVar i))) (tDrop (tBM K "list" rAppend (tVar j) (tCons (tTup (tCons (tGetN P w (tVar i) (tVar jo)) (tCons (tVar jc) tNil))) tNil))) (sPutN P w (tVar i) (tVar jo) (tVar jc))))) tr))) (dFirsts fi jc jo i j fy fr) := by
 intro H0 F0 F σ H δ r D R e h
 unfold dFirsts at e
 split at e
 rotate_left
 · cases e
 rename_i c
 simp only [Q2, decide_eq_true_eq] at c
 obtain ⟨⟨⟨⟨z, lc⟩, lo⟩, li⟩, lj⟩ := c
 obtain ⟨ds, e1, e2⟩ := bind_some e
 obtain ⟨δ9, e3, e4⟩ := bind_some e2
 clear e e2
 intro a ha
 refine ⟨zU _, λ b hb => ?_⟩
 have Fa : F a = none := R.g.s.free ha
 have H0a : H0 a = none := R.g.h.free ha
 have g1 : Grow F H F (upd H a (DNO P w a [])) := ⟨Same.refl _, λ x o e => by rw [upd_ne (ne_of_none e Fa)]; exact R.g.s x o e, λ x o e => by rw [upd_ne (ne_of_none e ha)]; exact e, λ _ _ _ _ q => q⟩
 have R1 := (R.grow g1).any i (.ref a)
 have Fb : F b = none := R1.g.s.free hb
 have H0b : H0 b = none := R1.g.h.free hb
 have ab : a ≠ b := λ y => by rw [<- y, upd_same] at hb; cases hb
 have g2 : Grow F (upd H a (DNO P w a [])) F (upd (upd H a (DNO P w a [])) b (.lst [])) := ⟨Same.refl _, λ x o e => by rw [upd_ne (ne_of_none e Fb)]; exact R1.g.s x o e, λ x o e => by rw [upd_ne (ne_of_none e hb)]; exact e, λ _ _ _ _ q => q⟩
 have R2 := (R1.grow g2).any j (.ref b)
 have sl : σ.length = δ.length := R.len
 refine hi H0 F0 F _ _ _ ds _ R2 e1 λ J H1 F1 g3 it => ?_
 have P0 : QI P w K H0 F0 F1 ((σ.set i (some (.ref a))).set j (some (.ref b))) H1 ((δ.set i none).set j none) i j δ.length [] [] := by
  refine ⟨R2.grow g3, z, by rw [Q10, Q10], a, b, [], [], ?_, g3.h _ _ ?_, ?_, H0a, True.intro, ?_, g3.h _ _ upd_same, g3.o _ _ upd_same (λ _ y => nomatch y) Fb, H0b, rfl⟩
  · rw [Q1e n6, Q1f (by omega)]
  · rw [upd_ne ab, upd_same]
  · exact g3.o _ _ (by rw [upd_ne ab, upd_same]) dno_tup Fa
  · rw [Q1f (by rw [Q10]; omega)]
 refine ⟨λ q m σ H => m = ds.length - q /\ q <= ds.length /\ ∃ F' δ' es ps, QI P w K H0 F0 F' σ H δ' i j δ.length es ps /\ Same F1 F' /\ loopN fy jc jo j (ds.drop q) δ' es ps = some δ9, ⟨ds.length, by simp, zU _, F1, _, [], [], P0, Same.refl _, e3⟩, ?_⟩
 rintro q m σ' H' ⟨rfl, hle, F', δ', es, ps, I, s', e'⟩
 by_cases hlt : q < ds.length
 · refine .inr ⟨it.go q F' H' hlt s' I.R.g.s, λ σ H => q + 1 <= ds.length /\ ∃ F' δ' es ps, QI P w K H0 F0 F' σ H δ' i j δ.length es ps /\ Same F1 F' /\ loopN fy jc jo j (ds.drop (q + 1)) δ' es ps = some δ9, λ σ2 H2 y => ⟨ds.length - (q + 1), by omega, rfl, y⟩, λ x H2 y => ?_⟩
   have hd : ds[q]? = some ds[q] := gEq hlt
   obtain ⟨F2, g2', is⟩ := it.yld q _ F' H' x H2 hd s' I.R.g.s y
   rw [Q27 hlt] at e'
   obtain ⟨o, w1, e5⟩ := bind_some e'
   obtain ⟨k, w2, e6⟩ := bind_some e5
   clear e' e5
   split at e6
   rotate_left
   · cases e6
   rename_i lims
   simp only [Q2, decide_eq_true_eq] at lims
   obtain ⟨⟨lim1, lim2⟩, tp⟩ := lims
   have I2 := (I.grow g2').set n1 n4 is
   refine hy H0 F0 F2 _ H2 _ o _ I2.R w1 λ v H3 F3 g4 i3 => ?_
   have I3 := (I2.grow g4).set n2 n5 i3
   have sF3 : Same F1 F3 := s'.trans (g2'.f.trans g4.f)
   have ix : Is K F3 x ds[q] := is.same g4.f
   have sl' : σ'.length = δ.length := I.R.len.trans I.ln
   generalize hσ4 : (σ'.set jc (some x)).set jo (some v) = σ4 at I3
   have hjc : σ4[jc]? = some (some x) := by rw [<- hσ4, Q1e n3, Q1f (by omega)]
   have hjo : σ4[jo]? = some (some v) := by rw [<- hσ4, Q1f (by rw [Q10]; omega)]
   generalize hδ4 : (δ'.set jc (some (.fz ds[q]))).set jo (some (.fz o)) = δ4 at I3 e6
   show tIfS (tTest (tInN P w (tVar jo) (tVar i))) (tDrop (tBM K "list" rAppend (tVar j) (tCons (tTup (tCons (tGetN P w (tVar i) (tVar jo)) (tCons (tVar jc) tNil))) tNil))) (sPutN P w (tVar i) (tVar jo) (tVar jc)) { D with nx := _, ct := _, bk := _ } ((σ'.set jc (some x)).set jo (some v)) H3
   rw [hσ4]
   unfold key2D at w2
   split at w2
   rotate_left
   · cases w2
   rename_i dk
   obtain ⟨c, xk, rfl, u1, u2⟩ := i3
   have kc : KeyAt F3 c (k2 k) := keyAt_of w2 u1 u2
   obtain ⟨a', b', xs, vs, h1, h2, h3, h4, h5, h6, h7, h8, h9, hA⟩ := I3.ex
   have ks : KeysAt H3 xs := h5.keys I3.R.g.s
   have kH : KeyAt H3 c (k2 k) := KeyAt.same kc I3.R.g.s
   obtain ⟨c', hx⟩ : ∃ c', x = .ref c' := by
    cases hq : ds[q] with
    | tuple _ =>
     rw [hq] at ix
     obtain ⟨c', _, y, _⟩ := ix
     exact ⟨c', y⟩
    | _ => rw [hq] at tp; cases tp
   subst hx
   refine ⟨.ref c, hjo, .ref a', h1, a', c, xs, k2 k, rfl, rfl, h2, ks, kH, _, rfl, ?_⟩
   cases hf : es.find? λ e => decide (e.1 = k) with
   | some p =>
    rw [hf] at e6
    obtain ⟨b1, c1, q1, q2⟩ := h5.some_ hf
    rw [q1]
    refine ⟨.ref b', h6, .inl ⟨rfl, vs, SqL.of h7⟩, .ref a', h1, .ref c, hjo, a', c, xs, k2 k, b1, c1, rfl, rfl, h2, ks, kH, q1, .ref c', hjc, (by show 2 <= sizeLine; exact lim_line (by decide)), λ t ht => ?_⟩
    have g5 : Grow F3 H3 _ _ := Grow.new (o := .tup [.ref c1, .ref c']) I3.R.g.s ht
    have Ft : F3 t = none := I3.R.g.s.free ht
    have I4 := I3.grow g5
    have bt : b' ≠ t := ne_of_none h7 ht
    have at_ : a' ≠ t := ne_of_none h2 ht
    have ba : a' ≠ b' := λ y => dno_lst ((y ▸ h2.symm).trans h7)
    refine ⟨b', vs, .ref t, rfl, rfl, by rw [upd_ne bt]; exact h7, ?_, hlt, _, δ4, es, ps ++ [.tuple [p.2, ds[q]]], ⟨I4.R.upd_ I4.z (by rw [upd_ne bt]; exact h8) h9, I4.z, I4.ln, a', b', xs, _, h1, by rw [upd_ne ba, upd_ne at_]; exact h2, by rw [upd_ne at_]; exact h3, h4, h5.same g5.f, h6, upd_same, by rw [upd_ne bt]; exact h8, h9, ?_⟩, sF3.trans g5.f, e6⟩
    · rw [hA.length]; exact lim_lt (nLe lim2)
    · exact (hA.same g5.f).append (Are.one ⟨t, [.ref c1, .ref c'], rfl, upd_same, _, _, rfl, q2.same g5.f, _, _, rfl, ix.same g5.f, rfl⟩)
   | none =>
    rw [hf] at e6
    rw [h5.none_ hf]
    refine ⟨.ref c', hjc, .ref a', h1, .ref c, hjo, a', c, xs, k2 k, c', rfl, rfl, rfl, h2, ks, kH, ?_, hlt, F3, δ4, es ++ [(k, ds[q])], ps, ⟨I3.R.upd_ I3.z h3 h4, I3.z, I3.ln, a', b', _, vs, h1, upd_same, h3, h4, ?_, h6, ?_, h8, h9, hA⟩, sF3, e6⟩
    · rw [h5.len]; exact lim_lt (nLe lim1)
    · rw [storedH_new (h5.none_ hf)]
      exact h5.snoc kc ix
    · rw [upd_ne (λ y => dno_lst (h2.symm.trans (y ▸ h7)))]
      exact h7
 · have e5 : q = ds.length := by omega
   subst e5
   rw [List.drop_length] at e'
   cases e'
   obtain ⟨a', b', xs, vs, h1, h2, h3, h4, h5, h6, h7, h8, h9, hA⟩ := I.ex
   refine .inl ⟨it.stop F' H' s' I.R.g.s, ?_⟩
   exact hr H0 F0 F' σ' H' _ r D (I.R.putO I.z h6 h7 h8 h9 hA) e4 (h.up (g3.f.trans s'))
end
theorem hu2 {n : Nat} (h : n + 64 < cLine) : n + 2 < cLine := Nat.lt_of_le_of_lt (Nat.add_le_add_left (by decide) n) h
section
variable {K : Fg} {C : Addr}
theorem try_toldL {Dc : Addr} {i : Nat} {tb : XK -> TS} {u : TS} {fx : DSt -> Bool} {ys : List V} {bs : List Bool} {vs : List V} {ds : List PyData} {F H : Hp} {Q : VK} {N : List Str} (sx : ∀ E, SX K E C (tb E) fx) (hex : PySem.W.exmOne K (.ref C) (.ref Dc) = some true) (xc : ExcCls K C)
 (a : AllAns K C ys bs) (l1 : bs.length <= 1000) (hi : i < N.length) (s : SameT K F H) (ar : Are K F vs ds) (e : fx (stD N.length ds) = true) (q : ∀ v H' F', Grow F H F' H' -> Is K F' v (.list (bs.map PyData.bool)) -> Q v H') :
 tSeq (tTry K Dc i N.length tb (λ _ => tRet (tLst (tQ K i ys)))) u { nx := λ _ H' => Q .non H', rt := Q } (L2.start N vs) H := by
 have R := repStart (K := K) (N := N) s ar
 refine sx _ H F F _ H (stD N.length ds) _ R e (λ v F' H' g' hv => ⟨C, rfl, hex, λ ea e' hf σ' hσ => ?_⟩)
 refine tQ_ans (by rw [Q1f (by rw [hσ]; exact hi)]) upd_same xc a ⟨by rw [zJ]; exact small l1, λ p hp => ?_⟩
 have g1 : Grow F H F' (upd H' ea (XO ea C)) := g'.trans (Grow.fresh g'.s hf)
 have g2 := g1.trans (Grow.new (p := p) (o := .lst (bs.map V.bl)) g1.s hp)
 exact q (.ref p) _ _ g2 ⟨p, _, rfl, upd_same, Are.bools.mpr rfl⟩
end
end DL
namespace L2
open PySem PySem.Spec PyProof.Rows
theorem minArgsD (a : Value) : argsOk "min" ⟨[a], [(Str.ofString "default", .none)]⟩ := by unfold argsOk; kernel_rfl
section
variable {X : Cx} {pins : List (Addr × Obj)} {σ : St} {S I l : Addr} {xs : List V} {F H0 : Hp} {lt : Nat -> Nat -> Bool} {R : Result -> Shared -> Prop}
theorem minMineD (hcm : X.calm = true) (hFl : F l = some (.lst xs)) (hFS : F S = none) (hSI : S ≠ I)
 (hc : ∀ (i j : Nat) (x y : V) (u v : Value) (H : Hp) (s : Shared), xs[i]? = some x -> xs[j]? = some y -> Inv X pins σ H s -> Same F H -> RelV x u -> RelV y v -> LtAt X.A.in1 s u v (lt i j))
 (hR : ∀ (v : V) (u : Value) (H' : Hp) (s' : Shared), xs[mIx lt (xs.length - 1)]? = some v -> RelV v u -> Inv X pins σ H' s' -> Same F H' -> (∀ b, b ≠ S -> H' b = H0 b) -> R (.ok (.ret u)) s') :
 ∀ (r j : Nat) (H : Hp) (s : Shared) (vb : V), xs.length - (j + 1) = r -> j + 1 <= xs.length -> Inv X pins σ H s -> Same F H -> (∀ b, b ≠ S -> H b = H0 b) -> H S = some (.lst [vb, vb]) -> xs[mIx lt j]? = some vb -> FpOk X pins H I -> s.heap.IsListIter I l (j + 1) ->
  codeAny (model X.prog X.w) X.A (.builtin "min.loop" ⟨[.ref I, .none, .ref S], [(Str.ofString "default", .none)]⟩) R s := by
 have hname : (toString "min" ++ toString ".loop" : String) = "min.loop" := by decide
 intro r
 induction r with
 | zero =>
  intro j H s vb hr hj J sF hb hS hvb hI hit
  have hin : j + 1 = xs.length := by omega
  have hl := sF _ _ hFl
  have hlI : l ≠ I := λ z => by rw [z, hI.1] at hl; cases hl
  obtain ⟨zl, its, n, rl, ll, el⟩ := J.lstM hl
  obtain ⟨zS, itS, nS, rS, lS, eS⟩ := J.lstM hS
  obtain ⟨u1, u2, rfl, r1, r2⟩ := rS.two
  have W := Walks.list (prog := X.prog) (w := X.w) (A := X.A.in1) (J.ok.hd hcm) I l hlI its.toArray
  have hsz : its.toArray.size = its.length := zM ..
  refine codeAny_builtin PySem.F.entry_min_loop ?_
  rw [Around.under_plainId PySem.F.plain_min_loop _]
  show wpAny _ X.A.in1 (seqItems? (.ref S) >>= _) _ _ _
  refine wB (wpAny_seqItems eS rfl ?_)
  show wpAny _ X.A.in1 (tryCatch (pyNext (.ref I)) _ >>= _) _ _ _
  refine wB (wpAny_tryCatch (W.done _ _ _ ⟨by rw [hsz, <- ll, <- hin]; exact hit, ⟨_, el, rfl, _, rfl⟩⟩ λ h' tk' hk' => ?_))
  have J1 : Inv X pins σ H { s with heap := h', toks := tk' } := J.turned (it := I) (λ b o hb e => hk' b o (by simpa using hb) e) hI.1 hI.2.1 hI.2.2.2.1 hI.2.2.2.2.1 hI.2.2.2.2.2
  have eS1 : h'.get? S = some { cls := .type "list", data := .seq [u1, u2].toArray nS } := hk' S _ (by simpa using hSI) eS
  show wpAny _ X.A.in1 (updateSeq S (λ _ => #[]) >>= _) _ _ _
  refine wB ?_
  refine wpAny_updateSeq eS1 rfl (wB (wpAny_letGo (wP ?_)))
  have J2 := J1.lset (l := S) (ys := []) (its' := []) (f := λ _ => #[]) (t' := tk') hS eS1 rfl .nil (zU _)
  refine hR vb u1 _ _ (by rw [<- hin]; exact hvb) r1 J2 (λ b o e => ?_) λ b n => by rw [upd_ne n]; exact hb b n
  rw [upd_ne (λ z => by rw [z, hFS] at e; cases e)]
  exact sF b o e
 | succ r ih =>
  intro j H s vb hr hj J sF hb hS hvb hI hit
  have hlt : j + 1 < xs.length := by omega
  have hl := sF _ _ hFl
  have hlI : l ≠ I := λ z => by rw [z, hI.1] at hl; cases hl
  obtain ⟨zl, its, n, rl, ll, el⟩ := J.lstM hl
  obtain ⟨zS, itS, nS, rS, lS, eS⟩ := J.lstM hS
  obtain ⟨u1, u2, rfl, r1, r2⟩ := rS.two
  have W := Walks.list (prog := X.prog) (w := X.w) (A := X.A.in1) (J.ok.hd hcm) I l hlI its.toArray
  have hsz : its.toArray.size = its.length := zM ..
  refine codeAny_builtin PySem.F.entry_min_loop ?_
  rw [Around.under_plainId PySem.F.plain_min_loop _]
  show wpAny _ X.A.in1 (seqItems? (.ref S) >>= _) _ _ _
  refine wB (wpAny_seqItems eS rfl ?_)
  show wpAny _ X.A.in1 (tryCatch (pyNext (.ref I)) _ >>= _) _ _ _
  refine wB (wpAny_tryCatch (W.item (j + 1) _ _ _ (by rw [hsz, <- ll]; exact hlt) ⟨hit, ⟨_, el, rfl, _, rfl⟩⟩ λ u h' tk' hP hst' hk' => ?_))
  have hv : its[j + 1]? = some u := by simpa using hP
  obtain ⟨x, hx, rx⟩ := vals_get rl hv
  have J1 : Inv X pins σ H { s with heap := h', toks := tk' } := J.turned (it := I) (λ b o hb e => hk' b o (by simpa using hb) e) hI.1 hI.2.1 hI.2.2.2.1 hI.2.2.2.2.1 hI.2.2.2.2.2
  have eS1 : h'.get? S = some { cls := .type "list", data := .seq [u1, u2].toArray nS } := hk' S _ (by simpa using hSI) eS
  have cm := hc (j + 1) (mIx lt j) x vb u u2 H _ hx hvb J1 sF rx r2
  show wpAny _ X.A.in1 (pure u >>= _) _ _ _
  refine wB (wP ?_)
  show wpAny _ X.A.in1 (tryCatch (holding [u, u] (richCompare .Lt u u2 >>= _)) _ >>= _) _ _ _
  refine wB (wpAny_tryCatch (wpAny_holding (wB (cm _ _ _ _ ?_))))
  refine wB (wpAny_holding (wpAny_truthy_bool ?_))
  refine wB (wpAny_letGo (wP ?_))
  by_cases c : lt (j + 1) (mIx lt j) = true
  · rw [c]
    simp only [if_true]
    refine wB ?_
    refine wpAny_updateSeq eS1 rfl (wB (wpAny_letGo ?_))
    rw [hname]
    have J2 := J1.lset (l := S) (ys := [x, x]) (its' := [u, u]) (f := λ _ => #[u, u]) (t' := tk') hS eS1 rfl (.cons rx (.cons rx .nil)) (small (show 2 <= 1000 by decide))
    obtain ⟨oI, hoI, hoc, hod⟩ := id hst'.1
    refine wP ⟨plainId_quiet PySem.F.plain_min_loop _, ih (j + 1) _ _ x (by omega) hlt J2 (λ b o e => ?_) (λ b n => by rw [upd_ne n]; exact hb b n) upd_same (by rw [mIx, if_pos c]; exact hx) ⟨by rw [upd_ne hSI.symm]; exact hI.1, hI.2⟩ ⟨oI, ?_, hoc, hod⟩⟩
    · rw [upd_ne (λ z => by rw [z, hFS] at e; cases e)]
      exact sF b o e
    · exact (hUo h' _ hSI).trans hoI
  · have c' : lt (j + 1) (mIx lt j) = false := by simpa using c
    rw [c']
    simp only [zN, if_false]
    refine wB (wpAny_letGo ?_)
    rw [hname]
    exact wP ⟨plainId_quiet PySem.F.plain_min_loop _, ih (j + 1) H _ vb (by omega) hlt J1 sF hb hS (by rw [mIx, if_neg c]; exact hvb) hI hst'.1⟩
end
def rMinD (K : Fg) : List V -> Hp -> VK -> Prop := λ as H Q => ∃ (l : Addr) (xs : List V) (F : Hp) (ds : List PyData), as = [.ref l] /\ F l = some (.lst xs) /\ Same F H /\ DL.Are K F xs ds /\ (∀ d ∈ ds, DL.okD d = true) /\
 (∀ a ∈ ds, ∀ b ∈ ds, (ltD a b).isSome = true) /\ (xs = [] -> ∀ H' : Hp, Same F H' -> Same H H' -> Q .non H') /\ ∀ (v : V) (H' : Hp), xs[mIx (λ i j => (ltD (ds.getD i .none) (ds.getD j .none)).getD false) (xs.length - 1)]? = some v -> Same F H' -> Same H H' -> Q v H'
theorem call_minD {X : Cx} {pins : List (Addr × Obj)} {s : Shared} {σ : St} {H : Hp} {as : List V} {us : List Value} {Q : VK} (hcm : X.calm = true) (hu : X.A.units + 64 < cLine) (J : Inv X pins σ H s) (rv : Vals as us) (h : rMinD X.K as H Q) :
 wpAny (model X.prog X.w) X.A (call (.builtin "min") us [(Str.ofString "default", .none)]) (EP X pins σ Q) X.xe s := by
 obtain ⟨l, xs, F, ds, rfl, hFl, sF, ar, hok, hcmp, q0, q⟩ := h
 obtain ⟨u, rfl, ru⟩ := vals1 rv
 cases (show u = Value.ref l from ru)
 have hname : (toString "min" ++ toString ".loop" : String) = "min.loop" := by decide
 have hl := sF _ _ hFl
 obtain ⟨zl, its, n, rl, ll, el⟩ := J.lstM hl
 have lenD := ar.length
 have hc : ∀ (i j : Nat) (x y : V) (u v : Value) (H : Hp) (s : Shared), xs[i]? = some x -> xs[j]? = some y -> Inv X pins σ H s -> Same F H -> RelV x u -> RelV y v -> LtAt X.A.in1 s u v ((ltD (ds.getD i .none) (ds.getD j .none)).getD false) := by
  intro i j x y u v H1 s1 hx hy J1 s1F rx ry
  obtain ⟨dx, ex, ix⟩ := ar.get' hx
  obtain ⟨dy, ey, iy⟩ := ar.get' hy
  have gx : ds.getD i .none = dx := by rw [gDq, ex]; rfl
  have gy : ds.getD j .none = dy := by rw [gDq, ey]; rfl
  have mx := List.mem_of_getElem? ex
  have my := List.mem_of_getElem? ey
  have cx := DL.okD_cmp (hok dx mx)
  have cy := DL.okD_cmp (hok dy my)
  obtain ⟨as, ra⟩ := (DL.toD dx cx.1 (ix.same s1F)).reads J1 _ rx
  obtain ⟨bs, rb⟩ := (DL.toD dy cy.1 (iy.same s1F)).reads J1 _ ry
  obtain ⟨b, hb⟩ := Option.isSome_iff_exists.mp (hcmp dx mx dy my)
  rw [gx, gy, hb]
  exact ltAt_reads dx dy X.A.in1 s1 u v as bs b ra rb cx.1 cy.1 (by have := cx.2; show X.A.units + 1 + _ < cLine; omega) hb
 refine kmk_tree PySem.F.kind_min PySem.F.plain_min PySem.F.entry_min (minArgsD _) ?_
 show wpAny _ X.A.in1 (Builtin.Builtins.bindParams "min" ["key", "default"] 0 ⟨[], [(Str.ofString "default", .none)]⟩ >>= _) _ _ s
 refine wB (wpAny_of_eq (show Builtin.Builtins.bindParams "min" ["key", "default"] 0 ⟨[], [(Str.ofString "default", .none)]⟩ = pure [none, some .none] from rfl) ?_)
 refine wB (wP ?_)
 refine wB (wpAny_pyIter_list ⟨_, el, rfl, _, rfl⟩ ?_)
 refine wB (wpAny_newList ?_ (zU _))
 rw [hname]
 have hlt : l < s.heap.objs.size := hLs el
 have hS : (s.heap.push { cls := .type "list_iterator", data := .fields #[.ref l, .int 0 0] }).objs.size = s.heap.objs.size + 1 := size_push' ..
 have hSI : (s.heap.push { cls := .type "list_iterator", data := .fields #[.ref l, .int 0 0] }).objs.size ≠ s.heap.objs.size := by rw [hS]; exact nNg (Q23 _)
 have hlI : l ≠ s.heap.objs.size := nNl hlt
 refine wP ⟨plainId_quiet PySem.F.plain_min_loop _, ?_⟩
 have J0 : Inv X pins σ H { s with heap := s.heap.push { cls := .type "list_iterator", data := .fields #[.ref l, .int 0 0] } } := J.kept (t' := s.toks) λ b o e => hPo _ e
 have HS0 : H (s.heap.push { cls := .type "list_iterator", data := .fields #[.ref l, .int 0 0] }).objs.size = none := J0.fresh
 have FS0 : F (s.heap.push { cls := .type "list_iterator", data := .fields #[.ref l, .int 0 0] }).objs.size = none := by
  cases e : F (s.heap.push { cls := .type "list_iterator", data := .fields #[.ref l, .int 0 0] }).objs.size with
  | none => rfl
  | some o => rw [sF _ _ e] at HS0; cases HS0
 have J1 := J0.lnew (ys := []) (its := []) (t' := s.toks) .nil (zU _)
 have gI : ((s.heap.push { cls := .type "list_iterator", data := .fields #[.ref l, .int 0 0] }).push { cls := .type "list", data := .seq #[] 0 }).get? s.heap.objs.size = some { cls := .type "list_iterator", data := .fields #[.ref l, .int 0 0] } := hPo _ (hPs _ rfl)
 have gS : ((s.heap.push { cls := .type "list_iterator", data := .fields #[.ref l, .int 0 0] }).push { cls := .type "list", data := .seq #[] 0 }).get? (s.heap.push { cls := .type "list_iterator", data := .fields #[.ref l, .int 0 0] }).objs.size = some { cls := .type "list", data := .seq #[] 0 } := hPs _ rfl
 have fI : FpOk X pins (upd H (s.heap.push { cls := .type "list_iterator", data := .fields #[.ref l, .int 0 0] }).objs.size (.lst [])) s.heap.objs.size := J.fpOk (Q1 _) (by rw [upd_ne hSI.symm]; exact J.fresh)
 have sF1 : Same F (upd H (s.heap.push { cls := .type "list_iterator", data := .fields #[.ref l, .int 0 0] }).objs.size (.lst [])) := λ b o e => by
  rw [upd_ne (λ z => by rw [z, FS0] at e; cases e)]
  exact sF b o e
 have el1 : ((s.heap.push { cls := .type "list_iterator", data := .fields #[.ref l, .int 0 0] }).push { cls := .type "list", data := .seq #[] 0 }).get? l = some { cls := .type "list", data := .seq its.toArray n } := hPo _ (hPo _ el)
 have W := Walks.list (prog := X.prog) (w := X.w) (A := X.A.in1) (J.ok.hd hcm) s.heap.objs.size l hlI its.toArray
 have hsz : its.toArray.size = its.length := zM ..
 refine codeAny_builtin PySem.F.entry_min_loop ?_
 rw [Around.under_plainId PySem.F.plain_min_loop _]
 show wpAny _ X.A.in1 (seqItems? (.ref _) >>= _) _ _ _
 refine wB (wpAny_seqItems gS rfl ?_)
 show wpAny _ X.A.in1 (tryCatch (pyNext (.ref s.heap.objs.size)) _ >>= _) _ _ _
 by_cases hne : xs = []
 · have l0 : its.length = 0 := by rw [<- ll, hne]; rfl
   refine wB (wpAny_tryCatch (W.done _ _ _ ⟨⟨_, gI, rfl, by rw [hsz, l0]; rfl⟩, ⟨_, el1, rfl, _, rfl⟩⟩ λ h' tk' hk' => ?_))
   have J2 := J1.turned (h' := h') (t' := tk') (it := s.heap.objs.size) (λ b o hb e => hk' b o (by simpa using hb) e) fI.1 fI.2.1 fI.2.2.2.1 fI.2.2.2.2.1 fI.2.2.2.2.2
   refine wB (wpAny_rule (wP ?_))
   refine ⟨.non, _, J2, rfl, q0 hne _ sF1 λ b o e => ?_⟩
   rw [upd_ne (λ z => by rw [z, HS0] at e; cases e)]
   exact e
 have pos : 0 < xs.length := by
  cases xs with
  | nil => exact absurd rfl hne
  | cons _ _ => exact Nat.succ_pos _
 refine wB (wpAny_tryCatch (W.item 0 _ _ _ (by rw [hsz, <- ll]; exact pos) ⟨⟨_, gI, rfl, rfl⟩, ⟨_, el1, rfl, _, rfl⟩⟩ λ u h' tk' hP hst' hk' => ?_))
 have hv : its[0]? = some u := by simpa using hP
 obtain ⟨x, hx, rx⟩ := vals_get rl hv
 have J2 := J1.turned (h' := h') (t' := tk') (it := s.heap.objs.size) (λ b o hb e => hk' b o (by simpa using hb) e) fI.1 fI.2.1 fI.2.2.2.1 fI.2.2.2.2.1 fI.2.2.2.2.2
 have eS1 := hk' _ _ (by simpa using hSI) gS
 show wpAny _ X.A.in1 (pure u >>= _) _ _ _
 refine wB (wP ?_)
 show wpAny _ X.A.in1 (updateSeq (s.heap.push { cls := .type "list_iterator", data := .fields #[.ref l, .int 0 0] }).objs.size (λ _ => #[u, u]) >>= _) _ _ _
 refine wB ?_
 refine wpAny_updateSeq eS1 rfl ?_
 rw [hname]
 have J3 := J2.lset (ys := [x, x]) (its := []) (its' := [u, u]) (f := λ _ => #[u, u]) (t' := tk') upd_same eS1 rfl (.cons rx (.cons rx .nil)) (small (show 2 <= 1000 by decide))
 obtain ⟨oI, hoI, hoc, hod⟩ := id hst'.1
 refine wP ⟨plainId_quiet PySem.F.plain_min_loop _, minMineD (S := (s.heap.push { cls := .type "list_iterator", data := .fields #[.ref l, .int 0 0] }).objs.size) (I := s.heap.objs.size) (H0 := H) hcm hFl FS0 hSI hc (λ v u' H' s' e1 e2 e3 e4 e5 => ?_) _ 0 _ _ x rfl pos J3 (λ b o e => ?_) (λ b nb => by rw [upd_ne nb, upd_ne nb]) upd_same hx ⟨by rw [upd_ne hSI.symm]; exact fI.1, fI.2⟩ ⟨oI, ?_, hoc, hod⟩⟩
 · refine ⟨v, H', e3, e2, q v H' e1 e4 λ b o e => ?_⟩
   rw [e5 b (λ z => by rw [z, HS0] at e; cases e)]
   exact e
 · rw [upd_ne (λ z => by rw [z, FS0] at e; cases e)]
   exact sF1 b o e
 · exact (hUo h' _ hSI).trans hoI
def tMinD (K : Fg) (t : TA) : TE := λ σ H Q => t σ H λ vs H1 => rMinD K vs H1 Q
theorem pe_minD {X : Cx} {K : Fg} {x : Str} {p pos : Pos} {e : Expr} {t : TA} (hcm : X.calm = true) (hu : X.A.units + 64 < cLine) (hg : Gl X x) (hm : X.mg x = none) (hv : bootBuiltins x = some (.builtin "min")) (ha : PA X [e] t) (hn : x ≠ "__name__" := by decide) (hdb : (x == ("__debug__" : Str)) = false := by decide) {kw : Keyword}
 (hk : ∀ s : Shared, ∀ Q : List Value -> Shared -> Prop, Q [.none] s -> wpAny (model X.prog X.w) X.A (evalAll ((backToKw pos (keywordEach [kw] X.env)).map (·.2))) Q X.xe s)
 (hkn : (backToKw pos (keywordEach [kw] X.env)).filterMap (·.1) = [Str.ofString "default"] := by rfl)
 (he : backTo pos (starEach [e] X.env) = (false, eval e X.env) :: backTo pos (starEach [] X.env) := by rfl) (hpl : (backTo pos (starEach [e] X.env)).any (·.1) = false := by rfl)
 (hall : (backToKw pos (keywordEach [kw] X.env)).all (·.1.isSome) = true := by rfl) (hkw : (backToKw pos (keywordEach [kw] X.env)).any (·.1.isNone) = false := by rfl) (hK : X.K = K := by rfl) :
 PE X (.Call (.Name x p) [e] [kw] pos) (tMinD K t) := by
 subst hK
 intro pins s σ H Q I h
 refine wpAny_Call_Name_kw (ld_blt I hg hm hv ?_ hn hdb)
 refine PyProof.Rows.callWith_kw (thn (ha pos pins s σ H _ I h) λ us s1 ⟨vs, H1, I1, r1, q1⟩ => hk s1 _ ?_) he hpl hall hkw
 rw [hkn]
 exact call_minD hcm hu I1 r1 q1
end L2
namespace DL
open PySem L2
theorem kw_none {M : Model} {A : Around} {E : Value -> Shared -> Prop} {s : Shared} {env : Env} {pos cp : Pos} {j : Nat} {nm : Str} {kp : Pos} {Q : List Value -> Shared -> Prop} (h : Q [.none] s) :
 wpAny M A (evalAll ((backToKw pos (keywordEach [⟨some nm, .Constant .none j cp, kp⟩] env)).map (·.2))) Q E s :=
 PyProof.Rows.kws_cons (PyProof.Rows.Constant_none (PyProof.Rows.kws_nil h))
section
variable {K : Fg}
noncomputable def minDC : List PyData -> Option PyData
 | [.list []] => some .none
 | ds => minC ds
noncomputable def dMinD (fa : DSt -> Option (List PyData)) (δ : DSt) : Option PyData := (fa δ).bind minDC
theorem se_minD {t : TA} {fa : DSt -> Option (List PyData)} (a : SA K t fa) : SE K (tMinD K t) (dMinD fa) := by
 intro H0 F0 F σ H δ d Q R e h
 obtain ⟨ds, e1, e2⟩ := bind_some e
 refine a H0 F0 F σ H δ ds _ R e1 λ vs H1 F1 g1 ar => ?_
 unfold minDC at e2
 split at e2
 · cases e2
   obtain ⟨x, r, rfl, ⟨b, ys, rfl, h1, h2⟩, hr⟩ := ar
   rw [show r = [] from hr]
   have y0 : ys = [] := h2
   refine ⟨b, ys, F1, [], rfl, h1, g1.s, h2, (λ _ z => nomatch z), (λ _ z => nomatch z), λ _ H' s1 s2 => ?_, λ v H' ev => ?_⟩
   · exact h .non H' F1 (g1.trans ⟨Same.refl _, s1, s2, λ _ _ _ _ n => n⟩) rfl
   · rw [y0] at ev
     cases ev
 · unfold minC at e2
   split at e2
   · rename_i es _
     split at e2
     · rename_i c
       simp only [Q2, Qd, Bool.not_eq_true', List.isEmpty_eq_false_iff] at c
       obtain ⟨⟨c1, c2⟩, c3⟩ := c
       obtain ⟨x, r, rfl, ⟨b, ys, rfl, h1, h2⟩, hr⟩ := ar
       rw [show r = [] from hr]
       refine ⟨b, ys, F1, es, rfl, h1, g1.s, h2, c2, c3, λ z => absurd ?_ c1, λ v H' e1 s1 s2 => ?_⟩
       · have := h2.length
         rw [z] at this
         exact List.length_eq_zero_iff.mp this.symm
       · rw [h2.length] at e1
         obtain ⟨v', e4, iv⟩ := h2.get e2
         rw [e4] at e1
         cases e1
         exact h _ H' F1 (g1.trans ⟨Same.refl _, s1, s2, λ _ _ _ _ n => n⟩) iv
     · cases e2
   · cases e2
end
end DL
namespace L2
open PySem PySem.Spec PyProof.Rows
theorem sit_next : Slot "set_iterator" "__next__" "set_iterator.__next__" :=
 .of (owner := "set_iterator") (n := "__next__") (by rw [typeLookup_type, builtinLookup_eq_fast]; kernel_rfl) (by decide +kernel) (by decide +kernel) (by decide +kernel) (by first | exact .inl (by decide +kernel) | exact .inr (by decide +kernel)) (by rw [isSubtype_type]; kernel_rfl)
theorem sit_iter : Slot "set_iterator" "__iter__" "set_iterator.__iter__" :=
 .of (owner := "set_iterator") (n := "__iter__") (by rw [typeLookup_type, builtinLookup_eq_fast]; kernel_rfl) (by decide +kernel) (by decide +kernel) (by decide +kernel) (by first | exact .inl (by decide +kernel) | exact .inr (by decide +kernel)) (by rw [isSubtype_type]; kernel_rfl)
theorem sit_next_e : entryFor table "set_iterator.__next__" = some Builtin.«set_iterator.__next__» := entryFor_of_tree (by kernel_rfl)
theorem sit_own : Manifest.owners.lookup (String.ofList ['r', 'o', 't', 'a', 'r', 'e', 't', 'i', '_', 't', 'e', 's'].reverse) = some Manifest.sig_set_iterator := by kernel_rfl
theorem sit_next_a (a : Value) : argsOk "set_iterator.__next__" ⟨[a], []⟩ := by
 unfold argsOk
 rw [signature?_of (id := "set_iterator.__next__") (n := ['_', '_', 't', 'x', 'e', 'n', '_', '_']) (o := ['r', 'o', 't', 'a', 'r', 'e', 't', 'i', '_', 't', 'e', 's']) (by kernel_rfl) sit_own]
 kernel_rfl
theorem sit_iter_a (a : Value) : argsOk "set_iterator.__iter__" ⟨[a], []⟩ := by
 unfold argsOk
 rw [signature?_of (id := "set_iterator.__iter__") (n := ['_', '_', 'r', 'e', 't', 'i', '_', '_']) (o := ['r', 'o', 't', 'a', 'r', 'e', 't', 'i', '_', 't', 'e', 's']) (by kernel_rfl) sit_own]
 kernel_rfl
theorem st_iter_e : entryFor table "set.__iter__" = some Builtin.«frozenset.__iter__» := entryFor_alias (id' := "frozenset.__iter__") (by kernel_rfl) rfl (by decide +kernel) (by kernel_rfl)
def StO (h : Heap) (a : Addr) (es : Array (Int × Value)) (ep : Nat) (t : SetTable) : Prop := h.get? a = some { cls := .type "set", dict := none, data := .set es ep t, slots := #[] }
noncomputable def byT (w : World) : Bool := w.params.followText "set-order"
noncomputable def slotAt (t : SetTable) : Nat -> Nat
 | 0 => 0
 | i + 1 => t.place.getD i 0 + 1
noncomputable def walkOk (t : SetTable) (n : Nat) : Bool := t.fits n && t.plain && (List.range (n + 1)).all λ i => SetTable.below t.place (slotAt t i) == i
noncomputable def wks (w : World) (a : Addr) (ep : Nat) (es : Array (Int × Value)) : List (Int × Value) := if byT w = true then (pickOrder (w.params.setOrder a ep) es).toList else es.toList
noncomputable def slotOf (w : World) (t : SetTable) (i : Nat) : Nat := if byT w = true then 0 else slotAt t i
theorem pick_go {α : Type} (next : Nat -> Nat) : ∀ (n k : Nat) (left : List α) (out : Array α), left.length = n -> List.Perm (pickOrder.go next n k left out).toList (out.toList ++ left)
 | 0, k, left, out, h => by
  rw [List.length_eq_zero_iff.mp h, Q7]
  exact List.Perm.refl _
 | n + 1, k, left, out, h => by
  have lt : next k % left.length < left.length := Nat.mod_lt _ (by omega)
  unfold pickOrder.go
  rw [gEq lt]
  refine (pick_go next n (k + 1) _ _ (by rw [List.length_eraseIdx_of_lt lt]; omega)).trans ?_
  rw [Array.toList_push, List.append_assoc]
  refine List.Perm.append_left _ ?_
  rw [List.eraseIdx_eq_take_drop_succ]
  show List.Perm (left[next k % left.length] :: (left.take (next k % left.length) ++ left.drop (next k % left.length + 1))) left
  refine List.perm_middle.symm.trans ?_
  rw [<- Q27 lt, List.take_append_drop]
theorem wks_perm (w : World) (a : Addr) (ep : Nat) (es : Array (Int × Value)) : List.Perm (wks w a ep es) es.toList := by
 unfold wks
 split
 · unfold pickOrder
   simpa using pick_go (w.params.setOrder a ep) es.size 0 es.toList #[] (by simp)
 · exact List.Perm.refl _
section
variable {prog : Program} {w : World} {A : Around} {E : Value -> Shared -> Prop} {s : Shared} {a I : Addr} {es : Array (Int × Value)} {ep i : Nat} {t : SetTable}
theorem wo_fits {n : Nat} (h : walkOk t n = true) : t.fits n = true := by
 unfold walkOk at h
 rw [Q2, Q2] at h
 exact h.1.1
theorem wo_plain {n : Nat} (h : walkOk t n = true) : t.plain = true := by
 unfold walkOk at h
 rw [Q2, Q2] at h
 exact h.1.2
theorem wo_at {n i : Nat} (h : walkOk t n = true) (hi : i <= n) : SetTable.below t.place (slotAt t i) = i := by
 unfold walkOk at h
 rw [Q2] at h
 simpa using Qd.mp h.2 i (List.mem_range.mpr (by omega))
theorem st_bt {Q : Bool -> Shared -> Prop} (h : Q (byT w) s) : wpAny (model prog w) A setsByText Q E s := by
 unfold setsByText
 exact wB (wpAny_askSetting (wP h))
theorem st_next {Q : Option (Value × Nat) -> Shared -> Prop} (hs : StO s.heap a es ep t) (wo : walkOk t es.size = true) (led : t.led = !byT w) (hi : i <= es.size)
 (q : Q (((wks w a ep es)[i]?).map λ e => (e.2, slotOf w t (i + 1))) s) : wpAny (model prog w) A (setNext a (slotOf w t i) i ep) Q E s := by
 have hf := wo_fits wo
 have hp := wo_plain wo
 unfold setNext
 refine wB (wpAny_setState_of hs rfl hf ?_)
 dsimp only
 refine wB (st_bt ?_)
 unfold wks slotOf at q
 unfold slotOf
 cases hb : byT w with
 | true =>
  rw [hb] at q
  simp only [if_true] at q ⊢
  rw [if_neg (by simp)]
  refine wB ?_
  unfold setWalk
  refine wB (wpAny_setState_of hs rfl hf ?_)
  dsimp only
  refine wB (st_bt ?_)
  rw [hb]
  simp only [if_true]
  refine wB (wpAny_askSetting (wP (wP ?_)))
  rw [Q16] at q
  exact q
 | false =>
  rw [hb] at q
  simp only [zN, if_false] at q ⊢
  refine wpAny_ite_split (λ z => absurd z (show ¬ ((!t.plain && decide (es.size > 1)) = true) by rw [hp]; simp)) (λ _ => ?_)
  refine wB (wpAny_of_eq (a := ()) (show (if (!t.led && !es.isEmpty) = true then (unsupported "set:maker-not-led" : Sem PUnit) else pure PUnit.unit) = pure () by rw [led, hb]; rfl) ?_)
  refine wP ?_
  rw [wo_at wo hi]
  have hz : t.place.size = es.size := by
   have := hf
   simp only [SetTable.fits, Q2, beq_iff_eq] at this
   exact this.1
  by_cases h : i < es.size
  · have h2 : i < t.place.size := by omega
    rw [Q22 h, Q22 h2]
    rw [Q16, Q22 h] at q
    have e : t.place.getD i 0 = t.place[i] := by rw [Array.getD_eq_getD_getElem?, Q22 h2]; rfl
    simp only [slotAt, e] at q
    exact q
  · rw [Array.getElem?_eq_none (by omega)]
    rw [Q16, Array.getElem?_eq_none (by omega)] at q
    exact q
def SitO (w : World) (h : Heap) (I a : Addr) (t : SetTable) (i n ep : Nat) : Prop := h.get? I = some { cls := .type "set_iterator", dict := none, data := .fields #[.int (slotOf w t i) 0, .int i 0, .ref a, .int n 0, .int ep 0], slots := #[] }
theorem sit_item {Q : Option Value -> Shared -> Prop} (hit : SitO w s.heap I a t i es.size ep) (hs : StO s.heap a es ep t) (wo : walkOk t es.size = true) (led : t.led = !byT w) (hi : i < es.size) {e : Int × Value} (he : (wks w a ep es)[i]? = some e)
 (q : ∀ h', SitO w h' I a t (i + 1) es.size ep -> Heap.SameBut I s.heap h' -> Q (some e.2) { s with heap := h' }) : wpAny (model prog w) A (pyNext (.ref I)) Q E s := by
 have hT : s.TypeIs (.ref I) "set_iterator" := ⟨_, hit, rfl⟩
 unfold pyNext
 refine wB (wpAny_attempt (wpAny_callSpecial?_slot (name := Str.ofString "__next__") hT sit_next (wpAny_call_entry sit_next hT sit_next_e ?_ (sit_next_a _))))
 unfold Builtin.«set_iterator.__next__»
 refine wB (wP ?_)
 refine wB (wpAny_fieldsOf hit rfl ?_)
 refine wB (wpAny_setEntries_of hs rfl (wo_fits wo) ?_)
 rw [if_neg (by simp)]
 simp only [Q20]
 refine wB (st_next hs wo led (nLe hi) ?_)
 rw [he]
 simp only [zG]
 refine wB (wpAny_setField_rec hit (by simp) λ h1 e1 s1 => ?_)
 refine wB (wpAny_setField_rec e1 (by simp) λ h2 e2 s2 => ?_)
 refine wP ⟨_, rfl, wP (q h2 ?_ (s1.trans s2))⟩
 unfold SitO
 rw [show ((i + 1 : Nat) : Int) = (i : Int) + 1 by omega]
 simpa [rawInt] using e2
theorem sit_end {Q : Option Value -> Shared -> Prop} (hh : A.handled = none) (hit : SitO w s.heap I a t es.size es.size ep) (hs : StO s.heap a es ep t) (wo : walkOk t es.size = true) (led : t.led = !byT w)
 (q : ∀ h', Heap.ExtBut I s.heap h' -> Q none { s with heap := h' }) : wpAny (model prog w) A (pyNext (.ref I)) Q E s := by
 have hT : s.TypeIs (.ref I) "set_iterator" := ⟨_, hit, rfl⟩
 unfold pyNext
 refine wB (wpAny_attempt (wpAny_callSpecial?_slot (name := Str.ofString "__next__") hT sit_next (wpAny_call_entry sit_next hT sit_next_e ?_ (sit_next_a _))))
 unfold Builtin.«set_iterator.__next__»
 refine wB (wP ?_)
 refine wB (wpAny_fieldsOf hit rfl ?_)
 refine wB (wpAny_setEntries_of hs rfl (wo_fits wo) ?_)
 rw [if_neg (by simp)]
 simp only [Q20]
 refine wB (st_next hs wo led (Q1 _) ?_)
 rw [List.getElem?_eq_none (by rw [(wks_perm w a ep es).length_eq]; simp)]
 simp only [Option.map_none]
 refine wB (wpAny_setField_rec hit (by simp) λ h1 e1 s1 => ?_)
 refine wB ?_
 simp only [newExc, newTuple]
 refine wB (wpAny_newObj_type ?_ (by size_fits))
 refine wB (m := firstArgMember _ _) (wpAny_of_eq (a := Value.none) (by first | rfl | (simp only [firstArgMember]; rfl)) ?_)
 refine wpAny_newObj_type ?_ (by size_fits)
 simp only [raiseNew]
 refine wB (wpAny_handled ?_)
 rw [show A.in1.handled = none from hh]
 refine wB (wP (wpAny_throw (wB ?_)))
 refine wpAny_isInstance (T := "StopIteration") (b := true) ⟨_, hPs _ rfl, rfl⟩ isSubtype_stop ?_
 exact wP (q _ ((s1.extBut.push _).push _))
theorem sit_self {Q : Value -> Shared -> Prop} (hit : SitO w s.heap I a t i es.size ep) (q : Q (.ref I) s) : wpAny (model prog w) A (pyIter (.ref I)) Q E s := by
 have hT : s.TypeIs (.ref I) "set_iterator" := ⟨_, hit, rfl⟩
 refine wpAny_pyIter_slot hT sit_iter (wpAny_call_entry sit_iter hT (show entryFor table "set_iterator.__iter__" = some Builtin.«dict_keyiterator.__iter__» from entryFor_alias (id' := "dict_keyiterator.__iter__") (by kernel_rfl) rfl (by decide +kernel) (by kernel_rfl)) ?_ (sit_iter_a _))
 show wpAny _ _ (ret (.ref I)) _ _ s
 exact wP ⟨_, rfl, "set_iterator", _, hT, sit_next.lookup, q⟩
theorem st_iter {Q : Value -> Shared -> Prop} (hs : StO s.heap a es ep t) (wo : walkOk t es.size = true)
 (q : Q (.ref s.heap.objs.size) { s with heap := s.heap.push { cls := .type "set_iterator", data := .fields #[.int 0 0, .int 0 0, .ref a, .int es.size 0, .int ep 0] } }) : wpAny (model prog w) A (pyIter (.ref a)) Q E s := by
 have hT : s.TypeIs (.ref a) "set" := ⟨_, hs, rfl⟩
 have hf := wo_fits wo
 refine wpAny_pyIter_slot hT PySem.F.slot_set_iter (wpAny_call_entry PySem.F.slot_set_iter hT st_iter_e ?_ (PySem.F.args_set_iter_1 _))
 unfold Builtin.«frozenset.__iter__»
 refine wB (wP ?_)
 refine wB ?_
 unfold Builtin.Frozenset.sizeOf
 refine wB (wpAny_setEntries_of hs rfl hf (wP ?_))
 refine wB ?_
 unfold setDrawn
 refine wB (wpAny_setState_of hs rfl hf ?_)
 dsimp only
 refine wB (st_bt (wP ?_))
 refine wpAny_ite_split (λ z => ?_) (λ _ => ?_)
 · rw [Q2] at z
   exact absurd z.2 (show ¬ ((!t.plain && decide (es.size > 1)) = true) by rw [wo_plain wo]; simp)
 refine wB (wP ?_)
 refine wB (wpAny_setEpoch_of hs rfl hf ?_)
 refine wB (wpAny_newObj_type (wP ⟨_, rfl, "set_iterator", _, ⟨_, hPs _ rfl, rfl⟩, sit_next.lookup, q⟩) (by size_fits))
end
theorem Walks.st {prog : Program} {w : World} {A : Around} (hh : A.handled = none) (I a : Addr) (hne : a ≠ I) (es : Array (Int × Value)) (ep : Nat) (t : SetTable) (wo : walkOk t es.size = true) (led : t.led = !byT w) :
 Walks prog w A I [I, a] [I] es.size (λ i v => ((wks w a ep es)[i]?).map (·.2) = some v) (λ i h => SitO w h I a t i es.size ep /\ StO h a es ep t) where
 sub := λ b hb => by simp at hb; simp [hb]
 frame := λ _ _ _ st hk => ⟨hk I (by simp) _ st.1, hk a (by simp) _ st.2⟩
 item := λ i s Q E hi st hQ => by
  have hl : i < (wks w a ep es).length := by rw [(wks_perm w a ep es).length_eq]; simpa using hi
  refine sit_item st.1 st.2 wo led hi (gEq hl) λ h' hit' hs' => ?_
  exact hQ _ h' s.toks (by rw [gEq hl]; rfl) ⟨hit', hs'.extBut a _ hne st.2⟩ λ b o hb e => hs'.extBut b o (λ h => hb (by simp [h])) e
 done := λ s Q E st hQ => sit_end hh st.1 st.2 wo led λ h' he' => hQ h' s.toks λ b o hb e => he' b o (λ h => hb (by simp [h])) e
 self := λ _ _ _ _ st hQ => sit_self st.1 hQ
theorem st_len_l : typeLookup (.type "set") "__len__" = pure (some (.builtin "set.__len__")) := by rw [typeLookup_type, builtinLookup_eq_fast]; kernel_rfl
section
variable {prog : Program} {w : World} {A : Around} {E : Value -> Shared -> Prop} {s : Shared} {a : Addr} {es : Array (Int × Value)} {ep : Nat} {t : SetTable}
theorem st_hint (hT : s.TypeIs (.ref a) "set") {Q : Bool -> Shared -> Prop} (h : Q false s) : wpAny (model prog w) A (Builtin.List.listLengthHint (.ref a)) Q E s := by
 unfold Builtin.List.listLengthHint
 refine wB (wpAny_specialOf hT st_len_l ?_)
 generalize hid : ("set.__len__" : String) = id0
 wp_delta
 rw [show splitId id0 = some ("set", "__len__") from by subst hid; decide +kernel]
 subst hid
 refine wB (wpAny_isInstance (T := "set") (b := true) hT (by rw [isSubtype_type]; kernel_rfl) ?_)
 refine wpAny_ite_split (λ z => absurd z (by decide)) (λ _ => ?_)
 refine wpAny_ite_split (λ _ => ?_) (λ z => absurd (by decide +kernel) z)
 exact wB (wpAny_typeOf hT (wP h))
theorem st_collect {R : List Value -> Shared -> Prop} (hh : A.handled = none) (hs : StO s.heap a es ep t) (wo : walkOk t es.size = true) (led : t.led = !byT w) (hn : es.size <= sizeLine)
 (h : ∀ (h' : Heap) (tk : Nat), (∀ b o, s.heap.get? b = some o -> h'.get? b = some o) -> s.heap.objs.size < h'.objs.size -> R ((wks w a ep es).map (·.2)) { s with heap := h', toks := tk }) :
 wpAny (model prog w) A (collect (.ref a)) R E s := by
 have ha : a < s.heap.objs.size := hLs hs
 unfold collect
 refine wB (wpAny_runValue (codeAny_builtin entry_proto_collect' ?_))
 rw [Around.under_plainId PySem.F.plain_proto_collect _]
 show wpAny _ A.in1 (newList [] >>= λ l => again (.builtin "list.__iadd__" ⟨[l, .ref a], []⟩)) _ _ s
 refine wB (wpAny_newObj_type ?_)
 refine wP ⟨plainId_quiet PySem.F.plain_list_iadd _, codeAny_builtin entry_list_iadd' ?_⟩
 rw [Around.under_plainId PySem.F.plain_list_iadd _]
 have gS : (s.heap.push { cls := .type "list", data := .seq ([] : List Value).toArray }).get? s.heap.objs.size = some { cls := .type "list", data := .seq #[] } := hPs _ rfl
 generalize hh1 : s.heap.push { cls := .type "list", data := .seq ([] : List Value).toArray } = h1 at gS
 have z1 : h1.objs.size = s.heap.objs.size + 1 := by rw [<- hh1, Q17]
 have k1 : ∀ b o, s.heap.get? b = some o -> h1.get? b = some o := λ b o e => by rw [<- hh1]; exact hPo _ e
 have hs1 : StO h1 a es ep t := k1 _ _ hs
 show wpAny _ A.in1 (Builtin.List.listExtendWith (.ref s.heap.objs.size) (.ref a) (.ref s.heap.objs.size)) _ _ { s with heap := h1 }
 unfold Builtin.List.listExtendWith
 have hT1 : Shared.TypeIs { s with heap := h1 } (.ref a) "set" := ⟨_, hs1, rfl⟩
 refine wB (wpAny_typeOf (T := "set") hT1 ?_)
 have nsa : s.heap.objs.size ≠ a := nNg ha
 simp only [show Builtin.List.listSameRef (.ref s.heap.objs.size) (.ref a) = false by simp [Builtin.List.listSameRef, nsa], show (Value.type "set" == Value.type "list") = false by decide, show (Value.type "set" == Value.type "tuple") = false by decide, Bool.or_false, zN, if_false]
 refine wB (st_iter hs1 wo ?_)
 have gI : (h1.push { cls := .type "set_iterator", data := .fields #[.int 0 0, .int 0 0, .ref a, .int es.size 0, .int ep 0] }).get? h1.objs.size = some { cls := .type "set_iterator", data := .fields #[.int 0 0, .int 0 0, .ref a, .int es.size 0, .int ep 0] } := hPs _ rfl
 have k2 : ∀ b o, h1.get? b = some o -> (h1.push { cls := .type "set_iterator", data := .fields #[.int 0 0, .int 0 0, .ref a, .int es.size 0, .int ep 0] }).get? b = some o := λ b o e => hPo _ e
 show wpAny _ A.in1 (holding _ _ >>= _) _ _ { s with heap := (h1.push { cls := .type "set_iterator", data := .fields #[.int 0 0, .int 0 0, .ref a, .int es.size 0, .int ep 0] }) }
 generalize h1.push { cls := .type "set_iterator", data := .fields #[.int 0 0, .int 0 0, .ref a, .int es.size 0, .int ep 0] } = h2 at gI k2
 have sI : s.heap.objs.size ≠ h1.objs.size := by rw [z1]; exact nNl (Q23 _)
 have aI : a ≠ h1.objs.size := by rw [z1]; exact nNl (Q1c ha)
 have W := (Walks.st (prog := prog) (w := w) (A := A.in1) hh h1.objs.size a aI es ep t wo led).toS
 have go : ∀ (h3 : Heap) (c1 : Nat), (∀ b o, b ≠ s.heap.objs.size -> h2.get? b = some o -> h3.get? b = some o) -> h3.get? s.heap.objs.size = some { cls := .type "list", data := .seq #[] c1 } ->
  codeAny (model prog w) A (.builtin "list.extend.loop" ⟨[.ref s.heap.objs.size, .ref h1.objs.size, .ref s.heap.objs.size], []⟩) (λ (q : Result) (s' : Shared) => ∃ (h' : Heap) (tk : Nat) (acc : Array Value) (c' : Nat), q = .ok (.ret (.ref s.heap.objs.size)) /\ s' = { s with heap := h', toks := tk } /\
  (∀ b o, s.heap.get? b = some o -> h'.get? b = some o) /\ h'.get? s.heap.objs.size = some { cls := .type "list", dict := none, data := .seq acc c', slots := #[] } /\ acc.toList = (wks w a ep es).map (·.2)) { s with heap := h3 } := by
  intro h3 c1 k3 g3
  refine codeAny_extend_loopS W hn s.heap.objs.size (by simp only [Qb, List.not_mem_nil, or_false, not_or]; exact ⟨sI, nsa⟩) (.ref s.heap.objs.size) es.size 0 _ #[] c1 (Nat.sub_zero _) (zU _) ⟨?_, k3 _ _ (Ne.symm nsa) (k2 _ _ hs1)⟩ g3 (ItemsOf.nil _) λ s' acc' c' hm hS' hacc => ?_
  · unfold SitO slotOf
    rw [show (if byT w = true then 0 else slotAt t 0) = 0 by split <;> rfl]
    exact k3 _ _ (Ne.symm sI) gI
  · obtain ⟨h', g', d', tk', os'⟩ := s'
    cases (show g' = s.gens from hm.gens)
    cases (show d' = s.drawn from hm.drawn)
    cases (show os' = s.os from hm.os)
    refine ⟨h', tk', acc', c', rfl, rfl, λ b o e => ?_, hS', ?_⟩
    · have hb := hLs e
      exact hm.heap b o (by simp only [Qb, List.not_mem_nil, or_false, not_or]; exact ⟨nNl hb, by rw [z1]; exact nNl (Q1c hb)⟩) (k3 _ _ (nNl hb) (k2 _ _ (k1 _ _ e)))
    · apply List.ext_getElem?
      intro j
      have lw : ((wks w a ep es).map (·.2)).length = es.size := by rw [zJ, (wks_perm w a ep es).length_eq]; simp
      by_cases hj : j < es.size
      · have hj' : j < acc'.size := by rw [hacc.1]; exact hj
        have := hacc.2 j acc'[j] (Q22 hj')
        rw [Q16, Q22 hj', zK]
        exact this.symm
      · rw [Q16, Array.getElem?_eq_none (by rw [hacc.1]; omega), List.getElem?_eq_none (by rw [lw]; omega)]
 refine wB (wpAny_holding (st_hint (let ⟨o, ho, hc⟩ := hT1; ⟨o, k2 _ _ ho, hc⟩) ?_))
 refine wpAny_ite_split (λ _ => ?_) (λ _ => wP ⟨plainId_quiet PySem.F.plain_extend_loop _, codeAny_mono (go h2 0 (λ b o _ e => e) (k2 _ _ gS)) λ q s2 y => ?_⟩)
 · refine wB (wpAny_rule ?_)
   refine wB ?_
   show wpAny _ _ (updateSeq s.heap.objs.size (·.push .none) >>= λ _ => updateSeq s.heap.objs.size (·.pop)) _ _ _
   refine wB (wpAny_updateSeq (k2 _ _ gS) rfl ?_)
   have hS2 := hUs (Obj.mapSeq (·.push Value.none)) (k2 _ _ gS) rfl
   refine wpAny_updateSeq (hz := by seq_fits) hS2 rfl ?_
   have hS3 := hUs (Obj.mapSeq (·.pop)) hS2 rfl
   refine wP ⟨plainId_quiet PySem.F.plain_extend_loop _, codeAny_mono (go _ _ (λ b o nb e => (hUo _ _ (Ne.symm nb)).trans ((hUo _ _ (Ne.symm nb)).trans e)) hS3) λ q s2 y => ?_⟩
   obtain ⟨h', tk, acc, c', rfl, rfl, hk, hS', hacc⟩ := y
   show wpAny _ A (load s.heap.objs.size >>= _) _ _ _
   refine wB (wpAny_load hS' (wP ?_))
   show R acc.toList _
   rw [hacc]
   exact h h' tk hk (hLs hS')
 · obtain ⟨h', tk, acc, c', rfl, rfl, hk, hS', hacc⟩ := y
   show wpAny _ A (load s.heap.objs.size >>= _) _ _ _
   refine wB (wpAny_load hS' (wP ?_))
   show R acc.toList _
   rw [hacc]
   exact h h' tk hk (hLs hS')
end
noncomputable def tabStep (t : SetTable) (hs : List Int) (h : Int) : Option (SetTable × Nat) :=
 if t.gaveWay = true then none else match t.probe (λ i => (hs[i]?).getD 0) h (t.probeStart h) with
 | some (.empty j none) => if ((t.put j).1.tooFull || !(t.put j).1.fits (hs.length + 1)) = true then none else some (t.put j)
 | _ => none
noncomputable def tabAll : SetTable -> List Int -> List Int -> Option SetTable
 | t, _, [] => some t
 | t, hs, h :: r => (tabStep t hs h).bind λ q => tabAll q.1 (hs.take q.2 ++ h :: hs.drop q.2) r
noncomputable def hashI (k : List Int) : Int := reduceHash (Builtin.Tuple.tupleHashOf (k.map hashInt))
section
variable {prog : Program} {w : World} {A : Around} {E : Value -> Shared -> Prop} {s : Shared} {a b : Addr} {es : Array (Int × Value)} {ep : Nat} {t t' : SetTable} {p : Nat} {k : List Int}
theorem hash_key (prog : Program) (w : World) (k : List Int) : (tupleKind (mixKind prog w)).hash (k.map Sum.inl) = hashI k := by
 show tupleKeyHash (mixKind prog w) (k.map Sum.inl) = _
 unfold tupleKeyHash hashI
 rw [zO]
 rfl
theorem byValue_tup {Q : Bool -> Shared -> Prop} (hk : (tupleKind (mixKind prog w)).is s.heap (k.map Sum.inl) b) (q : Q true s) : wpAny (model prog w) A (hashByValue 8 (.ref b)) Q E s := by
 have hk' : IsTupleKey (mixKind prog w) s.heap (k.map Sum.inl) b := hk
 have hT := hk'.typeIs
 obtain ⟨o, items, n, ho, _, hd, hi⟩ := hk'
 have vin : ∀ v ∈ items.toList, ∃ m tk, v = Value.int m tk := by
  generalize items.toList = l at hi
  clear ho hd hT hk
  induction k generalizing l with
  | nil => cases hi; exact λ v hv => nomatch hv
  | cons x k ih =>
   cases hi with
   | cons h1 h2 =>
    intro v hv
    rcases Qb.mp hv with rfl | hv
    · rcases keyIs_shape (show keyIs (Sum.inl x) v = true from h1) with ⟨i, t, e, rfl⟩ | ⟨y, t, e, _⟩
      · exact ⟨i, t, rfl⟩
      · cases e
    · exact ih _ h2 v hv
 unfold hashByValue
 refine wB (wpAny_specialOf hT PySem.F.slot_tuple_hash.lookup ?_)
 show wpAny _ _ (seqItems? (.ref b) >>= _) _ _ s
 refine wB (wpAny_seqItems ho hd ?_)
 refine wB ?_
 show wpAny _ _ (forIn items _ _) _ _ s
 rw [<- Array.forIn_toList]
 refine wpAny_forIn_list _ (λ rest r s' => r.1 = none /\ s' = s /\ ∀ v ∈ rest, ∃ m tk, v = Value.int m tk) _ ?_ ?_ _ _ ⟨rfl, rfl, vin⟩
 · rintro v rest r s' ⟨hr, rfl, hall⟩
   obtain ⟨m, tk, rfl⟩ := hall v lMs
   rw [show hashByValue 7 (Value.int m tk) = pure true by simp [hashByValue]]
   refine wB (wP ?_)
   simp only [Q12, zN, if_false]
   exact wP ⟨rfl, rfl, λ u hu' => hall u (lMc _ hu')⟩
 · rintro ⟨r1, r2⟩ s' ⟨hr, rfl, _⟩
   simp only at hr
   subst hr
   exact wP q
theorem tabStep_some {hs : List Int} {h : Int} {r : SetTable × Nat} (e : tabStep t hs h = some r) : t.gaveWay = false /\ ∃ j, t.probe (λ i => (hs[i]?).getD 0) h (t.probeStart h) = some (.empty j none) /\ t.put j = r /\ r.1.tooFull = false /\ r.1.fits (hs.length + 1) = true := by
 unfold tabStep at e
 split at e
 · cases e
 · rename_i g
   split at e
   · rename_i j hj
     split at e
     · cases e
     · rename_i c
       cases e
       simp only [Bool.or_eq_true, not_or, Bool.not_eq_true, Bool.not_eq_eq_eq_not, Bool.not_false, Bool.not_eq_false'] at c
       refine ⟨by simpa using g, j, hj, rfl, c.1, ?_⟩
       simpa using c.2
   · cases e
theorem st_add {Q : Bool -> Shared -> Prop} (hu : A.units < cLine) (hs : StO s.heap a es ep t) (hf : t.fits es.size = true) (hk : (tupleKind (mixKind prog w)).is s.heap (k.map Sum.inl) b) (st : tabStep t (es.toList.map (·.1)) (hashI k) = some (t', p)) (hz : es.size + 1 <= sizeLine)
 (q : ∀ h' tk, Heap.SameBut a s.heap h' -> StO h' a (SetTable.insertAt es p (hashI k, .ref b)) (ep + 1) t' -> Q true { s with heap := h', toks := tk }) : wpAny (model prog w) A (setAdd a (.ref b)) Q E s := by
 obtain ⟨gw, j, hj, hp, tf, ft⟩ := tabStep_some st
 have hj' : t.probe (λ i => (es[i]?.map (·.1)).getD 0) (hashI k) (t.probeStart (hashI k)) = some (.empty j none) := by
  rw [<- hj]
  congr 1
  funext i
  rw [zK, Q16]
 unfold setAdd
 refine wpAny_holding ?_
 refine wB ((tupleKind (mixKind prog w)).pyHash hu hk ?_)
 rw [hash_key]
 unfold setAddHashed
 refine wpAny_holding ?_
 show wpAny _ _ (setAddHashedIn a (.ref b) (hashI k) (99999 + 1)) _ _ _
 unfold setAddHashedIn
 have hs1 : StO { s with toks := s.toks + (tupleKind (mixKind prog w)).draws (k.map Sum.inl) }.heap a es ep t := hs
 refine wB (wpAny_setState_of hs1 rfl hf ?_)
 dsimp only
 rw [if_neg (show ¬ (byScan (.ref b) es = true) by simp [byScan, Value.scannable])]
 refine wB ?_
 unfold setSearch
 show wpAny _ _ (setSearchFrom a (.ref b) (hashI k) true (99999 + 1) none) _ _ _
 unfold setSearchFrom
 refine wB (wpAny_setState_of hs1 rfl hf ?_)
 dsimp only
 rw [if_neg (by rw [gw]; exact Qe)]
 show wpAny _ _ (match t.probe (λ i => (es[i]?.map (·.1)).getD 0) (hashI k) (t.probeStart (hashI k)) with | some met => _ | x => _) _ _ _
 rw [hj']
 refine wP ?_
 refine wB (wpAny_setState_of hs1 rfl hf ?_)
 dsimp only
 rw [hp]
 dsimp only
 have fin : wpAny (model prog w) A (storeSet a (SetTable.insertAt es p (hashI k, .ref b)) t' >>= λ _ => if (!false && t'.tooFull) = true then setRelay a (SetTable.grown (es.size + 1)) >>= λ _ => pure true else pure true) Q E { s with toks := s.toks + (tupleKind (mixKind prog w)).draws (k.map Sum.inl) } := by
  have zi : (SetTable.insertAt es p (hashI k, Value.ref b)).size = es.size + 1 := by
   rw [<- Q15, (SetTable.insertAt_perm es p (hashI k, Value.ref b)).length_eq]
   simp
  refine wB (wpAny_storeSet_of hs1 rfl ?_ (by rw [zi]; exact hz))
  rw [if_neg (by rw [tf]; simp)]
  refine wP (q _ _ (Heap.SameBut.update _ a _) ?_)
  have hg := hUs (Obj.putSet (SetTable.insertAt es p (hashI k, Value.ref b)) t') hs1 (by rw [putSet_of _ _ rfl]; rfl)
  rw [putSet_of _ _ rfl] at hg
  exact hg
 cases hpl : t'.plain with
 | true =>
  simp only [if_true]
  refine wB (byValue_tup (k := k) hk ?_)
  simp only [if_true]
  exact fin
 | false =>
  simp only [zN, if_false]
  refine wB (wP ?_)
  simp only [if_true]
  exact fin
end
noncomputable def setOk (hs : List Int) : Bool := [true, false].all λ led => match tabAll (.fresh 0 0 led) [] hs with
 | some t => walkOk t hs.length
 | none => false
theorem setOk_at {hs : List Int} (h : setOk hs = true) (led : Bool) : ∃ t, tabAll (.fresh 0 0 led) [] hs = some t /\ walkOk t hs.length = true := by
 have := Qd.mp h led (by cases led <;> simp)
 cases e : tabAll (.fresh 0 0 led) [] hs with
 | none => rw [e] at this; cases this
 | some t => rw [e] at this; exact ⟨t, rfl, this⟩
section
variable {prog : Program} {w : World} {A : Around} {E : Value -> Shared -> Prop} {s : Shared} {R : Result -> Shared -> Prop}
theorem tupKey_keep {h h' : Heap} {ks : List Key} {b : Addr} (x : (tupleKind (mixKind prog w)).is h ks b) (k : ∀ o, h.get? b = some o -> h'.get? b = some o) : (tupleKind (mixKind prog w)).is h' ks b := by
 obtain ⟨o, items, n, ho, r⟩ := (show IsTupleKey (mixKind prog w) h ks b from x)
 exact (show IsTupleKey (mixKind prog w) h' ks b from ⟨o, items, n, k o ho, r⟩)
theorem st_loop {S I l : Addr} {ks : List (List Int)} {bs : List Addr} {tf : SetTable} (hh : A.handled = none) (hu : A.units + 1 < cLine) (hSI : S ≠ I) (hSl : S ≠ l) (hlI : l ≠ I) (h0 : Heap) (hlen : bs.length = ks.length) (hz : ks.length <= sizeLine)
 (hl0 : h0.IsList l (bs.map Value.ref).toArray) (hbs : ∀ b ∈ bs, b ≠ S /\ b ≠ I) (hks : ∀ (i : Nat) (k : List Int) (b : Addr), ks[i]? = some k -> bs[i]? = some b -> (tupleKind (mixKind prog w)).is h0 (k.map Sum.inl) b)
 (hR : ∀ h' tk es ep, (∀ b o, b ≠ S -> b ≠ I -> h0.get? b = some o -> h'.get? b = some o) -> StO h' S es ep tf -> tf.fits es.size = true -> es.size = ks.length -> List.Perm (es.toList.map (·.2)) (bs.map Value.ref) -> tf.led = !byT w -> R (.ok (.ret .none)) { s with heap := h', toks := tk }) :
 ∀ (m i : Nat) (h : Heap) (tk : Nat) (es : Array (Int × Value)) (ep : Nat) (t : SetTable), ks.length - i = m -> i <= ks.length -> (∀ b o, b ≠ S -> b ≠ I -> h0.get? b = some o -> h.get? b = some o) -> StO h S es ep t -> t.fits es.size = true -> es.size = i -> t.led = (!byT w) ->
  List.Perm (es.toList.map (·.2)) ((bs.take i).map Value.ref) -> tabAll t (es.toList.map (·.1)) ((ks.drop i).map hashI) = some tf -> h.IsListIter I l i -> codeAny (model prog w) A (.builtin "set.update.loop" ⟨[.ref S, .ref I], []⟩) R { s with heap := h, toks := tk } := by
 have lk : ∀ {h : Heap}, (∀ b o, b ≠ S -> b ≠ I -> h0.get? b = some o -> h.get? b = some o) -> h.IsList l (bs.map Value.ref).toArray := λ {h} keep => by
  obtain ⟨o, e1, e2⟩ := hl0
  exact ⟨o, keep l o (Ne.symm hSl) hlI e1, e2⟩
 have W := Walks.list (prog := prog) (w := w) (A := A.in1) hh I l hlI (bs.map Value.ref).toArray
 have hsz : (bs.map Value.ref).toArray.size = ks.length := by simp [hlen]
 intro m
 induction m with
 | zero =>
  intro i h tk es ep t hm hi keep st ft zs led pe ta it
  have hin : i = ks.length := by omega
  rw [List.drop_eq_nil_of_le (by omega)] at ta
  cases ta
  refine codeAny_builtin PyProof.Rows.F.entry_set_update_loop ?_
  rw [Around.under_plainId PyProof.Rows.F.plain_set_update_loop _]
  show wpAny _ A.in1 (pyNext (.ref I) >>= _) _ _ _
  refine wB (W.done _ _ _ ⟨by rw [hsz, <- hin]; exact it, lk keep⟩ λ h' tk' kp => ?_)
  refine wP (hR h' tk' es ep (λ b o n1 n2 e => kp b o (by simpa using n2) (keep b o n1 n2 e)) (kp S _ (by simpa using hSI) st) ft (by omega) ?_ led)
  rw [hin, <- hlen, Q19] at pe
  exact pe
 | succ m ih =>
  intro i h tk es ep t hm hi keep st ft zs led pe ta it
  have hlt : i < ks.length := by omega
  have hltb : i < bs.length := by omega
  rw [Q27 hlt, zI] at ta
  obtain ⟨⟨t', p⟩, ta1, ta2⟩ := DL.bind_some ta
  refine codeAny_builtin PyProof.Rows.F.entry_set_update_loop ?_
  rw [Around.under_plainId PyProof.Rows.F.plain_set_update_loop _]
  show wpAny _ A.in1 (pyNext (.ref I) >>= _) _ _ _
  refine wB (W.item i _ _ _ (by rw [hsz]; exact hlt) ⟨it, lk keep⟩ λ v h' tk' hv st' kp => ?_)
  have hv' : v = Value.ref bs[i] := by
   simp [hltb] at hv
   exact hv.symm
  subst hv'
  have keep' : ∀ b o, b ≠ S -> b ≠ I -> h0.get? b = some o -> h'.get? b = some o := λ b o n1 n2 e => kp b o (by simpa using n2) (keep b o n1 n2 e)
  obtain ⟨nS, nI⟩ := hbs bs[i] (Qf _)
  have key := tupKey_keep (hks i _ _ (gEq hlt) (gEq hltb)) λ o e => keep' _ o nS nI e
  show wpAny _ A.in1 (holding [Value.ref bs[i]] (setAdd S (.ref bs[i])) >>= _) _ _ _
  refine wB (wpAny_holding ?_)
  refine st_add (s := { s with heap := h', toks := tk' }) (k := ks[i]) (es := es) (ep := ep) (t := t) (show A.units + 1 < cLine from hu) (kp S _ (by simpa using hSI) st) ft key ta1 (by omega) λ h2 tk2 sb st2 => ?_
  obtain ⟨_, j, _, pj, _, ft2⟩ := tabStep_some ta1
  have zi : (SetTable.insertAt es p (hashI ks[i], Value.ref bs[i])).size = es.size + 1 := by
   rw [<- Q15, (SetTable.insertAt_perm es p (hashI ks[i], Value.ref bs[i])).length_eq]
   simp
  refine wP ⟨plainId_quiet PyProof.Rows.F.plain_set_update_loop _, ih (i + 1) h2 tk2 _ _ t' (by omega) hlt (λ b o n1 n2 e => sb.extBut b o n1 (keep' b o n1 n2 e)) st2 ?_ ?_ ?_ ?_ ?_ ?_⟩
  · rw [zi]
    simpa using ft2
  · rw [zi]; omega
  · rw [<- led, show t' = (t.put j).1 by rw [pj]]
    rfl
  · refine ((SetTable.insertAt_perm es p (hashI ks[i], Value.ref bs[i])).map _).trans ?_
    rw [Array.toList_push, Q13, List.take_add_one, Q13]
    refine List.Perm.append pe ?_
    rw [gEq hltb]
    exact List.Perm.refl _
  · rw [SetTable.toList_insertAt, Q13, zI, List.map_take, List.map_drop]
    exact ta2
  · exact (st'.1).extBut sb.extBut (Ne.symm hSI)
end
section
variable {prog : Program} {w : World} {A : Around} {E : Value -> Shared -> Prop} {s : Shared}
theorem st_init {S l : Addr} {led : Bool} {items : Array Value} {R : Result -> Shared -> Prop} (hS : s.heap.get? S = some { cls := .type "set", dict := none, data := .set #[] 0 (.fresh 0 0 led) }) (hl : s.heap.IsList l items)
 (q : codeAny (model prog w) A.in1 (.builtin "set.update.loop" ⟨[.ref S, .ref s.heap.objs.size], []⟩) (λ r s' => r = .ok (.ret .none) /\ R (.ok (.ret .none)) s') { s with heap := s.heap.push { cls := .type "list_iterator", data := .fields #[.ref l, .int 0 0] } }) :
 wpAny (model prog w) A.in1 (Builtin.«set.__init__» ⟨[.ref S, .ref l], []⟩)
  (λ fin s' => match fin with | .done f => R (.ok f) s' | .again c' => c'.quiet = true /\ codeAny (model prog w) A c' R s') (λ e s' => R (.error e) s') s := by
 obtain ⟨ol, hol, hcl, nl, hdl⟩ := hl
 obtain ⟨ocls, odict, odata, oslots⟩ := ol
 simp only at hcl hdl
 subst hcl
 subst hdl
 have hsls := PySem.F.sub_list_set
 have hslf := PySem.F.sub_list_frozenset
 have hne : (Value.type "list" == Value.type "dict") = false := by decide
 have hl1 : s.heap.IsList l items := ⟨_, hol, rfl, nl, rfl⟩
 have hT : s.TypeIs (.ref S) "set" := ⟨_, hS, rfl⟩
 unfold Builtin.«set.__init__» noKeywords Builtin.Frozenset.updateFrom
 generalize hPI : pyIter = PI
 wp_walk
 subst hPI
 refine wpAny_pyIter_list hl1 ?_
 refine wB (wpAny_runValue ?_)
 refine codeAny_mono q λ r s' y => ?_
 obtain ⟨rfl, y⟩ := y
 show wpAny _ _ _ _ _ _
 refine wP ?_
 show wpAny _ _ (ret Value.none) _ _ _
 exact wP y
end
noncomputable def seT (led : Bool) : Obj := { cls := .type "set", dict := none, data := .set #[] 0 (.fresh 0 0 led) }
section
variable {prog : Program} {w : World} {A : Around} {E : Value -> Shared -> Prop} {s : Shared}
theorem st_new (x : Value) {Q : Value -> Shared -> Prop} (q : Q (.ref s.heap.objs.size) { s with heap := s.heap.push (seT (!byT w)) }) :
 codeAny (model prog w) A (.call (.builtin "set.__new__") ⟨[.type "set", x], []⟩) (wants Q E) s := by
 refine codeAny_of_tree ?_
 show wpAny _ A.in1 (do checkBuiltinCall "set.__new__" ⟨[.type "set", x], []⟩; again (.builtin "set.__new__" ⟨[.type "set", x], []⟩)) _ _ s
 refine wB (wpAny_of_eq (PySem.F.newCall_set_1 x) (wP ⟨plainId_quiet PySem.F.plain_set_new _, codeAny_builtin PySem.F.entry_set_new ?_⟩))
 rw [Around.under_plainId PySem.F.plain_set_new _]
 unfold Builtin.«set.__new__» Builtin.Frozenset.newClass
 have hsub := sub_set_self
 obtain ⟨hp, g, d, tk, os⟩ := s
 dsimp only
 wp_walk
 refine wpAny_askSetting (wP ?_)
 dsimp only
 simp only [newObj]
 refine wB (wpAny_alloc (wP ?_))
 exact wP q
theorem st_call {l : Addr} {ks : List (List Int)} {bs : List Addr} {Q : Value -> Shared -> Prop} (hh : A.handled = none) (hu : A.units + 16 < cLine) (hl : s.heap.IsList l (bs.map Value.ref).toArray) (hlen : bs.length = ks.length) (hz : ks.length <= sizeLine)
 (hks : ∀ (i : Nat) (k : List Int) (b : Addr), ks[i]? = some k -> bs[i]? = some b -> (tupleKind (mixKind prog w)).is s.heap (k.map Sum.inl) b) (ok : setOk (ks.map hashI) = true)
 (q : ∀ h' tk es ep t, (∀ b o, s.heap.get? b = some o -> h'.get? b = some o) -> StO h' s.heap.objs.size es ep t -> walkOk t es.size = true -> es.size = ks.length -> List.Perm (es.toList.map (·.2)) (bs.map Value.ref) -> t.led = (!byT w) -> Q (.ref s.heap.objs.size) { s with heap := h', toks := tk }) :
 wpAny (model prog w) A (call (.type "set") [.ref l]) Q E s := by
 obtain ⟨c, tl, hmro⟩ := PySem.F.called_set.mro
 have hmade := PySem.F.called_set.made
 have hsub := PySem.F.called_set.sub
 refine wpAny_call (codeAny_of_tree ?_)
 show wpAny _ _ (callAny (.type "set") _) _ _ _
 refine wP ⟨Code.quiet_builtin _ (by decide +kernel), codeAny_builtin PySem.F.entry_type_call ?_⟩
 rw [Around.under_plain (weight_type_call_type "set" [.ref l] []) rfl]
 have h1 := PySem.F.called_set.notType
 have h2 := PySem.F.called_set.canCreate
 have hct := PySem.F.typeCall_set_1 (.ref l)
 repeat (any_goals (first | assumption | wp_step))
 refine codeAny_mono (st_new (.ref l) (E := E) (Q := λ obj s1 => obj = .ref s.heap.objs.size /\ s1 = { s with heap := s.heap.push (seT (!byT w)) }) ⟨rfl, rfl⟩) λ r s1 hr => ?_
 cases r with
 | error e => exact hr
 | ok fl =>
  cases fl with
  | ret obj =>
   obtain ⟨rfl, rfl⟩ := hr
   have hS : (s.heap.push (seT (!byT w))).get? s.heap.objs.size = some (seT (!byT w)) := hPs _ rfl
   have k1 : ∀ b o, s.heap.get? b = some o -> (s.heap.push (seT (!byT w))).get? b = some o := λ b o e => hPo _ e
   have z1 : (s.heap.push (seT (!byT w))).objs.size = s.heap.objs.size + 1 := Q17 ..
   have hT : Shared.TypeIs { s with heap := s.heap.push (seT (!byT w)) } (.ref s.heap.objs.size) "set" := ⟨_, hS, rfl⟩
   have hli := PySem.F.called_set.init.lookup
   have hbi := PySem.F.called_set.init.bind (.ref s.heap.objs.size)
   repeat (any_goals (first | assumption | wp_step))
   refine codeAny_mono (codeAny_call_builtin (R := wants (λ r s2 => r = .none /\ Q (.ref s.heap.objs.size) s2) E) PySem.F.called_set.init.plain PySem.F.entry_set_init (check_set_init_1 hT ?_)) λ r2 s2 hr2 => ?_
   · obtain ⟨ol, hol, hcl, nl, hdl⟩ := id hl
     have hol' := k1 _ _ hol
     have hlS : l < s.heap.objs.size := hLs hol
     have hl1 : (s.heap.push (seT (!byT w))).IsList l (bs.map Value.ref).toArray := ⟨ol, hol', hcl, nl, hdl⟩
     have hTl : Shared.TypeIs { s with heap := s.heap.push (seT (!byT w)) } (.ref l) "list" := ⟨ol, hol', hcl⟩
     refine st_init (R := wants (λ r s2 => r = .none /\ Q (.ref s.heap.objs.size) s2) E) hS hl1 ?_
     obtain ⟨tf, ta, wo⟩ := setOk_at ok (!byT w)
     rw [zJ] at wo
     have sI : s.heap.objs.size ≠ (s.heap.push (seT (!byT w))).objs.size := by rw [z1]; exact nNl (Q23 _)
     have lI : l ≠ (s.heap.push (seT (!byT w))).objs.size := by rw [z1]; exact nNl (Q1c hlS)
     have bsl : ∀ b ∈ bs, b < s.heap.objs.size := λ b hb => by
      obtain ⟨i, hi⟩ := List.mem_iff_getElem?.mp hb
      have hib := (Qa.mp hi).1
      obtain ⟨o, _, _, ho, _⟩ := (show IsTupleKey (mixKind prog w) s.heap _ b from hks i _ b (gEq (by omega)) hi)
      exact hLs ho
     have gI : ((s.heap.push (seT (!byT w))).push { cls := .type "list_iterator", data := .fields #[.ref l, .int 0 0] }).get? (s.heap.push (seT (!byT w))).objs.size = some { cls := .type "list_iterator", data := .fields #[.ref l, .int 0 0] } := hPs _ rfl
     refine st_loop (S := s.heap.objs.size) (I := (s.heap.push (seT (!byT w))).objs.size) (l := l) (ks := ks) (bs := bs) (tf := tf) (s := s) (h0 := s.heap) (show (Around.in1 (Around.in1 A)).handled = none from hh) (by show A.units + 1 + 1 + 1 < cLine; omega) sI (nNg hlS) lI hlen hz hl (λ b hb => ⟨nNl (bsl b hb), by rw [z1]; exact nNl (Q1c (bsl b hb))⟩) hks ?_ ks.length 0 _ s.toks #[] 0 (.fresh 0 0 (!byT w)) (Nat.sub_zero _) (zU _) (λ b o _ _ e => hPo _ (k1 b o e)) (hPo _ hS) rfl rfl rfl (List.Perm.refl _) ta ⟨_, gI, rfl, rfl⟩
     intro h' tk es ep kp st ft ze pe led
     exact ⟨rfl, rfl, q h' tk es ep tf (λ b o e => kp b o (nNl (hLs e)) (by rw [z1]; exact nNl (Q1c (hLs e))) e) st (by rw [ze]; exact wo) ze pe led⟩
   · cases r2 with
     | error e => exact hr2
     | ok fl2 =>
      cases fl2 with
      | ret r =>
       obtain ⟨rfl, hq⟩ := hr2
       repeat (any_goals (first | assumption | wp_step))
      | _ => exact hr2.elim
  | _ => exact hr.elim
end
end L2
namespace L2
open PySem PySem.Spec PyProof.Rows PySem.W
def stO (w : World) (a : Addr) (bs : List Addr) : HO := .ext λ h => ∃ es ep t, StO h a es ep t /\ walkOk t es.size = true /\ es.size = bs.length /\ List.Perm (es.toList.map (·.2)) (bs.map Value.ref) /\ t.led = (!byT w)
def rSetOf (w : World) : List V -> Hp -> VK -> Prop := λ xs H Q => ∃ (l : Addr) (bs : List Addr) (ks : List (List Int)), xs = [.ref l] /\ H l = some (.lst (bs.map V.ref)) /\ bs.length = ks.length /\ (∀ i, i < ks.length -> H (bs.getD i 0) = some (.tup ((ks.getD i []).map V.int))) /\ ks.length < 64 /\ setOk (ks.map hashI) = true /\
 ∀ p, H p = none -> Q (.ref p) (upd H p (stO w p bs))
theorem call_setOf {X : Cx} (hcm : X.calm = true) (hu : X.A.units + 64 < cLine) : CallR X (.type "set") (rSetOf X.w) := by
 intro pins s σ H xs us Q I rv h
 obtain ⟨l, bs, ks, rfl, hl, hal, htp, h64, ok, q⟩ := h
 obtain ⟨u, rfl, ru⟩ := vals1 rv
 cases (show u = Value.ref l from ru)
 obtain ⟨z, its, n, rl, ll, el⟩ := I.lstM hl
 have ei := refs_of rl
 subst ei
 refine st_call (ks := ks) (bs := bs) (I.ok.hd hcm) (by omega) ⟨_, el, rfl, _, rfl⟩ hal (small (by omega)) (λ i k b e1 e2 => ?_) ok λ h' tk es ep t kp st wo ze pe led => ?_
 · obtain ⟨i1, e1⟩ := Qa.mp e1
   obtain ⟨i2, e2⟩ := Qa.mp e2
   have := htp i i1
   rw [gDq, gEq i2, gDq, gEq i1] at this
   have hb : H b = some (.tup ((k.map (Sum.inl : Int -> Key)).map kV)) := by rw [key_ints, <- e1, <- e2]; exact this
   exact key_of I.hok hb
 · refine ⟨.ref s.heap.objs.size, _, I.laid (t' := tk) (a := s.heap.objs.size) (o := stO X.w s.heap.objs.size bs) kp (Q1 _) ⟨⟨es, ep, t, st, wo, by omega, pe, led⟩, ⟨_, st⟩, λ g1 g2 y k => ?_⟩, rfl, q _ I.fresh⟩
   obtain ⟨es', ep', t', y1, y2⟩ := y
   exact ⟨es', ep', t', k _ y1, y2⟩
def rSortS (w : World) : List V -> Hp -> VK -> Prop := λ xs H Q => ∃ (a : Addr) (bs : List Addr) (ks : List (List Int)), xs = [.ref a] /\ H a = some (stO w a bs) /\ bs.length = ks.length /\ (∀ i, i < ks.length -> H (bs.getD i 0) = some (.tup ((ks.getD i []).map V.int))) /\ ks.Nodup /\ (∀ k ∈ ks, k ≠ []) /\ ks.length < 64 /\
 ∀ p (cs : List Addr), H p = none -> cs.length = ks.length -> (∀ i, i < ks.length -> H (cs.getD i 0) = some (.tup (((DL.sortK ks).getD i []).map V.int))) -> Q (.ref p) (upd H p (.lst (cs.map V.ref)))
noncomputable def refOf : Value -> Addr
 | .ref a => a
 | _ => 0
noncomputable def intOf : V -> Int
 | .int n => n
 | _ => 0
noncomputable def kOf (H : Hp) (b : Addr) : List Int := match H b with
 | some (.tup xs) => xs.map intOf
 | _ => []
theorem kOf_at {H : Hp} {b : Addr} {k : List Int} (h : H b = some (.tup (k.map V.int))) : kOf H b = k := by
 unfold kOf
 rw [h]
 show (k.map V.int).map intOf = k
 rw [zO]
 exact List.map_id _
end L2
namespace DL
theorem sortK_asc {ks : List (List Int)} (nd : ks.Nodup) : (sortK ks).Pairwise λ a b => L2.lexI a b = true := by
 have s2 : (sortK ks).Pairwise λ a b => leI a b = true := List.pairwise_mergeSort leI_tr leI_to ks
 have n2 : (sortK ks).Nodup := (List.mergeSort_perm ks leI).nodup_iff.mpr nd
 refine (s2.and n2).imp λ h => ?_
 rcases Bool.or_eq_true_iff.mp h.1 with z | z
 · exact z
 · exact absurd (of_decide_eq_true z) h.2
end DL
namespace L2
open PySem PySem.Spec PyProof.Rows PySem.W
theorem call_sortS {X : Cx} (hcm : X.calm = true) (hu : X.A.units + 64 < cLine) : CallR X (.builtin "sorted") (rSortS X.w) := by
 intro pins s σ H xs us Q I rv h
 obtain ⟨a, bs, ks, rfl, ha, hal0, htp0, knd, kpos, k64, q⟩ := h
 obtain ⟨u, rfl, ru⟩ := vals1 rv
 cases (show u = Value.ref a from ru)
 obtain ⟨⟨es, ep, t, st, wo, ze, pe, led⟩, _⟩ := (show ObjOk X.prog X.w H s.heap a (.ext _) from I.hok a _ ha)
 have hb0 : ∀ b ∈ bs, ∃ k, k ∈ ks /\ H b = some (.tup (k.map V.int)) := λ b hb => by
  obtain ⟨i, hi, e⟩ := List.getElem_of_mem hb
  have hi' : i < ks.length := by omega
  have := htp0 i hi'
  rw [gDq, gEq hi, gDq, gEq hi'] at this
  exact ⟨ks[i], Qf _, e ▸ this⟩
 have ksE : bs.map (kOf H) = ks := by
  apply List.ext_getElem
  · rw [zJ]; exact hal0
  · intro i h1 h2
    rw [List.getElem_map]
    rw [zJ] at h1
    have := htp0 i h2
    rw [gDq, gEq h1, gDq, gEq h2] at this
    exact kOf_at this
 have vp : List.Perm ((wks X.w a ep es).map (·.2)) (bs.map Value.ref) := ((wks_perm X.w a ep es).map _).trans pe
 obtain ⟨as, ea⟩ : ∃ as : List Addr, (wks X.w a ep es).map (·.2) = as.map Value.ref := by
  refine ⟨((wks X.w a ep es).map (·.2)).map refOf, ?_⟩
  rw [zO]
  refine ((List.map_congr_left λ v hv => ?_).trans (List.map_id _)).symm
  obtain ⟨b, _, rfl⟩ := Q11.mp (vp.mem_iff.mp hv)
  rfl
 have ap : List.Perm as bs := by
  rw [ea] at vp
  have := vp.map refOf
  rw [zO, zO] at this
  have e : (refOf ∘ Value.ref) = id := rfl
  rw [e, List.map_id, List.map_id] at this
  exact this
 have kp0 : List.Perm (as.map (kOf H)) ks := by rw [<- ksE]; exact ap.map _
 generalize hkz : as.map (kOf H) = kz at kp0
 have hal : as.length = kz.length := by rw [<- hkz, zJ]
 have lz : kz.length = ks.length := kp0.length_eq
 have htp : ∀ i, i < kz.length -> H (as.getD i 0) = some (.tup ((kz.getD i []).map V.int)) := λ i hi => by
  have hi' : i < as.length := by omega
  obtain ⟨k, _, hk⟩ := hb0 as[i] (ap.mem_iff.mp (Qf _))
  have : kz.getD i [] = k := by rw [<- hkz, gDq, zK, gEq hi']; exact kOf_at hk
  rw [this, gDq, gEq hi']
  exact hk
 have ksnd : kz.Nodup := kp0.nodup_iff.mpr knd
 have hpos : ∀ k ∈ kz, k ≠ [] := λ k hk => kpos k (kp0.mem_iff.mp hk)
 have h64 : kz.length < 64 := by omega
 have sK : DL.sortK kz = DL.sortK ks := DL.sortK_of knd ((List.mergeSort_perm kz DL.leI).trans kp0) (DL.sortK_asc ksnd)
 obtain ⟨m, hns, _⟩ := id I.loc
 have Llt := I.lt
 refine Calls.call_function_entry kind_sorted plain_sorted entry_sorted (args_sorted1 _) ?_
 unfold Builtin.«sorted»
 refine wB (m := checkCount "sorted" 1 1 _) (wP ?_)
 refine wB (st_collect (I.ok.hd hcm) st wo led (by rw [ze]; exact small (by omega)) λ tp tk kT Dgt => ?_)
 show wpAny _ _ (newList ((wks X.w a ep es).map (·.2)) >>= _) _ _ _
 rw [ea]
 refine wB (wpAny_newList ?_ (by rw [zJ]; exact small (by omega)))
 have kN : ∀ b o, s.heap.get? b = some o -> (tp.push (seqObj "list" (as.map Value.ref).toArray 0)).get? b = some o := λ b o e => hPo _ (kT b o e)
 have nD : (tp.push (seqObj "list" (as.map Value.ref).toArray 0)).get? tp.objs.size = some (listOf (as.map Value.ref).toArray 0) := hPs _ rfl
 generalize hDv : tp.objs.size = D at nD Dgt
 generalize hh' : tp.push (seqObj "list" (as.map Value.ref).toArray 0) = h' at kN nD
 have Dnew : s.heap.get? D = none := Heap.get?_none_of_le (nLe Dgt)
 have DL' : D ≠ X.env.locals := nNg (Nat.lt_trans Llt Dgt)
 have HD : H D = none := by
  cases z : H D with
  | none => rfl
  | some o =>
   obtain ⟨_, e⟩ := (I.hok D o z).there
   rw [Dnew] at e
   cases e
 have hns' : h'.Ns X.env.locals m := by
  obtain ⟨o, es, ep, e1, e2⟩ := hns
  exact ⟨o, es, ep, kN _ _ e1, e2⟩
 have ht : Paired (TpI h') (as.map Value.ref) kz := paired_of (x := Value.none) (y := []) (by rw [zJ]; exact hal) λ i hi => by
  have hi' : i < kz.length := by rw [zJ] at hi; omega
  have tr := htp i hi'
  obtain ⟨_, it2, r2, ⟨o, e1, e2, n2, e3⟩, _⟩ := (show ObjOk X.prog X.w H s.heap _ (.tup _) from I.hok _ _ tr)
  have ge : (as.map Value.ref).getD i .none = .ref (as.getD i 0) := by
   have ia : i < as.length := by omega
   rw [gDq, zK, gEq ia, gDq, gEq ia]
   rfl
  rw [ge]
  refine ⟨_, o, _, n2, rfl, kN _ o e1, e2, e3, ?_⟩
  rw [List.toList_toArray]
  exact ints_of_vals r2
 refine wB (wpAny_holding ?_)
 refine lsort_tups (s := { s with heap := h', toks := tk }) (L := X.env.locals) (D := D) (m := m) (c := 0) hns' DL' nD ht ksnd hpos (by rw [zJ]; omega) λ h2' c2 qq kp2 ns2 hD2 P2 A2 => wP ?_
 rw [zJ, hal] at P2 A2
 have hb : ∀ i, i < kz.length -> SRT.g qq i < kz.length := P2.lt
 have hl2 : qq.toList.Perm (List.range kz.length) := by simpa using Array.perm_iff_toList_perm.mp P2.pe
 have outE : (qq.toList.map λ i => (as.map Value.ref).getD i .none) = (qq.toList.map λ i => as.getD i 0).map Value.ref := by
  rw [zO]
  apply List.map_congr_left
  intro i hi
  have : i < kz.length := by simpa using hl2.mem_iff.mp hi
  have ia : i < as.length := by omega
  show (as.map Value.ref).getD i .none = .ref (as.getD i 0)
  rw [gDq, zK, gEq ia, gDq, gEq ia]
  rfl
 rw [outE] at hD2
 have kp3 : ∀ b o, b ≠ X.env.locals -> s.heap.get? b = some o -> h2'.get? b = some o := λ b o nb e => kp2 b o nb (λ y => by rw [y, Dnew] at e; cases e) (kN b o e)
 have bl : (qq.toList.map λ i => as.getD i 0).length = kz.length := by rw [zJ, Q15, P2.sz]
 have hokN : HOk X.prog X.w (upd H D (.lst ((qq.toList.map λ i => as.getD i 0).map V.ref))) h2' := λ b u e => by
  by_cases y : b = D
  · subst y
    rw [upd_same] at e
    cases e
    exact ⟨by rw [zJ, bl]; exact small (by omega), _, c2, vals_refs _, hD2⟩
  · rw [upd_ne y] at e
    refine (I.hok b u e).stay (λ c v hc e1 => kp3 c v (λ y => ?_) e1) (λ c y => by rw [upd_ne (ne_of_none y HD)]; exact y) (λ c xs y => by rw [upd_ne (ne_of_none y HD)]; exact y) λ c ob xs y => by rw [upd_ne (ne_of_none y HD)]; exact y
    subst y
    rcases hc with y | y
    · rw [<- y, I.free] at e; cases e
    · rw [I.free] at y; cases y
 have I2 : Inv X pins σ (upd H D (.lst ((qq.toList.map λ i => as.getD i 0).map V.ref))) { s with heap := h2', gens := s.gens, drawn := s.drawn, toks := tk } :=
  Inv.step (s := s) (ch := []) I (λ _ y => nomatch y) (λ b o nb _ _ e _ => kp3 b o nb e) (λ b o nb _ _ e _ => ⟨o.slots, kp3 b o nb e⟩) (λ b o _ e n => by rw [upd_ne (λ y => by rw [y, Dnew] at e; cases e)]; exact n)
   (λ b o _ e => by
    by_cases y : b = X.env.locals
    · subst y
      obtain ⟨o2, _, _, e2, _⟩ := ns2
      exact ⟨o2, e2⟩
    · exact ⟨o, kp3 b o y e⟩)
   (λ b xs e => by rw [upd_ne (ne_of_none e HD)]; exact e) (λ b o xs e => by rw [upd_ne (ne_of_none e HD)]; exact e) (λ b ps e => ⟨#[], by rw [upd_ne (ne_of_none e HD), e]; simp⟩) (λ m2 hm2 => ns_unique hns hm2 ▸ ns2) hokN I.bare
 refine ⟨_, rfl, .ref D, _, I2, rfl, q D _ HD (by omega) λ i hi => ?_⟩
 have e : (qq.toList.map λ i => as.getD i 0).getD i 0 = as.getD (SRT.g qq i) 0 := by
  have hq : i < qq.toList.length := by rw [Q15, P2.sz]; omega
  rw [gDq, zK, gEq hq]
  show as.getD qq.toList[i] 0 = _
  congr 1
  unfold SRT.g
  rw [<- Q16, gEq hq]
  rfl
 have hi2 : i < kz.length := by omega
 have g : (DL.sortK ks).getD i [] = kz.getD (SRT.g qq i) [] := by
  rw [<- sK, <- DL.sortK_q ksnd P2 A2, gDq, zK, List.getElem?_range hi2]
  rfl
 rw [e, g]
 exact htp _ (hb i hi2)
end L2
namespace DL
open PySem L2
section
variable {K : Fg} {X : Cx}
theorem kx_setOf (K : Fg) (hc : X.calm = true) (hu : X.A.units + 64 < cLine) : CallR X (.type "set") (rSetOf X.w) := call_setOf hc hu
theorem kx_sortS (K : Fg) (hc : X.calm = true) (hu : X.A.units + 64 < cLine) : CallR X (.builtin "sorted") (rSortS X.w) := call_sortS hc hu
noncomputable def sortSC : List PyData -> Option PyData
 | [.list ds] => (tksD ds).bind λ ks => if (ks.all (λ k => !k.isEmpty) && decide (ks.length < 64) && decide ks.Nodup && setOk (ks.map hashI)) = true then some (.list ((sortK ks).map λ k => .tuple (k.map .int))) else none
 | _ => none
noncomputable def dSortS (fa : DSt -> Option (List PyData)) (δ : DSt) : Option PyData := (fa δ).bind sortSC
theorem se_sortS {w : World} {t : TA} {fa : DSt -> Option (List PyData)} (a : SA K t fa) : SE K (tCB (rSortS w) (tCons (tCB (rSetOf w) t) tNil)) (dSortS fa) := by
 intro H0 F0 F σ H δ d Q R e h
 obtain ⟨ds, e1, e2⟩ := bind_some e
 refine a H0 F0 F σ H δ ds _ R e1 λ vs H1 F1 g1 ar => ?_
 unfold sortSC at e2
 split at e2
 rotate_left
 · cases e2
 rename_i es
 obtain ⟨ks, e3, e4⟩ := bind_some e2
 split at e4
 rotate_left
 · cases e4
 rename_i c
 cases e4
 simp only [Q2, decide_eq_true_eq, Qd] at c
 obtain ⟨⟨⟨c1, c3⟩, c4⟩, c5⟩ := c
 obtain ⟨x, r, rfl, ⟨l, ys, rfl, h1, h2⟩, hr⟩ := ar
 rw [show r = [] from hr]
 obtain ⟨bs, rfl, ln, q⟩ := are_keys h2 (tksD_some e3)
 refine ⟨l, bs, ks, rfl, g1.s _ _ h1, ln, λ i hi => g1.s _ _ (q i hi), c3, c5, λ p hp => ?_⟩
 have g2 : Grow F1 H1 F1 (upd H1 p (stO w p bs)) := Grow.fresh g1.s hp
 refine ⟨p, bs, ks, rfl, upd_same, ln, λ i hi => g2.s _ _ (q i hi), c4, (λ k hk y => absurd (c1 k hk) (by rw [y]; decide)), c3, λ D cs hD hcl hcs => ?_⟩
 have len : (sortK ks).length = ks.length := (List.mergeSort_perm ks leI).length_eq
 have allT : ∀ b ∈ cs, ∃ xs, upd H1 p (stO w p bs) b = some (.tup xs) := λ b hb => by
  obtain ⟨i, hi, rfl⟩ := List.getElem_of_mem hb
  have := hcs i (by omega)
  rw [gDq, gEq hi] at this
  exact ⟨_, this⟩
 obtain ⟨F2, g3, f2⟩ := Grow.tups g2.s cs allT
 have g4 := g3.trans (Grow.new (p := D) (o := .lst (cs.map V.ref)) g3.s hD)
 refine h (.ref D) _ _ ((g1.trans g2).trans g4) ⟨D, _, rfl, upd_same, ?_⟩
 refine (are_tups (F := F2) (by rw [len]; exact hcl) λ i hi => ?_).same (same_new (g3.s.free hD) _)
 have mem : cs.getD i 0 ∈ cs := by
  rw [gDq, gEq (by omega)]
  exact Qf _
 rw [f2 _ mem, hcs i (by omega)]
end
end DL
namespace GX
open PySem L2 DL
noncomputable def B_law_mix_0 : DSt -> Option DFlow := (dRet (d2 modD (d2 modD (d2 mulI (dVar 0) (dC (.int 48271))) (dVar 1)) (dVar 2)))
noncomputable def B_law_mix : DSt -> Option DFlow := (dRet (d2 modD (d2 modD (d2 mulI (dVar 0) (dC (.int 48271))) (dVar 1)) (dVar 2)))
theorem B_law_mix_tl : B_law_mix = B_law_mix_0 := rfl
noncomputable def F_law_mix : List PyData -> Option PyData := runD 3 B_law_mix
noncomputable def B_law_cell_1 : DSt -> Option DFlow := (dRet (dC (.int 0)))
noncomputable def B_law_cell_0 : DSt -> Option DFlow := dSeq (dIf (dB (d2 ltD (dVar 1) (dCall lenC (dCons (dVar 0) dNil)))) (dRet (d2 ixD (dVar 0) (dVar 1))) dNext) B_law_cell_1
noncomputable def B_law_cell : DSt -> Option DFlow := (dSeq (dIf (dB (d2 ltD (dVar 1) (dCall lenC (dCons (dVar 0) dNil)))) (dRet (d2 ixD (dVar 0) (dVar 1))) dNext) (dRet (dC (.int 0))))
theorem B_law_cell_tl : B_law_cell = B_law_cell_0 := rfl
noncomputable def F_law_cell : List PyData -> Option PyData := runD 2 B_law_cell
noncomputable def B_law_small_1 : DSt -> Option DFlow := (dRet (d2 ixD (dVar 2) (dOwnCall 3 F_law_mix (dCons (dOwnCall 2 F_law_cell (dCons (dVar 0) (dCons (dVar 1) dNil))) (dCons (dC (.int 9973)) (dCons (dC (.int 8)) dNil))))))
noncomputable def B_law_small_0 : DSt -> Option DFlow := dSeq (dSet 2 (dOwn (dLstO (dLits [.tuple [.int 2, .int 3], .tuple [.int 3, .int 2], .tuple [.int 2, .int 4], .tuple [.int 4, .int 2], .tuple [.int 1, .int 5], .tuple [.int 2, .int 2], .tuple [.int 1, .int 3], .tuple [.int 2, .int 3]])))) B_law_small_1
noncomputable def B_law_small : DSt -> Option DFlow := (dSeq (dSet 2 (dOwn (dLstO (dLits [.tuple [.int 2, .int 3], .tuple [.int 3, .int 2], .tuple [.int 2, .int 4], .tuple [.int 4, .int 2], .tuple [.int 1, .int 5], .tuple [.int 2, .int 2], .tuple [.int 1, .int 3], .tuple [.int 2, .int 3]])))) (dRet (d2 ixD (dVar 2) (dOwnCall 3 F_law_mix (dCons (dOwnCall 2 F_law_cell (dCons (dVar 0) (dCons (dVar 1) dNil))) (dCons (dC (.int 9973)) (dCons (dC (.int 8)) dNil)))))))
theorem B_law_small_tl : B_law_small = B_law_small_0 := rfl
noncomputable def F_law_small : List PyData -> Option PyData := runD 3 B_law_small
noncomputable def B_law_code_2 : DSt -> Option DFlow := (dFrz 2 (dRet (dCall tupC (dCons (dVar 2) dNil))))
noncomputable def B_law_code_1 : DSt -> Option DFlow := dSeq (dFor (dRng1 (dCons (d2 ixD (dVar 0) (dC (.int 0))) dNil)) (gN 3) (dAppend 2 (dOwnCall 3 F_law_mix (dCons (d2 addD (d2 addD (dVar 1) (d2 mulI (d2 mulI (dC (.int 31)) (dVar 3)) (dVar 3))) (d2 mulI (dC (.int 7)) (dVar 3))) (dCons (dC (.int 9967)) (dCons (d2 ixD (dVar 0) (dC (.int 1))) dNil)))))) B_law_code_2
noncomputable def B_law_code_0 : DSt -> Option DFlow := dSeq (dSetO 2 (dLstO dNil)) B_law_code_1
noncomputable def B_law_code : DSt -> Option DFlow := (dSeq (dSetO 2 (dLstO dNil)) (dSeq (dFor (dRng1 (dCons (d2 ixD (dVar 0) (dC (.int 0))) dNil)) (gN 3) (dAppend 2 (dOwnCall 3 F_law_mix (dCons (d2 addD (d2 addD (dVar 1) (d2 mulI (d2 mulI (dC (.int 31)) (dVar 3)) (dVar 3))) (d2 mulI (dC (.int 7)) (dVar 3))) (dCons (dC (.int 9967)) (dCons (d2 ixD (dVar 0) (dC (.int 1))) dNil)))))) (dFrz 2 (dRet (dCall tupC (dCons (dVar 2) dNil))))))
theorem B_law_code_tl : B_law_code = B_law_code_0 := rfl
noncomputable def F_law_code : List PyData -> Option PyData := runD 4 B_law_code
noncomputable def B_law_codes_2 : DSt -> Option DFlow := (dRet (dVar 1))
noncomputable def B_law_codes_1 : DSt -> Option DFlow := dSeq (dFor (dRng1 (dCons (d2 ixD (dVar 0) (dC (.int 0))) dNil)) (gN 2) (dSeq (dSet 3 (dOwn (dLstO dNil))) (dSeq (dFor (dIter (dVar 1)) (gN 4) (dSet 3 (d2 addD (dVar 3) (dOwn (dCompO 1 [("_law_code_here", 4)] (dRng1 (dCons (d2 ixD (dVar 0) (dC (.int 1))) dNil)) (gN 0) dYes (d2 addD (dVar 1) (dTup (dCons (dVar 0) dNil)))))))) (dSet 1 (dVar 3))))) B_law_codes_2
noncomputable def B_law_codes_0 : DSt -> Option DFlow := dSeq (dSet 1 (dOwn (dLstO (dCons (dTup dNil) dNil)))) B_law_codes_1
noncomputable def B_law_codes : DSt -> Option DFlow := (dSeq (dSet 1 (dOwn (dLstO (dCons (dTup dNil) dNil)))) (dSeq (dFor (dRng1 (dCons (d2 ixD (dVar 0) (dC (.int 0))) dNil)) (gN 2) (dSeq (dSet 3 (dOwn (dLstO dNil))) (dSeq (dFor (dIter (dVar 1)) (gN 4) (dSet 3 (d2 addD (dVar 3) (dOwn (dCompO 1 [("_law_code_here", 4)] (dRng1 (dCons (d2 ixD (dVar 0) (dC (.int 1))) dNil)) (gN 0) dYes (d2 addD (dVar 1) (dTup (dCons (dVar 0) dNil)))))))) (dSet 1 (dVar 3))))) (dRet (dVar 1))))
theorem B_law_codes_tl : B_law_codes = B_law_codes_0 := rfl
noncomputable def F_law_codes : List PyData -> Option PyData := runD 5 B_law_codes
noncomputable def B_law_answer_6 : DSt -> Option DFlow := (dRet (dTup (dCons (dVar 2) (dCons (dVar 7) dNil))))
noncomputable def B_law_answer_5 : DSt -> Option DFlow := dSeq (dFrz 3 (dFor (dIter (dVar 3)) (gN 8) (dIf (dB (dInO false 4 (dVar 8))) (dSeq (dRemove 4 (dVar 8)) (dSet 7 (d2 addD (dVar 7) (dC (.int 1))))) dNext))) B_law_answer_6
noncomputable def B_law_answer_4 : DSt -> Option DFlow := dSeq (dSet 7 (dC (.int 0))) B_law_answer_5
noncomputable def B_law_answer_3 : DSt -> Option DFlow := dSeq (dFor (dZip (dCons (dVar 0) (dCons (dVar 1) dNil))) (gT 2 (gC (gN 5) (gC (gN 6) gZ))) (dIf (dB (d2 eqD (dVar 5) (dVar 6))) (dSet 2 (d2 addD (dVar 2) (dC (.int 1)))) (dSeq (dAppend 3 (dVar 5)) (dAppend 4 (dVar 6))))) B_law_answer_4
noncomputable def B_law_answer_2 : DSt -> Option DFlow := dSeq (dSetO 4 (dLstO dNil)) B_law_answer_3
noncomputable def B_law_answer_1 : DSt -> Option DFlow := dSeq (dSetO 3 (dLstO dNil)) B_law_answer_2
noncomputable def B_law_answer_0 : DSt -> Option DFlow := dSeq (dSet 2 (dC (.int 0))) B_law_answer_1
noncomputable def B_law_answer : DSt -> Option DFlow := (dSeq (dSet 2 (dC (.int 0))) (dSeq (dSetO 3 (dLstO dNil)) (dSeq (dSetO 4 (dLstO dNil)) (dSeq (dFor (dZip (dCons (dVar 0) (dCons (dVar 1) dNil))) (gT 2 (gC (gN 5) (gC (gN 6) gZ))) (dIf (dB (d2 eqD (dVar 5) (dVar 6))) (dSet 2 (d2 addD (dVar 2) (dC (.int 1)))) (dSeq (dAppend 3 (dVar 5)) (dAppend 4 (dVar 6))))) (dSeq (dSet 7 (dC (.int 0))) (dSeq (dFrz 3 (dFor (dIter (dVar 3)) (gN 8) (dIf (dB (dInO false 4 (dVar 8))) (dSeq (dRemove 4 (dVar 8)) (dSet 7 (d2 addD (dVar 7) (dC (.int 1))))) dNext))) (dRet (dTup (dCons (dVar 2) (dCons (dVar 7) dNil))))))))))
theorem B_law_answer_tl : B_law_answer = B_law_answer_0 := rfl
noncomputable def F_law_answer : List PyData -> Option PyData := runD 9 B_law_answer
noncomputable def B_law_alike_2 : DSt -> Option DFlow := (dRet (dC .none))
noncomputable def B_law_alike_1 : DSt -> Option DFlow := dSeq (dFor (dEn (dCons (dVar 2) dNil)) (gT 2 (gC (gN 3) (gC (gN 4) gZ))) (dFor (dIter (dSl (dVar 2) (dPart (d2 addD (dVar 3) (dC (.int 1)))) dNoPart)) (gN 5) (dIf (dNotT (dTru (dOwn (dCompO 1 [("_law_one", 4), ("_law_other", 5)] (dIter (dVar 1)) (gN 0) (dB (d2 neD (dOwnCall 2 F_law_answer (dCons (dVar 1) (dCons (dVar 0) dNil))) (dOwnCall 2 F_law_answer (dCons (dVar 2) (dCons (dVar 0) dNil))))) (dVar 0))))) (dRet (dTup (dCons (dVar 4) (dCons (dVar 5) dNil)))) dNext))) B_law_alike_2
noncomputable def B_law_alike_0 : DSt -> Option DFlow := dSeq (dSet 2 (dOwnCall 1 F_law_codes (dCons (dVar 0) dNil))) B_law_alike_1
noncomputable def B_law_alike : DSt -> Option DFlow := (dSeq (dSet 2 (dOwnCall 1 F_law_codes (dCons (dVar 0) dNil))) (dSeq (dFor (dEn (dCons (dVar 2) dNil)) (gT 2 (gC (gN 3) (gC (gN 4) gZ))) (dFor (dIter (dSl (dVar 2) (dPart (d2 addD (dVar 3) (dC (.int 1)))) dNoPart)) (gN 5) (dIf (dNotT (dTru (dOwn (dCompO 1 [("_law_one", 4), ("_law_other", 5)] (dIter (dVar 1)) (gN 0) (dB (d2 neD (dOwnCall 2 F_law_answer (dCons (dVar 1) (dCons (dVar 0) dNil))) (dOwnCall 2 F_law_answer (dCons (dVar 2) (dCons (dVar 0) dNil))))) (dVar 0))))) (dRet (dTup (dCons (dVar 4) (dCons (dVar 5) dNil)))) dNext))) (dRet (dC .none))))
theorem B_law_alike_tl : B_law_alike = B_law_alike_0 := rfl
noncomputable def F_law_alike : List PyData -> Option PyData := runD 6 B_law_alike
noncomputable def Bis_pair : DSt -> Option DFlow := (dRet (dAndV (dIsi "tuple" (dVar 0)) (d2 eqD (dCall lenC (dCons (dVar 0) dNil)) (dC (.int 2)))))
noncomputable def Fis_pair : List PyData -> Option PyData := runD 1 Bis_pair
noncomputable def Bis_number_within_0 : DSt -> Option DFlow := (dRet (dAndV (dIsi "int" (dVar 0)) (dAndV (dNotV (dIsi "bool" (dVar 0))) (dChain leD leD (dVar 1) (dVar 0) (dVar 2)))))
noncomputable def Bis_number_within : DSt -> Option DFlow := (dRet (dAndV (dIsi "int" (dVar 0)) (dAndV (dNotV (dIsi "bool" (dVar 0))) (dChain leD leD (dVar 1) (dVar 0) (dVar 2)))))
theorem Bis_number_within_tl : Bis_number_within = Bis_number_within_0 := rfl
noncomputable def Fis_number_within : List PyData -> Option PyData := runD 3 Bis_number_within
noncomputable def Bhow_many_codes : DSt -> Option DFlow := (dSeq (dSet 2 (dC (.int 1))) (dSeq (dFor (dRng1 (dCons (dVar 0) dNil)) (gN 3) (dAug 2 mulI (dVar 1))) (dRet (dVar 2))))
noncomputable def Fhow_many_codes : List PyData -> Option PyData := runD 4 Bhow_many_codes
noncomputable def Bis_game : DSt -> Option DFlow := (dSeq (dIf (dNotT (dTru (dOwnCall 1 Fis_pair (dCons (dVar 0) dNil)))) (dRet (dC (.bool false))) dNext) (dSeq (dIf (dOrT (dNotT (dTru (dOwnCall 3 Fis_number_within (dCons (d2 ixD (dVar 0) (dC (.int 0))) (dCons (dC (.int 1)) (dCons (dC (.int 5)) dNil)))))) (dNotT (dTru (dOwnCall 3 Fis_number_within (dCons (d2 ixD (dVar 0) (dC (.int 1))) (dCons (dC (.int 1)) (dCons (dC (.int 8)) dNil))))))) (dRet (dC (.bool false))) dNext) (dRet (d2 leD (dOwnCall 2 Fhow_many_codes (dCons (d2 ixD (dVar 0) (dC (.int 0))) (dCons (d2 ixD (dVar 0) (dC (.int 1))) dNil))) (dC (.int 300))))))
noncomputable def Fis_game : List PyData -> Option PyData := runD 1 Bis_game
noncomputable def Bchecked_game : DSt -> Option DFlow := (dSeq (dIf (dNotT (dTru (dOwnCall 1 Fis_game (dCons (dVar 0) dNil)))) dNever dNext) (dRet (dVar 0)))
noncomputable def Fchecked_game : List PyData -> Option PyData := runD 1 Bchecked_game
noncomputable def Bis_code_1 : DSt -> Option DFlow := (dRet (dCall allC (dCons (dOwn (dCompO 1 [("game", 0)] (dIter (dVar 1)) (gN 0) dYes (dOwnCall 3 Fis_number_within (dCons (dVar 0) (dCons (dC (.int 0)) (dCons (d2 subD (d2 ixD (dVar 1) (dC (.int 1))) (dC (.int 1))) dNil)))))) dNil)))
noncomputable def Bis_code_0 : DSt -> Option DFlow := dSeq (dIf (dOrT (dNotT (dTru (dIsi "tuple" (dVar 1)))) (dB (d2 neD (dCall lenC (dCons (dVar 1) dNil)) (d2 ixD (dVar 0) (dC (.int 0)))))) (dRet (dC (.bool false))) dNext) Bis_code_1
noncomputable def Bis_code : DSt -> Option DFlow := (dSeq (dIf (dOrT (dNotT (dTru (dIsi "tuple" (dVar 1)))) (dB (d2 neD (dCall lenC (dCons (dVar 1) dNil)) (d2 ixD (dVar 0) (dC (.int 0)))))) (dRet (dC (.bool false))) dNext) (dRet (dCall allC (dCons (dOwn (dCompO 1 [("game", 0)] (dIter (dVar 1)) (gN 0) dYes (dOwnCall 3 Fis_number_within (dCons (dVar 0) (dCons (dC (.int 0)) (dCons (d2 subD (d2 ixD (dVar 1) (dC (.int 1))) (dC (.int 1))) dNil)))))) dNil))))
theorem Bis_code_tl : Bis_code = Bis_code_0 := rfl
noncomputable def Fis_code : List PyData -> Option PyData := runD 2 Bis_code
noncomputable def Bchecked_list_2 : DSt -> Option DFlow := (dRet (dVar 1))
noncomputable def Bchecked_list_1 : DSt -> Option DFlow := dSeq (dFor (dEn (dCons (dVar 1) dNil)) (gT 2 (gC (gN 3) (gC (gN 4) gZ))) (dIf (dNotT (dTru (dCallV 2 "is_code" 2 Fis_code (dCons (dVar 0) (dCons (dVar 4) dNil))))) dNever dNext)) Bchecked_list_2
noncomputable def Bchecked_list_0 : DSt -> Option DFlow := dSeq (dIf (dOrT (dNotT (dTru (dIsi "list" (dVar 1)))) (dB (d2 gtD (dCall lenC (dCons (dVar 1) dNil)) (dC (.int 8))))) dNever dNext) Bchecked_list_1
noncomputable def Bchecked_list : DSt -> Option DFlow := (dSeq (dIf (dOrT (dNotT (dTru (dIsi "list" (dVar 1)))) (dB (d2 gtD (dCall lenC (dCons (dVar 1) dNil)) (dC (.int 8))))) dNever dNext) (dSeq (dFor (dEn (dCons (dVar 1) dNil)) (gT 2 (gC (gN 3) (gC (gN 4) gZ))) (dIf (dNotT (dTru (dCallV 2 "is_code" 2 Fis_code (dCons (dVar 0) (dCons (dVar 4) dNil))))) dNever dNext)) (dRet (dVar 1))))
theorem Bchecked_list_tl : Bchecked_list = Bchecked_list_0 := rfl
noncomputable def Fchecked_list : List PyData -> Option PyData := runD 5 Bchecked_list
noncomputable def Bchecked_guesses_0 : DSt -> Option DFlow := (dRet (dOwnCall 3 Fchecked_list (dCons (dVar 0) (dCons (dVar 1) (dCons (dC (fnD "is_code")) dNil)))))
noncomputable def Bchecked_guesses : DSt -> Option DFlow := (dRet (dOwnCall 3 Fchecked_list (dCons (dVar 0) (dCons (dVar 1) (dCons (dC (fnD "is_code")) dNil)))))
theorem Bchecked_guesses_tl : Bchecked_guesses = Bchecked_guesses_0 := rfl
noncomputable def Fchecked_guesses : List PyData -> Option PyData := runD 2 Bchecked_guesses
noncomputable def Banswer_of_4 : DSt -> Option DFlow := (dRet (dTup (dCons (dVar 2) (dCons (d2 subD (dVar 3) (dVar 2)) dNil))))
noncomputable def Banswer_of_3 : DSt -> Option DFlow := dSeq (dFor (dEn (dCons (dVar 1) dNil)) (gT 2 (gC (gN 5) (gC (gN 6) gZ))) (dSeq (dIf (dB (d2 eqD (d2 ixD (dVar 0) (dVar 5)) (dVar 6))) (dAug 2 iaddD (dC (.int 1))) dNext) (dIf (dB (dInO false 4 (dVar 6))) (dSeq (dRemove 4 (dVar 6)) (dAug 3 iaddD (dC (.int 1)))) dNext))) Banswer_of_4
noncomputable def Banswer_of_2 : DSt -> Option DFlow := dSeq (dSetO 4 (dListO (dCons (dVar 0) dNil))) Banswer_of_3
noncomputable def Banswer_of_1 : DSt -> Option DFlow := dSeq (dSet 3 (dC (.int 0))) Banswer_of_2
noncomputable def Banswer_of_0 : DSt -> Option DFlow := dSeq (dSet 2 (dC (.int 0))) Banswer_of_1
noncomputable def Banswer_of : DSt -> Option DFlow := (dSeq (dSet 2 (dC (.int 0))) (dSeq (dSet 3 (dC (.int 0))) (dSeq (dSetO 4 (dListO (dCons (dVar 0) dNil))) (dSeq (dFor (dEn (dCons (dVar 1) dNil)) (gT 2 (gC (gN 5) (gC (gN 6) gZ))) (dSeq (dIf (dB (d2 eqD (d2 ixD (dVar 0) (dVar 5)) (dVar 6))) (dAug 2 iaddD (dC (.int 1))) dNext) (dIf (dB (dInO false 4 (dVar 6))) (dSeq (dRemove 4 (dVar 6)) (dAug 3 iaddD (dC (.int 1)))) dNext))) (dRet (dTup (dCons (dVar 2) (dCons (d2 subD (dVar 3) (dVar 2)) dNil))))))))
theorem Banswer_of_tl : Banswer_of = Banswer_of_0 := rfl
noncomputable def Fanswer_of : List PyData -> Option PyData := runD 7 Banswer_of
noncomputable def Banswers_to_0 : DSt -> Option DFlow := (dRet (dCall tupC (dCons (dOwn (dCompO 1 [("code", 0)] (dIter (dVar 1)) (gN 0) dYes (dOwnCall 2 Fanswer_of (dCons (dVar 1) (dCons (dVar 0) dNil))))) dNil)))
noncomputable def Banswers_to : DSt -> Option DFlow := (dRet (dCall tupC (dCons (dOwn (dCompO 1 [("code", 0)] (dIter (dVar 1)) (gN 0) dYes (dOwnCall 2 Fanswer_of (dCons (dVar 1) (dCons (dVar 0) dNil))))) dNil)))
theorem Banswers_to_tl : Banswers_to = Banswers_to_0 := rfl
noncomputable def Fanswers_to : List PyData -> Option PyData := runD 2 Banswers_to
noncomputable def Bfirst_alike_3 : DSt -> Option DFlow := (dFrz 3 (dRet (dMinD (dCons (dVar 3) dNil))))
noncomputable def Bfirst_alike_0 : DSt -> Option DFlow := (dFirsts (dIter (dVar 0)) 4 5 2 3 (dOwnCall 2 Fanswers_to (dCons (dVar 4) (dCons (dVar 1) dNil))) Bfirst_alike_3)
noncomputable def Bfirst_alike : DSt -> Option DFlow := (dFirsts (dIter (dVar 0)) 4 5 2 3 (dOwnCall 2 Fanswers_to (dCons (dVar 4) (dCons (dVar 1) dNil))) (dFrz 3 (dRet (dMinD (dCons (dVar 3) dNil)))))
theorem Bfirst_alike_tl : Bfirst_alike = Bfirst_alike_0 := rfl
noncomputable def Ffirst_alike : List PyData -> Option PyData := runD 6 Bfirst_alike
noncomputable def Ball_codes_3 : DSt -> Option DFlow := (dRet (dVar 1))
noncomputable def Ball_codes_2 : DSt -> Option DFlow := dSeq (dFor (dRng1 (dCons (d2 ixD (dVar 0) (dC (.int 0))) dNil)) (gN 2) (dSeq (dSetO 3 (dLstO dNil)) (dSeq (dFor (dIter (dVar 1)) (gN 4) (dExtend 3 (dOwn (dCompO 1 [("code", 4)] (dRng1 (dCons (d2 ixD (dVar 0) (dC (.int 1))) dNil)) (gN 0) dYes (d2 addD (dVar 1) (dTup (dCons (dVar 0) dNil))))))) (dFrz 3 (dSet 1 (dVar 3)))))) Ball_codes_3
noncomputable def Ball_codes_1 : DSt -> Option DFlow := dSeq (dSet 1 (dOwn (dLstO (dCons (dTup dNil) dNil)))) Ball_codes_2
noncomputable def Ball_codes_0 : DSt -> Option DFlow := dSeq (dDrop (dOwnCall 1 Fchecked_game (dCons (dVar 0) dNil))) Ball_codes_1
noncomputable def Ball_codes : DSt -> Option DFlow := (dSeq (dDrop (dOwnCall 1 Fchecked_game (dCons (dVar 0) dNil))) (dSeq (dSet 1 (dOwn (dLstO (dCons (dTup dNil) dNil)))) (dSeq (dFor (dRng1 (dCons (d2 ixD (dVar 0) (dC (.int 0))) dNil)) (gN 2) (dSeq (dSetO 3 (dLstO dNil)) (dSeq (dFor (dIter (dVar 1)) (gN 4) (dExtend 3 (dOwn (dCompO 1 [("code", 4)] (dRng1 (dCons (d2 ixD (dVar 0) (dC (.int 1))) dNil)) (gN 0) dYes (d2 addD (dVar 1) (dTup (dCons (dVar 0) dNil))))))) (dFrz 3 (dSet 1 (dVar 3)))))) (dRet (dVar 1)))))
theorem Ball_codes_tl : Ball_codes = Ball_codes_0 := rfl
noncomputable def Fall_codes : List PyData -> Option PyData := runD 5 Ball_codes
noncomputable def Balike_by_2 : DSt -> Option DFlow := (dRet (dOwnCall 2 Ffirst_alike (dCons (dOwnCall 1 Fall_codes (dCons (dVar 0) dNil)) (dCons (dVar 1) dNil))))
noncomputable def Balike_by_1 : DSt -> Option DFlow := dSeq (dDrop (dOwnCall 2 Fchecked_guesses (dCons (dVar 0) (dCons (dVar 1) dNil)))) Balike_by_2
noncomputable def Balike_by_0 : DSt -> Option DFlow := dSeq (dDrop (dOwnCall 1 Fchecked_game (dCons (dVar 0) dNil))) Balike_by_1
noncomputable def Balike_by : DSt -> Option DFlow := (dSeq (dDrop (dOwnCall 1 Fchecked_game (dCons (dVar 0) dNil))) (dSeq (dDrop (dOwnCall 2 Fchecked_guesses (dCons (dVar 0) (dCons (dVar 1) dNil)))) (dRet (dOwnCall 2 Ffirst_alike (dCons (dOwnCall 1 Fall_codes (dCons (dVar 0) dNil)) (dCons (dVar 1) dNil))))))
theorem Balike_by_tl : Balike_by = Balike_by_0 := rfl
noncomputable def Falike_by : List PyData -> Option PyData := runD 2 Balike_by
noncomputable def Bsettle_all_0 : DSt -> Option DFlow := (dRet (d2 isND (dOwnCall 2 Falike_by (dCons (dVar 0) (dCons (dVar 1) dNil))) (dC .none)))
noncomputable def Bsettle_all : DSt -> Option DFlow := (dRet (d2 isND (dOwnCall 2 Falike_by (dCons (dVar 0) (dCons (dVar 1) dNil))) (dC .none)))
theorem Bsettle_all_tl : Bsettle_all = Bsettle_all_0 := rfl
noncomputable def Fsettle_all : List PyData -> Option PyData := runD 2 Bsettle_all
noncomputable def Xsmall_game_TooBig : List PyData -> Bool := runX 1 (xIf2 (dB (d2 gtD (dOwnCall 2 Fhow_many_codes (dCons (d2 ixD (dVar 0) (dC (.int 0))) (dCons (d2 ixD (dVar 0) (dC (.int 1))) dNil))) (dC (.int 16)))) (xRaise (dCons (dC (.str (PySem.Str.ofString "a game of more than 16 codes"))) dNil)) xNo)
noncomputable def Xfewest_settling_TooBig : List PyData -> Bool := runX 4 (xSeq (dDrop (dOwnCall 1 Fchecked_game (dCons (dVar 0) dNil))) (xCall 1 Xsmall_game_TooBig (dCons (dVar 0) dNil)))
noncomputable def XB_law_too_big_TooBig : DSt -> Bool := (xCall 1 Xfewest_settling_TooBig (dCons (dVar 0) dNil))
noncomputable def F_law_too_big (ds : List PyData) : Option PyData := if XB_law_too_big_TooBig (stD 2 ds) = true then some (.list [.bool true, .bool true]) else none
noncomputable def Bsmall_game : DSt -> Option DFlow := (dSeq (dIf (dB (d2 gtD (dOwnCall 2 Fhow_many_codes (dCons (d2 ixD (dVar 0) (dC (.int 0))) (dCons (d2 ixD (dVar 0) (dC (.int 1))) dNil))) (dC (.int 16)))) dNever dNext) (dRet (dVar 0)))
noncomputable def Fsmall_game : List PyData -> Option PyData := runD 1 Bsmall_game
noncomputable def Bchoices_2 : DSt -> Option DFlow := (dRet (dVar 2))
noncomputable def Bchoices_1 : DSt -> Option DFlow := dSeq (dFor (dRng1 (dCons (dVar 1) dNil)) (gN 3) (dSeq (dSetO 4 (dLstO dNil)) (dSeq (dFor (dIter (dVar 2)) (gN 5) (dSeq (dSet 6 (dIfE (dTru (dVar 5)) (d2 addD (d2 ixD (dVar 5) (dNeg (dC (.int 1)))) (dC (.int 1))) (dC (.int 0)))) (dExtend 4 (dOwn (dCompO 1 [("choice", 5)] (dRng2 (dCons (dVar 6) (dCons (dVar 0) dNil))) (gN 0) dYes (d2 addD (dVar 1) (dOwn (dLstO (dCons (dVar 0) dNil))))))))) (dFrz 4 (dSet 2 (dVar 4)))))) Bchoices_2
noncomputable def Bchoices_0 : DSt -> Option DFlow := dSeq (dSet 2 (dOwn (dLstO (dCons (dOwn (dLstO dNil)) dNil)))) Bchoices_1
noncomputable def Bchoices : DSt -> Option DFlow := (dSeq (dSet 2 (dOwn (dLstO (dCons (dOwn (dLstO dNil)) dNil)))) (dSeq (dFor (dRng1 (dCons (dVar 1) dNil)) (gN 3) (dSeq (dSetO 4 (dLstO dNil)) (dSeq (dFor (dIter (dVar 2)) (gN 5) (dSeq (dSet 6 (dIfE (dTru (dVar 5)) (d2 addD (d2 ixD (dVar 5) (dNeg (dC (.int 1)))) (dC (.int 1))) (dC (.int 0)))) (dExtend 4 (dOwn (dCompO 1 [("choice", 5)] (dRng2 (dCons (dVar 6) (dCons (dVar 0) dNil))) (gN 0) dYes (d2 addD (dVar 1) (dOwn (dLstO (dCons (dVar 0) dNil))))))))) (dFrz 4 (dSet 2 (dVar 4)))))) (dRet (dVar 2))))
theorem Bchoices_tl : Bchoices = Bchoices_0 := rfl
noncomputable def Fchoices : List PyData -> Option PyData := runD 7 Bchoices
noncomputable def Bfirst_settling_1 : DSt -> Option DFlow := (dRet (dC .none))
noncomputable def Bfirst_settling_0 : DSt -> Option DFlow := dSeq (dFor (dIter (dOwnCall 2 Fchoices (dCons (dCall lenC (dCons (dVar 0) dNil)) (dCons (dVar 1) dNil)))) (gN 2) (dSeq (dSet 3 (dOwn (dCompO 1 [("codes", 0)] (dIter (dVar 2)) (gN 0) dYes (d2 ixD (dVar 1) (dVar 0))))) (dIf (dB (d2 isND (dOwnCall 2 Ffirst_alike (dCons (dVar 0) (dCons (dVar 3) dNil))) (dC .none))) (dRet (dVar 3)) dNext))) Bfirst_settling_1
noncomputable def Bfirst_settling : DSt -> Option DFlow := (dSeq (dFor (dIter (dOwnCall 2 Fchoices (dCons (dCall lenC (dCons (dVar 0) dNil)) (dCons (dVar 1) dNil)))) (gN 2) (dSeq (dSet 3 (dOwn (dCompO 1 [("codes", 0)] (dIter (dVar 2)) (gN 0) dYes (d2 ixD (dVar 1) (dVar 0))))) (dIf (dB (d2 isND (dOwnCall 2 Ffirst_alike (dCons (dVar 0) (dCons (dVar 3) dNil))) (dC .none))) (dRet (dVar 3)) dNext))) (dRet (dC .none)))
theorem Bfirst_settling_tl : Bfirst_settling = Bfirst_settling_0 := rfl
noncomputable def Ffirst_settling : List PyData -> Option PyData := runD 4 Bfirst_settling
noncomputable def Bfewest_settling_6 : DSt -> Option DFlow := (dRet (dVar 3))
noncomputable def Bfewest_settling_5 : DSt -> Option DFlow := dSeq (whileD (dB (d2 isND (dVar 3) (dC .none))) (dSeq (dAug 2 iaddD (dC (.int 1))) (dSet 3 (dOwnCall 2 Ffirst_settling (dCons (dVar 1) (dCons (dVar 2) dNil))))) 100) Bfewest_settling_6
noncomputable def Bfewest_settling_4 : DSt -> Option DFlow := dSeq (dSet 3 (dOwnCall 2 Ffirst_settling (dCons (dVar 1) (dCons (dVar 2) dNil)))) Bfewest_settling_5
noncomputable def Bfewest_settling_3 : DSt -> Option DFlow := dSeq (dSet 2 (dC (.int 0))) Bfewest_settling_4
noncomputable def Bfewest_settling_2 : DSt -> Option DFlow := dSeq (dSet 1 (dOwnCall 1 Fall_codes (dCons (dVar 0) dNil))) Bfewest_settling_3
noncomputable def Bfewest_settling_1 : DSt -> Option DFlow := dSeq (dDrop (dOwnCall 1 Fsmall_game (dCons (dVar 0) dNil))) Bfewest_settling_2
noncomputable def Bfewest_settling_0 : DSt -> Option DFlow := dSeq (dDrop (dOwnCall 1 Fchecked_game (dCons (dVar 0) dNil))) Bfewest_settling_1
noncomputable def Bfewest_settling : DSt -> Option DFlow := (dSeq (dDrop (dOwnCall 1 Fchecked_game (dCons (dVar 0) dNil))) (dSeq (dDrop (dOwnCall 1 Fsmall_game (dCons (dVar 0) dNil))) (dSeq (dSet 1 (dOwnCall 1 Fall_codes (dCons (dVar 0) dNil))) (dSeq (dSet 2 (dC (.int 0))) (dSeq (dSet 3 (dOwnCall 2 Ffirst_settling (dCons (dVar 1) (dCons (dVar 2) dNil)))) (dSeq (whileD (dB (d2 isND (dVar 3) (dC .none))) (dSeq (dAug 2 iaddD (dC (.int 1))) (dSet 3 (dOwnCall 2 Ffirst_settling (dCons (dVar 1) (dCons (dVar 2) dNil))))) 100) (dRet (dVar 3))))))))
theorem Bfewest_settling_tl : Bfewest_settling = Bfewest_settling_0 := rfl
noncomputable def Ffewest_settling : List PyData -> Option PyData := runD 4 Bfewest_settling
noncomputable def Blaw_13 : DSt -> Option DFlow := (dRet (d2 eqD (dVar 5) (d2 ixD (dVar 10) (dC (.int 0)))))
noncomputable def Blaw_12 : DSt -> Option DFlow := dSeq (dIf (dB (d2 eqD (dVar 10) (dOwn (dLstO dNil)))) (dRet (d2 gtD (dCall lenC (dCons (dVar 5) dNil)) (dC (.int 2)))) dNext) Blaw_13
noncomputable def Blaw_11 : DSt -> Option DFlow := dSeq (dSet 10 (dOwn (dCompO 1 [("_law_game", 1)] (dIter (dVar 7)) (gN 0) (dB (d2 isND (dOwnCall 2 F_law_alike (dCons (dVar 1) (dCons (dVar 0) dNil))) (dC .none))) (dVar 0)))) Blaw_12
noncomputable def Blaw_10 : DSt -> Option DFlow := dSeq (dFor (dEn (dCons (dVar 6) dNil)) (gT 2 (gC (gN 8) (gC (gN 9) gZ))) (dSet 7 (d2 addD (dVar 7) (dOwn (dCompO 1 [("_law_one", 9)] (dIter (dSl (dVar 6) (dPart (d2 addD (dVar 8) (dC (.int 1)))) dNoPart)) (gN 0) dYes (dOwn (dLstO (dCons (dVar 1) (dCons (dVar 0) dNil))))))))) Blaw_11
noncomputable def Blaw_9 : DSt -> Option DFlow := dSeq (dSet 7 (d2 addD (dOwn (dLstO (dCons (dOwn (dLstO dNil)) dNil))) (dOwn (dCompO 1 [] (dIter (dVar 6)) (gN 0) dYes (dOwn (dLstO (dCons (dVar 0) dNil))))))) Blaw_10
noncomputable def Blaw_8 : DSt -> Option DFlow := dSeq (dSet 6 (dOwnCall 1 F_law_codes (dCons (dVar 1) dNil))) Blaw_9
noncomputable def Blaw_7 : DSt -> Option DFlow := dSeq (dIf (dOrT (dNotT (dTru (dIsi "list" (dVar 5)))) (dOrT (dB (d2 neD (dVar 5) (dSortS (dCons (dVar 5) dNil)))) (dB (d2 notND (dOwnCall 2 F_law_alike (dCons (dVar 1) (dCons (dVar 5) dNil))) (dC .none))))) (dRet (dC (.bool false))) dNext) Blaw_8
noncomputable def Blaw_6 : DSt -> Option DFlow := dSeq (dSet 5 (dOwnCall 1 Ffewest_settling (dCons (dVar 1) dNil))) Blaw_7
noncomputable def Blaw_5 : DSt -> Option DFlow := dSeq (dIf (dB (d2 eqD (d2 modD (d2 fdivD (dOwnCall 2 F_law_cell (dCons (dVar 0) (dCons (dC (.int 1)) dNil))) (dC (.int 4))) (dC (.int 3))) (dC (.int 1)))) (dRet (d2 eqD (dOwnCall 1 F_law_too_big (dCons (d2 ixD (dOwn (dLstO (dLits [.tuple [.int 3, .int 3], .tuple [.int 2, .int 5], .tuple [.int 5, .int 2], .tuple [.int 3, .int 4]]))) (d2 modD (dOwnCall 2 F_law_cell (dCons (dVar 0) (dCons (dC (.int 2)) dNil))) (dC (.int 4)))) dNil)) (dOwn (dLstO (dCons (dC (.bool true)) (dCons (dC (.bool true)) dNil)))))) dNext) Blaw_6
noncomputable def Blaw_4 : DSt -> Option DFlow := dSeq (dIf (dOrT (dB (d2 neD (dOwnCall 2 Falike_by (dCons (dVar 1) (dCons (dVar 2) dNil))) (dVar 3))) (dOrT (dNotT (dTru (dIsi "bool" (dVar 4)))) (dB (d2 neD (dVar 4) (d2 isND (dVar 3) (dC .none)))))) (dRet (dC (.bool false))) dNext) Blaw_5
noncomputable def Blaw_3 : DSt -> Option DFlow := dSeq (dSet 4 (dOwnCall 2 Fsettle_all (dCons (dVar 1) (dCons (dVar 2) dNil)))) Blaw_4
noncomputable def Blaw_2 : DSt -> Option DFlow := dSeq (dSet 3 (dOwnCall 2 F_law_alike (dCons (dVar 1) (dCons (dVar 2) dNil)))) Blaw_3
noncomputable def Blaw_1 : DSt -> Option DFlow := dSeq (dSet 2 (dOwn (dCompO 1 [("_law_game", 1), ("_law_script", 0)] (dRng1 (dCons (d2 modD (dOwnCall 2 F_law_cell (dCons (dVar 0) (dCons (dC (.int 1)) dNil))) (dC (.int 4))) dNil)) (gN 0) dYes (dOwnCall 2 F_law_code (dCons (dVar 1) (dCons (d2 addD (dOwnCall 2 F_law_cell (dCons (dVar 2) (dCons (d2 addD (dC (.int 2)) (dVar 0)) dNil))) (d2 mulI (d2 mulI (dC (.int 17)) (dVar 0)) (dVar 0))) dNil)))))) Blaw_2
noncomputable def Blaw_0 : DSt -> Option DFlow := dSeq (dSet 1 (dOwnCall 2 F_law_small (dCons (dVar 0) (dCons (dC (.int 0)) dNil)))) Blaw_1
noncomputable def Blaw : DSt -> Option DFlow := (dSeq (dSet 1 (dOwnCall 2 F_law_small (dCons (dVar 0) (dCons (dC (.int 0)) dNil)))) (dSeq (dSet 2 (dOwn (dCompO 1 [("_law_game", 1), ("_law_script", 0)] (dRng1 (dCons (d2 modD (dOwnCall 2 F_law_cell (dCons (dVar 0) (dCons (dC (.int 1)) dNil))) (dC (.int 4))) dNil)) (gN 0) dYes (dOwnCall 2 F_law_code (dCons (dVar 1) (dCons (d2 addD (dOwnCall 2 F_law_cell (dCons (dVar 2) (dCons (d2 addD (dC (.int 2)) (dVar 0)) dNil))) (d2 mulI (d2 mulI (dC (.int 17)) (dVar 0)) (dVar 0))) dNil)))))) (dSeq (dSet 3 (dOwnCall 2 F_law_alike (dCons (dVar 1) (dCons (dVar 2) dNil)))) (dSeq (dSet 4 (dOwnCall 2 Fsettle_all (dCons (dVar 1) (dCons (dVar 2) dNil)))) (dSeq (dIf (dOrT (dB (d2 neD (dOwnCall 2 Falike_by (dCons (dVar 1) (dCons (dVar 2) dNil))) (dVar 3))) (dOrT (dNotT (dTru (dIsi "bool" (dVar 4)))) (dB (d2 neD (dVar 4) (d2 isND (dVar 3) (dC .none)))))) (dRet (dC (.bool false))) dNext) (dSeq (dIf (dB (d2 eqD (d2 modD (d2 fdivD (dOwnCall 2 F_law_cell (dCons (dVar 0) (dCons (dC (.int 1)) dNil))) (dC (.int 4))) (dC (.int 3))) (dC (.int 1)))) (dRet (d2 eqD (dOwnCall 1 F_law_too_big (dCons (d2 ixD (dOwn (dLstO (dLits [.tuple [.int 3, .int 3], .tuple [.int 2, .int 5], .tuple [.int 5, .int 2], .tuple [.int 3, .int 4]]))) (d2 modD (dOwnCall 2 F_law_cell (dCons (dVar 0) (dCons (dC (.int 2)) dNil))) (dC (.int 4)))) dNil)) (dOwn (dLstO (dCons (dC (.bool true)) (dCons (dC (.bool true)) dNil)))))) dNext) (dSeq (dSet 5 (dOwnCall 1 Ffewest_settling (dCons (dVar 1) dNil))) (dSeq (dIf (dOrT (dNotT (dTru (dIsi "list" (dVar 5)))) (dOrT (dB (d2 neD (dVar 5) (dSortS (dCons (dVar 5) dNil)))) (dB (d2 notND (dOwnCall 2 F_law_alike (dCons (dVar 1) (dCons (dVar 5) dNil))) (dC .none))))) (dRet (dC (.bool false))) dNext) (dSeq (dSet 6 (dOwnCall 1 F_law_codes (dCons (dVar 1) dNil))) (dSeq (dSet 7 (d2 addD (dOwn (dLstO (dCons (dOwn (dLstO dNil)) dNil))) (dOwn (dCompO 1 [] (dIter (dVar 6)) (gN 0) dYes (dOwn (dLstO (dCons (dVar 0) dNil))))))) (dSeq (dFor (dEn (dCons (dVar 6) dNil)) (gT 2 (gC (gN 8) (gC (gN 9) gZ))) (dSet 7 (d2 addD (dVar 7) (dOwn (dCompO 1 [("_law_one", 9)] (dIter (dSl (dVar 6) (dPart (d2 addD (dVar 8) (dC (.int 1)))) dNoPart)) (gN 0) dYes (dOwn (dLstO (dCons (dVar 1) (dCons (dVar 0) dNil))))))))) (dSeq (dSet 10 (dOwn (dCompO 1 [("_law_game", 1)] (dIter (dVar 7)) (gN 0) (dB (d2 isND (dOwnCall 2 F_law_alike (dCons (dVar 1) (dCons (dVar 0) dNil))) (dC .none))) (dVar 0)))) (dSeq (dIf (dB (d2 eqD (dVar 10) (dOwn (dLstO dNil)))) (dRet (d2 gtD (dCall lenC (dCons (dVar 5) dNil)) (dC (.int 2)))) dNext) (dRet (d2 eqD (dVar 5) (d2 ixD (dVar 10) (dC (.int 0))))))))))))))))))
theorem Blaw_tl : Blaw = Blaw_0 := rfl
noncomputable def Flaw : List PyData -> Option PyData := runD 11 Blaw
noncomputable def games : List (Int × Int) := [(2, 3), (3, 2), (2, 4), (4, 2), (1, 5), (2, 2), (1, 3), (3, 3), (2, 5)]
theorem games_or {p c : Int} (h : (p, c) ∈ games) : (p = 2 /\ c = 3) \/ (p = 3 /\ c = 2) \/ (p = 2 /\ c = 4) \/ (p = 4 /\ c = 2) \/ (p = 1 /\ c = 5) \/ (p = 2 /\ c = 2) \/ (p = 1 /\ c = 3) \/ (p = 3 /\ c = 3) \/ (p = 2 /\ c = 5) := by
 simpa [games] using h
theorem games_b {p c : Int} (h : (p, c) ∈ games) : 1 <= p /\ p <= 4 /\ 2 <= c /\ c <= 5 := by
 rcases games_or h with ⟨rfl, rfl⟩ | ⟨rfl, rfl⟩ | ⟨rfl, rfl⟩ | ⟨rfl, rfl⟩ | ⟨rfl, rfl⟩ | ⟨rfl, rfl⟩ | ⟨rfl, rfl⟩ | ⟨rfl, rfl⟩ | ⟨rfl, rfl⟩ <;> decide
noncomputable def mixI (x p m : Int) : Int := x * 48271 % p % m
theorem cMul_right (x : Int) {y : Int} (h : -1000000000000 <= y /\ y <= 1000000000000) : cMul x y = true := by
 unfold cMul
 rw [decide_eq_true h.1, decide_eq_true h.2]
 simp
theorem cMul_left {x : Int} (y : Int) (h : -1000000000000 <= x /\ x <= 1000000000000) : cMul x y = true := by
 unfold cMul
 rw [decide_eq_true h.1, decide_eq_true h.2]
 simp
theorem mix_ok (x : Int) {p m : Int} (hp : 0 < p) (hm : 0 < m) : F_law_mix [.int x, .int p, .int m] = some (.int (mixI x p m)) := by
 have c1 : cMul x 48271 = true := cMul_right x (by omega)
 have c2 : cMod (x * 48271) p = true := decide_eq_true hp
 have c3 : cMod (x * 48271 % p) m = true := decide_eq_true hm
 simp only [F_law_mix, B_law_mix_tl, B_law_mix_0, runD, stD, dRet, dVar, dC, d2, resOf, mul_ii, mod_ii, zI, zL, zC, zH, Q7, zA, zB, List.replicate, zD, zG, Nat.reduceAdd, Nat.reduceSub, ↓reduceIte, c1, c2, c3, mixI]
theorem mixI_b (x : Int) {p m : Int} (hm : 0 < m) : 0 <= mixI x p m /\ mixI x p m < m := ⟨Int.emod_nonneg _ (by omega), Int.emod_lt_of_pos _ hm⟩
noncomputable def cellI (ns : List Int) (k : Nat) : Int := ns.getD k 0
theorem cell_ok (ns : List Int) (k : Nat) : F_law_cell [scr ns, .int (k : Nat)] = some (.int (cellI ns k)) := by
 by_cases h : k < ns.length
 · have d : decide ((k : Int) < (ns.length : Nat)) = true := decide_eq_true (by omega)
   simp only [F_law_cell, B_law_cell_tl, B_law_cell_0, B_law_cell_1, runD, stD, dSeq, dIf, dRet, dVar, dC, d2, dCall, dNil, dCons, dB, dNext, resOf, lenC, lt_ii, zI, zL, zC, zH, Q7, zA, zB, List.replicate, zD, zG, Nat.reduceAdd, Nat.reduceSub, ↓reduceIte, lenD_scr, d, ixD_scr, atI_nat' h, cellI]
   rw [gDq, gEq h]
   rfl
 · have d : decide ((k : Int) < (ns.length : Nat)) = false := decide_eq_false (by omega)
   simp only [F_law_cell, B_law_cell_tl, B_law_cell_0, B_law_cell_1, runD, stD, dSeq, dIf, dRet, dVar, dC, d2, dCall, dNil, dCons, dB, dNext, resOf, lenC, lt_ii, zI, zL, zC, zH, Q7, zA, zB, List.replicate, zD, zG, Nat.reduceAdd, Nat.reduceSub, ↓reduceIte, zN, lenD_scr, d, cellI]
   rw [gDq, List.getElem?_eq_none (by omega)]
   rfl
theorem lit_le (n : Nat) (h : n <= 1000 := by decide) : n <= LIM := Q9 h (by decide)
structure Code (p c : Int) (a : List Int) : Prop where
 len : (a.length : Int) = p
 all : ∀ n ∈ a, 0 <= n /\ n <= c - 1
noncomputable def codeI (p c x : Int) : List Int := (List.range p.toNat).map λ i : Nat => mixI (x + 31 * (i : Int) * (i : Int) + 7 * (i : Int)) 9967 c
theorem codeI_code {p c : Int} (h : (p, c) ∈ games) (x : Int) : Code p c (codeI p c x) := by
 have b := games_b h
 refine ⟨by simp [codeI]; omega, λ n hn => ?_⟩
 obtain ⟨i, _, rfl⟩ := Q11.mp hn
 have := mixI_b (x + 31 * (i : Int) * (i : Int) + 7 * (i : Int)) (p := 9967) (m := c) (by omega)
 omega
theorem code_ok {p c : Int} (h : (p, c) ∈ games) (x : Int) : F_law_code [tupI [p, c], .int x] = some (tupI (codeI p c x)) := by
 have b := games_b h
 have m9 : ∀ y, F_law_mix [.int y, .int 9967, .int c] = some (.int (mixI y 9967 c)) := λ y => mix_ok y (by decide) (by omega)
 have sm : smallI p = true := by
  unfold smallI
  rw [decide_eq_true (show -1000000000 <= p by omega), decide_eq_true (show p <= 1000000000 by omega)]; rfl
 have len : ((List.range p.toNat).map λ k : Nat => PyData.int (0 + (k : Int))).length = p.toNat := by simp
 have i0 : ixD (.tuple [.int p, .int c]) (.int 0) = some (.int p) := rfl
 have i1 : ixD (.tuple [.int p, .int c]) (.int 1) = some (.int c) := rfl
 obtain ⟨δ', e1, v, e2⟩ := loopD_of (fg := (gN 3)) (fb := (dAppend 2 (dOwnCall 3 F_law_mix (dCons (d2 addD (d2 addD (dVar 1) (d2 mulI (d2 mulI (dC (.int 31)) (dVar 3)) (dVar 3))) (d2 mulI (dC (.int 7)) (dVar 3))) (dCons (dC (.int 9967)) (dCons (d2 ixD (dVar 0) (dC (.int 1))) dNil))))))
  (ds := rangeD 0 p.toNat) (δ := [some (.fz (.tuple [.int p, .int c])), some (.fz (.int x)), some (.ow []), none])
  (λ i δ => ∃ v, δ = [some (.fz (.tuple [.int p, .int c])), some (.fz (.int x)), some (.ow (((List.range i).map λ i : Nat => mixI (x + 31 * (i : Int) * (i : Int) + 7 * (i : Int)) 9967 c).map PyData.int)), v]) ⟨none, rfl⟩ (by
   rintro i hi δ ⟨v, rfl⟩
   have hi' : i < p.toNat := by simpa [rangeD] using hi
   have ei : (rangeD 0 p.toNat)[i] = .int (i : Nat) := by simp [rangeD]
   have q1 : cMul 31 (i : Int) = true := cMul_left _ (by omega)
   have q2 : cMul (31 * (i : Int)) (i : Int) = true := cMul_right _ (by omega)
   have q3 : cMul 7 (i : Int) = true := cMul_left _ (by omega)
   have q4 : (((List.range i).map λ i : Nat => mixI (x + 31 * (i : Int) * (i : Int) + 7 * (i : Int)) 9967 c).map PyData.int).length < LIM := by
    rw [zJ, zJ, List.length_range]
    exact nLl (show i < 1000 by omega) (by decide)
   refine ⟨_, [some (.fz (.tuple [.int p, .int c])), some (.fz (.int x)), some (.ow (((List.range (i + 1)).map λ i : Nat => mixI (x + 31 * (i : Int) * (i : Int) + 7 * (i : Int)) 9967 c).map PyData.int)), some (.fz (.int (i : Nat)))], rfl, ?_, _, rfl⟩
   rw [ei]
   simp only [dAppend, dVar, dC, d2, dOwnCall, dNil, dCons, mul_ii, add_ii, zC, zH, zA, zB, zE, zF, zD, Nat.reduceAdd, ↓reduceIte, q1, q2, q3, q4, i1, m9]
   rw [List.range_succ, Q13, Q13]
   rfl)
 have len2 : (rangeD 0 p.toNat).length = p.toNat := by simp [rangeD]
 rw [len2] at e2
 subst e2
 have z : (0 : Nat) <= LIM := zU _
 simp only [F_law_code, B_law_code_tl, B_law_code_0, B_law_code_1, B_law_code_2, tupI, runD, stD, dSeq, dSetO, dRet, dFrz, dFor, dVar, dC, d2, dCall, dNil, dCons, dLstO, dRng1, DL.frz, resOf, tupC, zI, zL, zC, zH, Q3, Q4, zA, zB, zE, zF, List.replicate, zD, zG, Nat.reduceAdd, Nat.reduceSub, ↓reduceIte, z, i0, sm, e1]
 rfl
theorem intE (b : List Int) {i : Nat} (h : i < b.length) : (b.map PyData.int)[i]? = some (.int b[i]) := by rw [zK, gEq h]; rfl
theorem ixE (a : List Int) {i : Nat} (h : i < a.length) : ixD (.tuple (a.map PyData.int)) (.int (i : Nat)) = some (.int a[i]) := by
 show atI (a.map PyData.int) (i : Int) = _
 rw [atI_map, atI_nat' h]; rfl
theorem answer_of_ok {a b : List Int} (l : a.length = b.length) (lim : a.length <= 100) : Fanswer_of [tupI a, tupI b] = some (tupI (GC.ans a b)) := by
 obtain ⟨δ', e1, v1, v2, e2⟩ := loopD_of (fg := (gT 2 (gC (gN 5) (gC (gN 6) gZ)))) (fb := (dSeq (dIf (dB (d2 eqD (d2 ixD (dVar 0) (dVar 5)) (dVar 6))) (dAug 2 iaddD (dC (.int 1))) dNext) (dIf (dB (dInO false 4 (dVar 6))) (dSeq (dRemove 4 (dVar 6)) (dAug 3 iaddD (dC (.int 1)))) dNext))) (ds := enumD (b.map PyData.int))
  (δ := [some (.fz (.tuple (a.map PyData.int))), some (.fz (.tuple (b.map PyData.int))), some (.fz (.int 0)), some (.fz (.int 0)), some (.ow (a.map PyData.int)), none, none])
  (λ i δ => ∃ v1 v2, δ = [some (.fz (.tuple (a.map PyData.int))), some (.fz (.tuple (b.map PyData.int))), some (.fz (.int (GC.rgt (a.take i) (b.take i) : Nat))), some (.fz (.int (GC.inter a (b.take i) : Nat))), some (.ow ((GC.left a (b.take i)).map PyData.int)), v1, v2]) ⟨none, none, rfl⟩ (by
   rintro i hi δ ⟨v1, v2, rfl⟩
   have hi' : i < b.length := by simpa [enumD] using hi
   have hia : i < a.length := by omega
   have ed : (enumD (b.map PyData.int))[i] = .tuple [.int (i : Nat), .int b[i]] := by
    have := gEq hi
    obtain ⟨e, h1, h2⟩ := enumD_get this
    rw [intE b hi'] at h1
    cases h1
    exact h2
   have et : (a.take i).length = (b.take i).length := by rw [Q1a, Q1a]; omega
   have er : GC.rgt (a.take (i + 1)) (b.take (i + 1)) = GC.rgt (a.take i) (b.take i) + if a[i] = b[i] then 1 else 0 := by rw [GC.take_snoc hia, GC.take_snoc hi', GC.rgt_snoc _ _ _ _ et]
   have ei : GC.inter a (b.take (i + 1)) = GC.inter a (b.take i) + if b[i] ∈ GC.left a (b.take i) then 1 else 0 := by rw [GC.take_snoc hi', GC.inter_snoc]
   have eL : GC.left a (b.take (i + 1)) = if b[i] ∈ GC.left a (b.take i) then (GC.left a (b.take i)).erase b[i] else GC.left a (b.take i) := by rw [GC.take_snoc hi', GC.left_snoc]
   rw [ed]
   refine ⟨_, _, rfl, ?_, some (.fz (.int (i : Nat))), some (.fz (.int b[i])), rfl⟩
   rw [er, ei, eL]
   by_cases c1 : a[i] = b[i] <;> by_cases c2 : b[i] ∈ GC.left a (b.take i)
   · simp only [dSeq, dIf, dAug, dRemove, dVar, dC, d2, dB, dNext, dInO, iadd_ii, zA, zB, zE, zF, zD, zG, ↓reduceIte, zN, ixE a hia, eqD_int, intsD_map, if_pos c1, if_pos c2, decide_eq_true c1, decide_eq_true c2]
     rfl
   · simp only [dSeq, dIf, dAug, dRemove, dVar, dC, d2, dB, dNext, dInO, iadd_ii, zA, zB, zE, zF, zD, Option.bind_none, zG, ↓reduceIte, zN, ixE a hia, eqD_int, intsD_map, if_pos c1, if_neg c2, decide_eq_true c1, decide_eq_false c2]
     rfl
   · simp only [dSeq, dIf, dAug, dRemove, dVar, dC, d2, dB, dNext, dInO, iadd_ii, zA, zB, zE, zF, zD, zG, ↓reduceIte, zN, ixE a hia, eqD_int, intsD_map, if_neg c1, if_pos c2, decide_eq_false c1, decide_eq_true c2]
     rfl
   · simp only [dSeq, dIf, dAug, dRemove, dVar, dC, d2, dB, dNext, dInO, iadd_ii, zA, zB, zE, zF, zD, Option.bind_none, zG, ↓reduceIte, zN, ixE a hia, eqD_int, intsD_map, if_neg c1, if_neg c2, decide_eq_false c1, decide_eq_false c2]
     rfl)
 have len2 : (enumD (b.map PyData.int)).length = b.length := by simp [enumD]
 have e0 : a.take b.length = a := by rw [<- l, Q19]
 rw [len2, Q19, e0] at e2
 subst e2
 have z : (2 : Nat) <= LIM := lit_le 2
 simp only [Fanswer_of, Banswer_of_tl, Banswer_of_0, Banswer_of_1, Banswer_of_2, Banswer_of_3, Banswer_of_4, tupI, runD, stD, dSeq, dSet, dSetO, dRet, dFor, dVar, dC, d2, dNil, dCons, dTup, seqD, dEn, resOf, dListO, sub_ii, zI, zL, zC, zH, Q3, Q4, zA, zB, zE, zF, List.replicate, zD, zG, Nat.reduceAdd, Nat.reduceSub, ↓reduceIte, z, e1]
 rfl
theorem law_answer_ok {a b : List Int} (l : a.length = b.length) (lim : a.length <= 100) : F_law_answer [tupI a, tupI b] = some (tupI (GC.lawAns a b)) := by
 obtain ⟨δ1, e1, v1, v2, e2⟩ := loopD_of (fg := (gT 2 (gC (gN 5) (gC (gN 6) gZ)))) (fb := (dIf (dB (d2 eqD (dVar 5) (dVar 6))) (dSet 2 (d2 addD (dVar 2) (dC (.int 1)))) (dSeq (dAppend 3 (dVar 5)) (dAppend 4 (dVar 6))))) (ds := zipD (a.map PyData.int) (b.map PyData.int))
  (δ := [some (.fz (.tuple (a.map PyData.int))), some (.fz (.tuple (b.map PyData.int))), some (.fz (.int 0)), some (.ow []), some (.ow []), none, none, none, none])
  (λ i δ => ∃ v1 v2, δ = [some (.fz (.tuple (a.map PyData.int))), some (.fz (.tuple (b.map PyData.int))), some (.fz (.int (GC.rgt (a.take i) (b.take i) : Nat))), some (.ow ((GC.mine (a.take i) (b.take i)).map PyData.int)), some (.ow ((GC.thrs (a.take i) (b.take i)).map PyData.int)), v1, v2, none, none]) ⟨none, none, rfl⟩ (by
   rintro i hi δ ⟨v1, v2, rfl⟩
   have hi' : i < b.length := by simpa [zipD, l] using hi
   have hia : i < a.length := by omega
   have ed : (zipD (a.map PyData.int) (b.map PyData.int))[i] = .tuple [.int a[i], .int b[i]] := by
    have := gEq hi
    obtain ⟨x, y, h1, h2, h3⟩ := zipD_get this
    rw [intE a hia] at h1
    rw [intE b hi'] at h2
    cases h1
    cases h2
    exact h3
   have et : (a.take i).length = (b.take i).length := by rw [Q1a, Q1a]; omega
   have er : GC.rgt (a.take (i + 1)) (b.take (i + 1)) = GC.rgt (a.take i) (b.take i) + if a[i] = b[i] then 1 else 0 := by rw [GC.take_snoc hia, GC.take_snoc hi', GC.rgt_snoc _ _ _ _ et]
   have em : GC.mine (a.take (i + 1)) (b.take (i + 1)) = GC.mine (a.take i) (b.take i) ++ if a[i] = b[i] then [] else [a[i]] := by rw [GC.take_snoc hia, GC.take_snoc hi', GC.mine_snoc _ _ _ _ et]
   have eT : GC.thrs (a.take (i + 1)) (b.take (i + 1)) = GC.thrs (a.take i) (b.take i) ++ if a[i] = b[i] then [] else [b[i]] := by rw [GC.take_snoc hia, GC.take_snoc hi', GC.thrs_snoc _ _ _ _ et]
   have ml := GC.mine_len (a.take i) (b.take i) et
   have tl := GC.thrs_len (a.take i) (b.take i) et
   have al : (a.take i).length <= 100 := by rw [Q1a]; omega
   have q1 : ((GC.mine (a.take i) (b.take i)).map PyData.int).length < LIM := by rw [zJ]; exact nLl (show _ < 1000 by omega) (by decide)
   have q2 : ((GC.thrs (a.take i) (b.take i)).map PyData.int).length < LIM := by rw [zJ]; exact nLl (show _ < 1000 by omega) (by decide)
   rw [ed]
   refine ⟨_, _, rfl, ?_, some (.fz (.int a[i])), some (.fz (.int b[i])), rfl⟩
   rw [er, em, eT]
   by_cases c1 : a[i] = b[i]
   · simp only [dSeq, dIf, dSet, dAppend, dVar, dC, d2, dB, add_ii, Q7, zA, zB, zE, zF, zD, zG, ↓reduceIte, eqD_int, if_pos c1, decide_eq_true c1]
     rfl
   · simp only [dSeq, dIf, dSet, dAppend, dVar, dC, d2, dB, add_ii, zA, zB, zE, zF, zD, zG, ↓reduceIte, zN, eqD_int, if_neg c1, decide_eq_false c1, q1, q2]
     rw [Q13, Q13]
     rfl)
 have len2 : (zipD (a.map PyData.int) (b.map PyData.int)).length = b.length := by simp [zipD, l]
 have e0 : a.take b.length = a := by rw [<- l, Q19]
 rw [len2, Q19, e0] at e2
 subst e2
 obtain ⟨δ2, f1, w1, f2⟩ := loopD_of (fg := (gN 8)) (fb := (dIf (dB (dInO false 4 (dVar 8))) (dSeq (dRemove 4 (dVar 8)) (dSet 7 (d2 addD (dVar 7) (dC (.int 1))))) dNext)) (ds := (GC.mine a b).map PyData.int)
  (δ := [some (.fz (.tuple (a.map PyData.int))), some (.fz (.tuple (b.map PyData.int))), some (.fz (.int (GC.rgt a b : Nat))), some (.fz (.list ((GC.mine a b).map PyData.int))), some (.ow ((GC.thrs a b).map PyData.int)), v1, v2, some (.fz (.int 0)), none])
  (λ i δ => ∃ w1, δ = [some (.fz (.tuple (a.map PyData.int))), some (.fz (.tuple (b.map PyData.int))), some (.fz (.int (GC.rgt a b : Nat))), some (.fz (.list ((GC.mine a b).map PyData.int))), some (.ow ((GC.left (GC.thrs a b) ((GC.mine a b).take i)).map PyData.int)), v1, v2, some (.fz (.int (GC.inter (GC.thrs a b) ((GC.mine a b).take i) : Nat))), w1]) ⟨none, rfl⟩ (by
   rintro i hi δ ⟨w1, rfl⟩
   have hi' : i < (GC.mine a b).length := by simpa using hi
   have ei : GC.inter (GC.thrs a b) ((GC.mine a b).take (i + 1)) = GC.inter (GC.thrs a b) ((GC.mine a b).take i) + if (GC.mine a b)[i] ∈ GC.left (GC.thrs a b) ((GC.mine a b).take i) then 1 else 0 := by rw [GC.take_snoc hi', GC.inter_snoc]
   have eL : GC.left (GC.thrs a b) ((GC.mine a b).take (i + 1)) = if (GC.mine a b)[i] ∈ GC.left (GC.thrs a b) ((GC.mine a b).take i) then (GC.left (GC.thrs a b) ((GC.mine a b).take i)).erase (GC.mine a b)[i] else GC.left (GC.thrs a b) ((GC.mine a b).take i) := by rw [GC.take_snoc hi', GC.left_snoc]
   have ed : ((GC.mine a b).map PyData.int)[i] = .int (GC.mine a b)[i] := by simp
   rw [ed]
   refine ⟨_, _, rfl, ?_, some (.fz (.int (GC.mine a b)[i])), rfl⟩
   rw [ei, eL]
   by_cases c2 : (GC.mine a b)[i] ∈ GC.left (GC.thrs a b) ((GC.mine a b).take i)
   · simp only [dSeq, dIf, dSet, dRemove, dVar, dC, d2, dB, dNext, dInO, add_ii, zA, zB, zE, zF, zD, zG, ↓reduceIte, zN, intsD_map, if_pos c2, decide_eq_true c2]
     rfl
   · simp only [dSeq, dIf, dSet, dRemove, dVar, dC, d2, dB, dNext, dInO, zA, zB, zE, zF, zD, Option.bind_none, ↓reduceIte, zN, intsD_map, if_neg c2, decide_eq_false c2]
     rfl)
 rw [zJ, Q19] at f2
 subst f2
 have z : (2 : Nat) <= LIM := lit_le 2
 have z0 : (0 : Nat) <= LIM := zU _
 have hl : (a.map PyData.int).length = (b.map PyData.int).length := by simp [l]
 simp only [F_law_answer, B_law_answer_tl, B_law_answer_0, B_law_answer_1, B_law_answer_2, B_law_answer_3, B_law_answer_4, B_law_answer_5, B_law_answer_6, tupI, runD, stD, dSeq, dSet, dSetO, dRet, dFrz, dFor, dVar, dC, dNil, dCons, dTup, dLstO, dIter, seqD, dZip, DL.frz, resOf, zI, zL, zC, zH, Q3, Q4, zA, zB, zE, zF, List.replicate, zD, zG, Nat.reduceAdd, Nat.reduceSub, ↓reduceIte, z, z0, hl, e1, f1]
 rfl
theorem is_num_ok (n lo hi : Int) : Fis_number_within [.int n, .int lo, .int hi] = some (.bool (decide (lo <= n) && decide (n <= hi))) := by
 by_cases h : lo <= n
 · simp only [Fis_number_within, Bis_number_within_tl, Bis_number_within_0, runD, stD, dRet, dVar, dB, dAndV, dNotV, resOf, dIsi, isi_ii, isi_ib, le_ii, dChain, zI, zL, zC, zH, Q7, zA, zB, List.replicate, zD, zG, Nat.reduceAdd, Nat.reduceSub, ↓reduceIte, Bool.not_false, Bool.true_and, decide_eq_true h]
 · simp only [Fis_number_within, Bis_number_within_tl, Bis_number_within_0, runD, stD, dRet, dVar, dB, dAndV, dNotV, resOf, dIsi, isi_ii, isi_ib, le_ii, dChain, zI, zL, zC, zH, Q7, zA, zB, List.replicate, zD, zG, Nat.reduceAdd, Nat.reduceSub, ↓reduceIte, Bool.not_false, Bool.false_and, decide_eq_false h]
theorem checked_game_ok {p c : Int} (h : (p, c) ∈ games) : Fchecked_game [tupI [p, c]] = some (tupI [p, c]) := by
 rcases games_or h with ⟨rfl, rfl⟩ | ⟨rfl, rfl⟩ | ⟨rfl, rfl⟩ | ⟨rfl, rfl⟩ | ⟨rfl, rfl⟩ | ⟨rfl, rfl⟩ | ⟨rfl, rfl⟩ | ⟨rfl, rfl⟩ | ⟨rfl, rfl⟩ <;> rfl
theorem is_code_ok {p c : Int} (h : (p, c) ∈ games) {a : List Int} (ca : Code p c a) : Fis_code [tupI [p, c], tupI a] = some (.bool true) := by
 have b := games_b h
 have i0 : ixD (.tuple [.int p, .int c]) (.int 0) = some (.int p) := rfl
 have i1 : ixD (.tuple [.int p, .int c]) (.int 1) = some (.int c) := rfl
 have e0 : decide (((a.map PyData.int).length : Int) = p) = true := decide_eq_true (by rw [zJ]; exact ca.len)
 have al := ca.len
 have l1 : (a.map PyData.int).length <= LIM := by rw [zJ]; exact Q9 (show _ <= 1000 by omega) (by decide)
 have mm : (dCompO 1 [("game", 0)] (dIter (dVar 1)) (gN 0) dYes (dOwnCall 3 Fis_number_within (dCons (dVar 0) (dCons (dC (.int 0)) (dCons (d2 subD (d2 ixD (dVar 1) (dC (.int 1))) (dC (.int 1))) dNil))))) [some (.fz (.tuple [.int p, .int c])), some (.fz (.tuple (a.map PyData.int)))] = some ((a.map PyData.int).map λ _ => .bool true) := by
  refine dCompO_map _ rfl l1 λ d hd => ?_
  obtain ⟨n, hn, rfl⟩ := Q11.mp hd
  have q := ca.all n hn
  simp only [dVar, dC, d2, dOwnCall, dNil, dCons, st0D, dYes, gN, sub_ii, zI, zL, zC, zH, Q3, Q4, zA, zB, zE, List.replicate, zD, zG, Nat.reduceAdd, ↓reduceIte, Bool.and_true, i1, is_num_ok, decide_eq_true q.1, decide_eq_true q.2]
 have bs : boolsD ((a.map PyData.int).map λ _ => PyData.bool true) = some ((a.map PyData.int).map λ _ => true) := by
  rw [show ((a.map PyData.int).map λ _ => PyData.bool true) = ((a.map PyData.int).map λ _ => true).map PyData.bool by simp]
  exact boolsD_map _
 have al2 : ((a.map PyData.int).map λ _ => true).all id = true := by simp
 simp only [Fis_code, Bis_code_tl, Bis_code_0, Bis_code_1, tupI, runD, stD, dSeq, dIf, dRet, dVar, dC, d2, dCall, dNil, dCons, dOwn, dB, dTru, truD, dNotT, dOrT, dNext, resOf, dIsi, isi_tt, lenC, len_t, allC, zI, zL, zC, zH, Q7, zA, zB, List.replicate, zD, zG, Nat.reduceAdd, Nat.reduceSub, ↓reduceIte, Q12, zN, i0, neD_int, e0, mm, bs, al2]
noncomputable def ext (c : Nat) (a : List Int) : List (List Int) := (List.range c).map λ k : Nat => a ++ [(k : Int)]
noncomputable def codesN (c : Nat) : Nat -> List (List Int)
 | 0 => [[]]
 | n + 1 => (codesN c n).flatMap (ext c)
noncomputable def codes (p c : Int) : List (List Int) := codesN c.toNat p.toNat
noncomputable def lstC (cs : List (List Int)) : PyData := .list (cs.map tupI)
theorem ext_len (c : Nat) (a : List Int) : (ext c a).length = c := by simp [ext]
theorem flat_len (c : Nat) : ∀ l : List (List Int), (l.flatMap (ext c)).length = l.length * c
 | [] => by simp
 | a :: r => by rw [List.flatMap_cons, zQ, ext_len, flat_len c r, zC, Nat.succ_mul]; omega
theorem codesN_len (c : Nat) : ∀ n, (codesN c n).length = c ^ n
 | 0 => rfl
 | n + 1 => by rw [codesN, flat_len, codesN_len c n, Nat.pow_succ]
theorem pow_small {c n : Nat} (hc : c <= 5) (hn : n <= 4) : c ^ n <= 625 := by
 refine Q9 (Nat.pow_le_pow_left hc n) (Q9 (Nat.pow_le_pow_right (by decide) hn) (by decide))
theorem codesN_mem (c : Nat) : ∀ n a, a ∈ codesN c n -> a.length = n /\ ∀ x ∈ a, 0 <= x /\ x < (c : Int)
 | 0, a, h => by
  have : a = [] := by simpa [codesN] using h
  subst this
  exact ⟨rfl, λ x hx => by cases hx⟩
 | n + 1, a, h => by
  obtain ⟨b, hb, ha⟩ := List.mem_flatMap.mp h
  obtain ⟨k, hk, rfl⟩ := Q11.mp ha
  have hk' : k < c := by simpa using hk
  obtain ⟨l, q⟩ := codesN_mem c n b hb
  refine ⟨by simp [l], λ x hx => ?_⟩
  rcases Q25.mp hx with z | z
  · exact q x z
  · have : x = (k : Int) := by simpa using z
    omega
theorem codes_code {p c : Int} (h : (p, c) ∈ games) {a : List Int} (ha : a ∈ codes p c) : Code p c a := by
 have b := games_b h
 obtain ⟨l, q⟩ := codesN_mem _ _ _ ha
 refine ⟨by omega, λ n hn => ?_⟩
 have := q n hn
 omega
theorem codes_len {p c : Int} (h : (p, c) ∈ games) : (codes p c).length <= 625 := by
 have b := games_b h
 unfold codes
 rw [codesN_len]
 exact pow_small (by omega) (by omega)
theorem lim625 {n : Nat} (h : n <= 1000) : n <= LIM := Q9 h (by decide)
theorem add_one (a : List Int) (k : Int) (ha : a.length <= 100) : addD (tupI a) (.tuple [.int k]) = some (tupI (a ++ [k])) := by
 have q : (a.map PyData.int).length + [PyData.int k].length <= LIM := by rw [zJ]; exact lim625 (by simp; omega)
 unfold tupI
 rw [Q13]
 simp only [addD, q, ↓reduceIte]
 rfl
theorem range_int (c : Nat) : rangeD 0 c = (List.range c).map λ k : Nat => PyData.int (k : Int) := by
 unfold rangeD
 apply List.map_congr_left
 intro k _
 rw [Int.zero_add]
theorem comp_ext {nm : Str} {k : Nat} {c : Nat} {a : List Int} {fi : DSt -> Option (List PyData)} {δ : DSt} (hi : fi δ = some (rangeD 0 c)) (hc : c <= 100) (ha : a.length <= 100) (hk : δ[k]? = some (some (.fz (tupI a)))) :
 dCompO 1 [(nm, k)] fi (gN 0) dYes (d2 addD (dVar 1) (dTup (dCons (dVar 0) dNil))) δ = some ((ext c a).map tupI) := by
 rw [dCompO_map (λ d => match d with | .int k => tupI (a ++ [k]) | d => d) hi (by simp [rangeD]; exact lim625 (by omega)) (λ d hd => ?_)]
 · rw [range_int, zO, ext, zO]
   rfl
 · rw [range_int] at hd
   obtain ⟨m, _, rfl⟩ := Q11.mp hd
   have z : (1 : Nat) <= LIM := lit_le 1
   simp only [dVar, d2, dNil, dCons, dTup, st0D, dYes, gN, zI, zL, zC, zH, Q3, Q4, zA, zB, zE, List.replicate, zD, zG, Nat.reduceAdd, ↓reduceIte, hk, z, add_one a (m : Int) ha]
theorem rng_ok {c : Int} (h0 : 0 <= c) (h1 : c <= 1000) : smallI c = true := by
 unfold smallI
 rw [decide_eq_true (show -1000000000 <= c by omega), decide_eq_true (show c <= 1000000000 by omega)]; rfl
theorem take_flat {c : Nat} {l : List (List Int)} {j : Nat} (h : j < l.length) : (l.take (j + 1)).flatMap (ext c) = (l.take j).flatMap (ext c) ++ ext c l[j] := by
 rw [Q28 h, List.flatMap_append]
 simp
theorem all_codes_ok {p c : Int} (h : (p, c) ∈ games) : Fall_codes [tupI [p, c]] = some (lstC (codes p c)) := by
 have b := games_b h
 have i0 : ixD (.tuple [.int p, .int c]) (.int 0) = some (.int p) := rfl
 have i1 : ixD (.tuple [.int p, .int c]) (.int 1) = some (.int c) := rfl
 have hg : Fchecked_game [.tuple [.int p, .int c]] = some (.tuple [.int p, .int c]) := checked_game_ok h
 have sp := rng_ok (c := p) (by omega) (by omega)
 have sc := rng_ok (c := c) (by omega) (by omega)
 have z : (0 : Nat) <= LIM := zU _
 have z1 : (1 : Nat) <= LIM := lit_le 1
 have inner : ∀ (i : Nat), i < p.toNat -> ∀ v4 : Option Sl, ∃ w4, loopD ((gN 4)) ((dExtend 3 (dOwn (dCompO 1 [("code", 4)] (dRng1 (dCons (d2 ixD (dVar 0) (dC (.int 1))) dNil)) (gN 0) dYes (d2 addD (dVar 1) (dTup (dCons (dVar 0) dNil))))))) ((codesN c.toNat i).map tupI) [some (.fz (.tuple [.int p, .int c])), some (.fz (lstC (codesN c.toNat i))), some (.fz (.int (i : Nat))), some (.ow []), v4] =
  some (.nx [some (.fz (.tuple [.int p, .int c])), some (.fz (lstC (codesN c.toNat i))), some (.fz (.int (i : Nat))), some (.ow ((codesN c.toNat (i + 1)).map tupI)), w4]) := by
  intro i hi v4
  obtain ⟨δ', e1, w4, e2⟩ := loopD_of (fg := (gN 4)) (fb := (dExtend 3 (dOwn (dCompO 1 [("code", 4)] (dRng1 (dCons (d2 ixD (dVar 0) (dC (.int 1))) dNil)) (gN 0) dYes (d2 addD (dVar 1) (dTup (dCons (dVar 0) dNil))))))) (ds := (codesN c.toNat i).map tupI) (δ := [some (.fz (.tuple [.int p, .int c])), some (.fz (lstC (codesN c.toNat i))), some (.fz (.int (i : Nat))), some (.ow []), v4])
   (λ j δ => ∃ w4, δ = [some (.fz (.tuple [.int p, .int c])), some (.fz (lstC (codesN c.toNat i))), some (.fz (.int (i : Nat))), some (.ow ((((codesN c.toNat i).take j).flatMap (ext c.toNat)).map tupI)), w4]) ⟨v4, rfl⟩ (by
    rintro j hj δ ⟨w4, rfl⟩
    have hj' : j < (codesN c.toNat i).length := by simpa using hj
    have ed : ((codesN c.toNat i).map tupI)[j] = tupI (codesN c.toNat i)[j] := by simp
    have hm : (codesN c.toNat i)[j] ∈ codesN c.toNat i := Qf hj'
    have hl := (codesN_mem _ _ _ hm).1
    have hz : ((((codesN c.toNat i).take j).flatMap (ext c.toNat)).map tupI).length + ((ext c.toNat (codesN c.toNat i)[j]).map tupI).length <= LIM := by
     rw [zJ, zJ, flat_len, ext_len, Q1a, codesN_len]
     have q1 : c.toNat ^ i.succ <= 625 := pow_small (by omega) (by omega)
     rw [codesN_len] at hj'
     have q2 : (j + 1) * c.toNat <= c.toNat ^ i * c.toNat := Nat.mul_le_mul_right _ hj'
     rw [<- Nat.pow_succ] at q2
     have q3 : min j (c.toNat ^ i) = j := Nat.min_eq_left (nLe hj')
     rw [q3]
     have q4 : (j + 1) * c.toNat = j * c.toNat + c.toNat := Nat.succ_mul _ _
     exact lim625 (by omega)
    rw [ed]
    refine ⟨_, _, rfl, ?_, some (.fz (tupI (codesN c.toNat i)[j])), rfl⟩
    have cx := comp_ext (nm := "code") (k := 4) (c := c.toNat) (a := (codesN c.toNat i)[j]) (fi := dRng1 (dCons (d2 ixD (dVar 0) (dC (.int 1))) dNil)) (δ := [some (.fz (.tuple [.int p, .int c])), some (.fz (lstC (codesN c.toNat i))), some (.fz (.int (i : Nat))), some (.ow ((((codesN c.toNat i).take j).flatMap (ext c.toNat)).map tupI)), some (.fz (tupI (codesN c.toNat i)[j]))])
     (by simp only [dVar, dC, d2, dNil, dCons, dRng1, zA, zD, ↓reduceIte, i1, sc]) (by omega) (by omega) rfl
    simp only [dExtend, dOwn, zA, zB, zE, zF, zD, zG, ↓reduceIte, cx, hz]
    rw [take_flat hj', Q13])
  rw [zJ, Q19] at e2
  subst e2
  exact ⟨w4, e1⟩
 obtain ⟨δ', e1, v2, v3, v4, e2⟩ := loopD_of (fg := (gN 2)) (fb := (dSeq (dSetO 3 (dLstO dNil)) (dSeq (dFor (dIter (dVar 1)) (gN 4) (dExtend 3 (dOwn (dCompO 1 [("code", 4)] (dRng1 (dCons (d2 ixD (dVar 0) (dC (.int 1))) dNil)) (gN 0) dYes (d2 addD (dVar 1) (dTup (dCons (dVar 0) dNil))))))) (dFrz 3 (dSet 1 (dVar 3)))))) (ds := rangeD 0 p.toNat) (δ := [some (.fz (.tuple [.int p, .int c])), some (.fz (.list [.tuple []])), none, none, none])
  (λ i δ => ∃ v2 v3 v4, δ = [some (.fz (.tuple [.int p, .int c])), some (.fz (lstC (codesN c.toNat i))), v2, v3, v4]) ⟨none, none, none, rfl⟩ (by
   rintro i hi δ ⟨v2, v3, v4, rfl⟩
   have hi' : i < p.toNat := by simpa [rangeD] using hi
   have ed : (rangeD 0 p.toNat)[i] = .int (i : Nat) := by simp [rangeD]
   obtain ⟨w4, f1⟩ := inner i hi' v4
   rw [ed]
   refine ⟨_, [some (.fz (.tuple [.int p, .int c])), some (.fz (lstC (codesN c.toNat (i + 1)))), some (.fz (.int (i : Nat))), some (.fz (lstC (codesN c.toNat (i + 1)))), w4], rfl, ?_, _, _, _, rfl⟩
   unfold lstC at f1 ⊢
   simp only [dSeq, dSet, dSetO, dFrz, dFor, dVar, dNil, dLstO, dIter, seqD, DL.frz, zH, zA, zB, zE, zF, zD, zG, ↓reduceIte, z, f1])
 have len2 : (rangeD 0 p.toNat).length = p.toNat := by simp [rangeD]
 rw [len2] at e2
 subst e2
 simp only [Fall_codes, Ball_codes_tl, Ball_codes_0, Ball_codes_1, Ball_codes_2, Ball_codes_3, tupI, runD, stD, dSeq, dSet, dRet, dDrop, dFor, dVar, dC, d2, dOwnCall, dNil, dCons, dTup, dLstO, dOwn, dRng1, resOf, zI, zL, zC, zH, Q3, Q4, zA, zB, zE, zF, List.replicate, zD, zG, Nat.reduceAdd, Nat.reduceSub, ↓reduceIte, hg, z, z1, i0, sp, e1]
 rfl
theorem law_codes_ok {p c : Int} (h : (p, c) ∈ games) : F_law_codes [tupI [p, c]] = some (lstC (codes p c)) := by
 have b := games_b h
 have i0 : ixD (.tuple [.int p, .int c]) (.int 0) = some (.int p) := rfl
 have i1 : ixD (.tuple [.int p, .int c]) (.int 1) = some (.int c) := rfl
 have sp := rng_ok (c := p) (by omega) (by omega)
 have sc := rng_ok (c := c) (by omega) (by omega)
 have z : (0 : Nat) <= LIM := zU _
 have z1 : (1 : Nat) <= LIM := lit_le 1
 have inner : ∀ (i : Nat), i < p.toNat -> ∀ v4 : Option Sl, ∃ w4, loopD ((gN 4)) ((dSet 3 (d2 addD (dVar 3) (dOwn (dCompO 1 [("_law_code_here", 4)] (dRng1 (dCons (d2 ixD (dVar 0) (dC (.int 1))) dNil)) (gN 0) dYes (d2 addD (dVar 1) (dTup (dCons (dVar 0) dNil)))))))) ((codesN c.toNat i).map tupI) [some (.fz (.tuple [.int p, .int c])), some (.fz (lstC (codesN c.toNat i))), some (.fz (.int (i : Nat))), some (.fz (.list [])), v4] =
  some (.nx [some (.fz (.tuple [.int p, .int c])), some (.fz (lstC (codesN c.toNat i))), some (.fz (.int (i : Nat))), some (.fz (lstC (codesN c.toNat (i + 1)))), w4]) := by
  intro i hi v4
  obtain ⟨δ', e1, w4, e2⟩ := loopD_of (fg := (gN 4)) (fb := (dSet 3 (d2 addD (dVar 3) (dOwn (dCompO 1 [("_law_code_here", 4)] (dRng1 (dCons (d2 ixD (dVar 0) (dC (.int 1))) dNil)) (gN 0) dYes (d2 addD (dVar 1) (dTup (dCons (dVar 0) dNil)))))))) (ds := (codesN c.toNat i).map tupI) (δ := [some (.fz (.tuple [.int p, .int c])), some (.fz (lstC (codesN c.toNat i))), some (.fz (.int (i : Nat))), some (.fz (.list [])), v4])
   (λ j δ => ∃ w4, δ = [some (.fz (.tuple [.int p, .int c])), some (.fz (lstC (codesN c.toNat i))), some (.fz (.int (i : Nat))), some (.fz (.list ((((codesN c.toNat i).take j).flatMap (ext c.toNat)).map tupI))), w4]) ⟨v4, rfl⟩ (by
    rintro j hj δ ⟨w4, rfl⟩
    have hj' : j < (codesN c.toNat i).length := by simpa using hj
    have ed : ((codesN c.toNat i).map tupI)[j] = tupI (codesN c.toNat i)[j] := by simp
    have hm : (codesN c.toNat i)[j] ∈ codesN c.toNat i := Qf hj'
    have hl := (codesN_mem _ _ _ hm).1
    have hz : ((((codesN c.toNat i).take j).flatMap (ext c.toNat)).map tupI).length + ((ext c.toNat (codesN c.toNat i)[j]).map tupI).length <= LIM := by
     rw [zJ, zJ, flat_len, ext_len, Q1a, codesN_len]
     have q1 : c.toNat ^ i.succ <= 625 := pow_small (by omega) (by omega)
     rw [codesN_len] at hj'
     have q2 : (j + 1) * c.toNat <= c.toNat ^ i * c.toNat := Nat.mul_le_mul_right _ hj'
     rw [<- Nat.pow_succ] at q2
     have q3 : min j (c.toNat ^ i) = j := Nat.min_eq_left (nLe hj')
     rw [q3]
     have q4 : (j + 1) * c.toNat = j * c.toNat + c.toNat := Nat.succ_mul _ _
     exact lim625 (by omega)
    have ad : addD (.list ((((codesN c.toNat i).take j).flatMap (ext c.toNat)).map tupI)) (.list ((ext c.toNat (codesN c.toNat i)[j]).map tupI)) = some (.list ((((codesN c.toNat i).take (j + 1)).flatMap (ext c.toNat)).map tupI)) := by
     rw [take_flat hj', Q13]
     simp only [addD, hz, ↓reduceIte]
    rw [ed]
    refine ⟨_, _, rfl, ?_, some (.fz (tupI (codesN c.toNat i)[j])), rfl⟩
    have cx := comp_ext (nm := "_law_code_here") (k := 4) (c := c.toNat) (a := (codesN c.toNat i)[j]) (fi := dRng1 (dCons (d2 ixD (dVar 0) (dC (.int 1))) dNil)) (δ := [some (.fz (.tuple [.int p, .int c])), some (.fz (lstC (codesN c.toNat i))), some (.fz (.int (i : Nat))), some (.fz (.list ((((codesN c.toNat i).take j).flatMap (ext c.toNat)).map tupI))), some (.fz (tupI (codesN c.toNat i)[j]))])
     (by simp only [dVar, dC, d2, dNil, dCons, dRng1, zA, zD, ↓reduceIte, i1, sc]) (by omega) (by omega) rfl
    simp only [dSet, dVar, d2, dOwn, zA, zB, zE, zF, zD, zG, cx, ad])
  rw [zJ, Q19] at e2
  subst e2
  exact ⟨w4, e1⟩
 obtain ⟨δ', e1, v2, v3, v4, e2⟩ := loopD_of (fg := (gN 2)) (fb := (dSeq (dSet 3 (dOwn (dLstO dNil))) (dSeq (dFor (dIter (dVar 1)) (gN 4) (dSet 3 (d2 addD (dVar 3) (dOwn (dCompO 1 [("_law_code_here", 4)] (dRng1 (dCons (d2 ixD (dVar 0) (dC (.int 1))) dNil)) (gN 0) dYes (d2 addD (dVar 1) (dTup (dCons (dVar 0) dNil)))))))) (dSet 1 (dVar 3))))) (ds := rangeD 0 p.toNat) (δ := [some (.fz (.tuple [.int p, .int c])), some (.fz (.list [.tuple []])), none, none, none])
  (λ i δ => ∃ v2 v3 v4, δ = [some (.fz (.tuple [.int p, .int c])), some (.fz (lstC (codesN c.toNat i))), v2, v3, v4]) ⟨none, none, none, rfl⟩ (by
   rintro i hi δ ⟨v2, v3, v4, rfl⟩
   have hi' : i < p.toNat := by simpa [rangeD] using hi
   have ed : (rangeD 0 p.toNat)[i] = .int (i : Nat) := by simp [rangeD]
   obtain ⟨w4, f1⟩ := inner i hi' v4
   rw [ed]
   refine ⟨_, [some (.fz (.tuple [.int p, .int c])), some (.fz (lstC (codesN c.toNat (i + 1)))), some (.fz (.int (i : Nat))), some (.fz (lstC (codesN c.toNat (i + 1)))), w4], rfl, ?_, _, _, _, rfl⟩
   unfold lstC at f1 ⊢
   simp only [dSeq, dSet, dFor, dVar, dNil, dLstO, dOwn, dIter, seqD, zH, zA, zB, zE, zF, zD, zG, ↓reduceIte, z, f1])
 have len2 : (rangeD 0 p.toNat).length = p.toNat := by simp [rangeD]
 rw [len2] at e2
 subst e2
 simp only [F_law_codes, B_law_codes_tl, B_law_codes_0, B_law_codes_1, B_law_codes_2, tupI, runD, stD, dSeq, dSet, dRet, dFor, dVar, dC, d2, dNil, dCons, dTup, dLstO, dOwn, dRng1, resOf, zI, zL, zC, zH, Q3, Q4, zA, zB, zE, zF, List.replicate, zD, zG, Nat.reduceAdd, Nat.reduceSub, ↓reduceIte, z, z1, i0, sp, e1]
 rfl
noncomputable abbrev Ask := List Int × List Int
noncomputable def encA (a : Ask) : PyData := .tuple [tupI a.1, tupI a.2]
theorem tup_mem {cs : List (List Int)} {d : PyData} (h : d ∈ cs.map tupI) : ∃ x ∈ cs, d = tupI x := by
 obtain ⟨x, hx, e⟩ := Q11.mp h
 exact ⟨x, hx, e.symm⟩
theorem filter_enc {α : Type} (enc : α -> PyData) (f : PyData -> Bool) (q : α -> Bool) : ∀ {l : List α}, (∀ a ∈ l, f (enc a) = q a) -> (l.map enc).filter f = (l.filter q).map enc
 | [], _ => rfl
 | a :: r, h => by
  have ih := filter_enc enc f q (l := r) λ x hx => h x (lMc _ hx)
  rw [zI, List.filter_cons, List.filter_cons, h a lMs, ih]
  cases q a <;> rfl
noncomputable def codeOf (d : PyData) : List Int := @dite _ (∃ x, tupI x = d) (Classical.propDecidable _) (λ h => Classical.choose h) (λ _ => [])
theorem codeOf_tup (x : List Int) : codeOf (tupI x) = x := by
 unfold codeOf
 have h : ∃ y, tupI y = tupI x := ⟨x, rfl⟩
 rw [dif_pos h]
 exact tupI_inj (Classical.choose_spec h)
theorem map_id' {l : List PyData} : l.map (λ d => d) = l := List.map_id l
theorem codes_all {p c : Int} (h : (p, c) ∈ games) : ∀ x ∈ codes p c, Code p c x := λ x hx => codes_code h hx
theorem lstC_inj {a b : List (List Int)} (h : lstC a = lstC b) : a = b := by
 unfold lstC at h
 injection h with h
 have : a.map (λ x => codeOf (tupI x)) = b.map (λ x => codeOf (tupI x)) := by
  have := congrArg (List.map codeOf) h
  rwa [zO, zO] at this
 simpa [codeOf_tup] using this
theorem nb_lstC (a : List (List Int)) : nb (lstC a) = true := nb_list λ d hd => by
 obtain ⟨x, _, rfl⟩ := tup_mem hd
 exact nb_tupI x
theorem ok_lstC (a : List (List Int)) : okN 2 (lstC a) := okN_list λ d hd => by
 obtain ⟨x, _, rfl⟩ := tup_mem hd
 exact okN_tupI x
theorem eqD_lstC (a b : List (List Int)) : eqD (lstC a) (lstC b) = some (.bool (decide (a = b))) := by
 rw [eqD_of (ok_lstC a).ok (ok_lstC b).ok]
 congr 2
 rw [Bool.eq_iff_iff, eqv_iff _ _ (nb_lstC a) (nb_lstC b), decide_eq_true_eq]
 exact ⟨lstC_inj, λ h => by rw [h]⟩
noncomputable def natOf : PyData -> Nat
 | .int i => i.toNat
 | _ => 0
noncomputable def lstN (l : List Nat) : PyData := .list (l.map λ i : Nat => PyData.int (i : Int))
theorem nb_encA (a : Ask) : nb (encA a) = true := nb_tup λ d hd => by
 have : d = tupI a.1 \/ d = tupI a.2 := by simpa using hd
 rcases this with rfl | rfl <;> exact nb_tupI _
theorem ok_encA (a : Ask) : okN 2 (encA a) := okN_tup λ d hd => by
 have : d = tupI a.1 \/ d = tupI a.2 := by simpa using hd
 rcases this with rfl | rfl <;> exact okN_tupI _
theorem encA_inj {a b : Ask} (h : encA a = encA b) : a = b := by
 unfold encA at h
 injection h with h
 injection h with h1 h
 injection h with h2 _
 exact Prod.ext (tupI_inj h1) (tupI_inj h2)
theorem eqv_encA (a b : Ask) : PyData.eqv (encA a) (encA b) = decide (a = b) := by
 rw [Bool.eq_iff_iff, eqv_iff _ _ (nb_encA a) (nb_encA b), decide_eq_true_eq]
 exact ⟨encA_inj, λ h => by rw [h]⟩
theorem loopD_find {fg : PyData -> DSt -> Option DSt} {fb : DSt -> Option DFlow} : ∀ {ds : List PyData} (P : Nat -> DSt -> Prop) (t : Nat -> Option PyData) {δ : DSt}, P 0 δ ->
 (∀ (i : Nat) (hi : i < ds.length) (δ : DSt), P i δ -> ∃ δ1, fg ds[i] δ = some δ1 /\ ((t i = none /\ ∃ δ2, fb δ1 = some (.nx δ2) /\ P (i + 1) δ2) \/ ∃ v, t i = some v /\ fb δ1 = some (.rt v))) ->
 (∃ δ', loopD fg fb ds δ = some (.nx δ') /\ P ds.length δ' /\ ∀ i, i < ds.length -> t i = none) \/ (∃ j v, j < ds.length /\ (∀ i, i < j -> t i = none) /\ t j = some v /\ loopD fg fb ds δ = some (.rt v))
 | [], P, t, δ, h0, _ => .inl ⟨δ, rfl, h0, λ i hi => absurd hi (Nat.not_lt_zero _)⟩
 | d :: r, P, t, δ, h0, h => by
  obtain ⟨δ1, e1, q⟩ := h 0 (by simp) δ h0
  have e1' : fg d δ = some δ1 := e1
  rcases q with ⟨t0, δ2, e2, h1⟩ | ⟨v, t0, e2⟩
  · have ih := loopD_find (ds := r) (fg := fg) (fb := fb) (λ i => P (i + 1)) (λ i => t (i + 1)) h1 λ i hi δ hp => by
     have := h (i + 1) (by simpa using hi) δ hp
     simpa using this
    rcases ih with ⟨δ', e3, h3, h4⟩ | ⟨j, v, hj, h3, h4, e3⟩
    · refine .inl ⟨δ', by rw [loopD_cons, e1', zD, e2, zD]; exact e3, h3, λ i hi => ?_⟩
      cases i with
      | zero => exact t0
      | succ i => exact h4 i (by simpa using hi)
    · refine .inr ⟨j + 1, v, by simpa using hj, λ i hi => ?_, h4, by rw [loopD_cons, e1', zD, e2, zD]; exact e3⟩
      cases i with
      | zero => exact t0
      | succ i => exact h3 i (by omega)
  · exact .inr ⟨0, v, by simp, λ i hi => absurd hi (Nat.not_lt_zero _), t0, by rw [loopD_cons, e1', zD, e2, zD]⟩
noncomputable def keyP (gs : List (List Int)) (x : List Int) : List (List Int) := gs.map λ g => GC.ans x g
noncomputable def alikeP (f : List Int -> List (List Int)) : List (List Int) -> Option Ask
 | [] => none
 | c :: r => match r.find? (λ d => decide (f d = f c)) with
  | some d => some (c, d)
  | none => alikeP f r
noncomputable def optD : Option Ask -> PyData
 | none => .none
 | some a => encA a
theorem answers_to_ok {p c : Int} (hp : p <= 4) {x : List Int} (cx : Code p c x) {gs : List (List Int)} (cg : ∀ g ∈ gs, Code p c g) (hl : gs.length <= 1000) : Fanswers_to [tupI x, lstC gs] = some (.tuple ((keyP gs x).map tupI)) := by
 have l1 : (gs.map tupI).length <= LIM := by rw [zJ]; exact lim625 hl
 have l2 : ((keyP gs x).map tupI).length <= LIM := by rw [zJ, keyP, zJ]; exact lim625 hl
 have mm : (dCompO 1 [("code", 0)] (dIter (dVar 1)) (gN 0) dYes (dOwnCall 2 Fanswer_of (dCons (dVar 1) (dCons (dVar 0) dNil)))) [some (.fz (tupI x)), some (.fz (.list (gs.map tupI)))] = some ((keyP gs x).map tupI) := by
  rw [dCompO_map (ds := gs.map tupI) (λ d => tupI (GC.ans x (codeOf d))) rfl l1 (λ d hd => ?_)]
  · rw [keyP, zO, zO]
    congr 1
    apply List.map_congr_left
    intro g _
    show tupI (GC.ans x (codeOf (tupI g))) = tupI (GC.ans x g)
    rw [codeOf_tup]
  · obtain ⟨g, hg, rfl⟩ := tup_mem hd
    have q1 := cx.len
    have q2 := (cg g hg).len
    have q := answer_of_ok (a := x) (b := g) (by omega) (by omega)
    rw [codeOf_tup]
    simp only [dVar, dOwnCall, dNil, dCons, st0D, dYes, gN, zI, zL, zC, zH, Q3, Q4, zA, zB, zE, List.replicate, zD, zG, Nat.reduceAdd, ↓reduceIte, q]
 simp only [Fanswers_to, Banswers_to_tl, Banswers_to_0, lstC, runD, stD, dRet, dCall, dNil, dCons, dOwn, resOf, tupC, zI, zL, zC, zH, Q7, List.replicate, zD, zG, Nat.reduceAdd, Nat.reduceSub, mm]
noncomputable def prs (f : List Int -> List (List Int)) : List (List Int) -> List (List Int) -> List Ask
 | _, [] => []
 | pre, c :: r => (match pre.find? (λ d => decide (f d = f c)) with | some d => [(d, c)] | none => []) ++ prs f (pre ++ [c]) r
theorem tups2D_map : ∀ k : List (List Int), tups2D (k.map tupI) = some k
 | [] => rfl
 | x :: k => by
  show (keyD (tupI x)).bind (λ z => (tups2D (k.map tupI)).map (z :: ·)) = _
  rw [tups2D_map k, show keyD (tupI x) = some x from intsD_map x]
  rfl
noncomputable abbrev En := List (List (List Int) × List Int)
noncomputable def encE (e : List (List Int) × List Int) : List (List Int) × PyData := (e.1, tupI e.2)
theorem find_encE (es : En) (k : List (List Int)) : (es.map encE).find? (λ e => decide (e.1 = k)) = (es.find? λ e => decide (e.1 = k)).map encE := by
 rw [List.find?_map]
 rfl
theorem loopN_ok {f : List Int -> List (List Int)} {fy : DSt -> Option PyData} {A G : PyData} :
 ∀ (cs : List (List Int)), (∀ c ∈ cs, ∀ v5 : Option Sl, fy [some (.fz A), some (.fz G), none, none, some (.fz (tupI c)), v5] = some (.tuple ((f c).map tupI))) -> ∀ (pre : List (List Int)) (es : En) (ps : List Ask) (v4 v5 : Option Sl), es.length + cs.length <= 1000 -> ps.length + cs.length <= 1000 -> (∀ k, (es.find? λ e => decide (e.1 = k)).map (·.2) = pre.find? λ d => decide (f d = k)) ->
  ∃ w4 w5, loopN fy 4 5 3 (cs.map tupI) [some (.fz A), some (.fz G), none, none, v4, v5] (es.map encE) (ps.map encA) = some [some (.fz A), some (.fz G), none, some (.ow ((ps ++ prs f pre cs).map encA)), w4, w5]
 | [], _, pre, es, ps, v4, v5, _, _, _ => ⟨v4, v5, by rw [prs, Q7]; rfl⟩
 | c :: cs, hy, pre, es, ps, v4, v5, l1, l2, hk => by
  rw [zC] at l1 l2
  have lt : ∀ {n : Nat}, n <= 1000 -> n < LIM := λ h => Nat.lt_of_le_of_lt h (by decide)
  have c1 : (decide ((es.map encE).length < LIM) && decide ((ps.map encA).length < LIM) && isTup (tupI c)) = true := by
   rw [zJ, zJ, decide_eq_true (lt (show es.length <= 1000 by omega)), decide_eq_true (lt (show ps.length <= 1000 by omega))]
   rfl
  have ky : key2D (.tuple ((f c).map tupI)) = some (f c) := tups2D_map _
  rw [zI, loopN]
  simp only [zF, zE, hy c lMs, zD, ky, c1, if_true, find_encE]
  cases hf : es.find? λ e => decide (e.1 = f c) with
  | some e =>
   have hp := hk (f c)
   rw [hf] at hp
   have hp : some e.2 = pre.find? λ d => decide (f d = f c) := hp
   obtain ⟨w4, w5, q⟩ := loopN_ok cs (λ x hx => hy x (lMc _ hx)) (pre ++ [c]) es (ps ++ [(e.2, c)]) (some (.fz (tupI c))) (some (.fz (.tuple ((f c).map tupI)))) (by omega) (by rw [zQ, List.length_singleton]; omega) (λ k => by
    rw [hk k, List.find?_append]
    by_cases z : f c = k
    · rw [<- z, <- hp]; rfl
    · rw [Q1b (by simpa using z), List.find?_nil, Option.or_none])
   refine ⟨w4, w5, ?_⟩
   rw [prs, <- hp, <- List.append_assoc]
   show loopN fy 4 5 3 (cs.map tupI) _ (es.map encE) (ps.map encA ++ [.tuple [tupI e.2, tupI c]]) = _
   rw [show ps.map encA ++ [.tuple [tupI e.2, tupI c]] = (ps ++ [(e.2, c)]).map encA by rw [Q13]; rfl]
   exact q
  | none =>
   have hp := hk (f c)
   rw [hf] at hp
   have hp : none = pre.find? λ d => decide (f d = f c) := hp
   obtain ⟨w4, w5, q⟩ := loopN_ok cs (λ x hx => hy x (lMc _ hx)) (pre ++ [c]) (es ++ [(f c, c)]) ps (some (.fz (tupI c))) (some (.fz (.tuple ((f c).map tupI)))) (by rw [zQ, List.length_singleton]; omega) (by omega) (λ k => by
    rw [List.find?_append, List.find?_append]
    by_cases z : f c = k
    · rw [<- z, hf, <- hp, Q26 (by simp), Q26 (by simp)]; rfl
    · rw [Q1b (by simpa using z), Q1b (by simpa using z), List.find?_nil, List.find?_nil, Option.or_none, Option.or_none]
      exact hk k)
   refine ⟨w4, w5, ?_⟩
   rw [prs, <- hp, Q4]
   show loopN fy 4 5 3 (cs.map tupI) _ (es.map encE ++ [(f c, tupI c)]) (ps.map encA) = _
   rw [show es.map encE ++ [(f c, tupI c)] = (es ++ [(f c, c)]).map encE by rw [Q13]; rfl]
   exact q
theorem mem_prs {f : List Int -> List (List Int)} {b : Ask} : ∀ {cs pre : List (List Int)}, b ∈ prs f pre cs -> (b.1 ∈ pre \/ b.1 ∈ cs) /\ b.2 ∈ cs /\ f b.1 = f b.2
 | [], pre, h => by cases h
 | c :: r, pre, h => by
  rw [prs] at h
  rcases Q25.mp h with h | h
  · cases hf : pre.find? λ d => decide (f d = f c) with
    | none => rw [hf] at h; cases h
    | some d =>
     rw [hf] at h
     have : b = (d, c) := by simpa using h
     subst this
     have q := List.find?_some hf
     exact ⟨.inl (zR hf), lMs, by simpa using q⟩
  · obtain ⟨h1, h2, h3⟩ := mem_prs h
    refine ⟨?_, lMc _ h2, h3⟩
    rcases h1 with h1 | h1
    · rcases Q25.mp h1 with h1 | h1
      · exact .inl h1
      · rw [Q1d.mp h1]
        exact .inr lMs
    · exact .inr (lMc _ h1)
theorem has_prs {f : List Int -> List (List Int)} {c d : List Int} (hd : f d = f c) : ∀ {r pre : List (List Int)}, d ∈ r -> (c, d) ∈ prs f (c :: pre) r
 | x :: r, pre, h => by
  rw [prs]
  by_cases z : d = x
  · subst z
    rw [Q26 (by simpa using hd.symm)]
    exact List.mem_append_left _ (by simp)
  · have : d ∈ r := by
     rcases Qb.mp h with h | h
     · exact absurd h z
     · exact h
    exact Q14 _ (has_prs hd (pre := pre ++ [x]) this)
theorem skip_prs {f : List Int -> List (List Int)} {c : List Int} : ∀ {r pre : List (List Int)}, (∀ d ∈ r, f d ≠ f c) -> prs f (c :: pre) r = prs f pre r
 | [], pre, _ => rfl
 | x :: r, pre, h => by
  rw [prs, prs, Q1b (by simpa using λ z => h x lMs z.symm), Q3, skip_prs λ d hd => h d (lMc _ hd)]
noncomputable def ltP (a b : Ask) : Bool := if a.1 = b.1 then lexI a.2 b.2 else lexI a.1 b.1
theorem prs_none {f : List Int -> List (List Int)} : ∀ {cs : List (List Int)}, alikeP f cs = none -> prs f [] cs = []
 | [], _ => rfl
 | c :: r, h => by
  rw [alikeP] at h
  cases hf : r.find? λ d => decide (f d = f c) with
  | some d => rw [hf] at h; cases h
  | none =>
   rw [hf] at h
   rw [prs, List.find?_nil, Q4, Q4, skip_prs λ d hd => by simpa using List.find?_eq_none.mp hf d hd]
   exact prs_none h
theorem prs_some {f : List Int -> List (List Int)} {a : Ask} : ∀ {cs : List (List Int)}, cs.Pairwise (λ x y => lexI x y = true) -> alikeP f cs = some a -> a ∈ prs f [] cs /\ ∀ b ∈ prs f [] cs, b = a \/ ltP a b = true
 | c :: r, so, h => by
  rw [alikeP] at h
  obtain ⟨so1, so2⟩ := List.pairwise_cons.mp so
  cases hf : r.find? λ d => decide (f d = f c) with
  | some d =>
   rw [hf] at h
   cases h
   have hd : f d = f c := by simpa using List.find?_some hf
   rw [prs, List.find?_nil, Q4, Q4]
   refine ⟨has_prs hd (zR hf), λ b hb => ?_⟩
   obtain ⟨h1, h2, h3⟩ := mem_prs hb
   have hc : b.1 = c \/ b.1 ∈ r := by
    rcases h1 with h1 | h1
    · exact .inl (Q1d.mp h1)
    · exact .inr h1
   obtain ⟨b1, b2⟩ := b
   rcases hc with hc | hc
   · have hc : b1 = c := hc
     subst hc
     have h3 : f b1 = f b2 := h3
     obtain ⟨as, bs, e1, e2⟩ := List.find?_eq_some_iff_append.mp hf |>.2
     rw [e1] at h2 so2
     rcases Q25.mp h2 with h2 | h2
     · have := e2 b2 h2
       rw [<- h3] at this
       simp at this
     · rcases Qb.mp h2 with h2 | h2
       · have h2 : b2 = d := h2
         rw [h2]; exact .inl rfl
       · refine .inr ?_
         unfold ltP
         rw [if_pos rfl]
         exact (List.pairwise_cons.mp (List.pairwise_append.mp so2).2.1).1 _ h2
   · refine .inr ?_
     have q := so1 b1 hc
     unfold ltP
     by_cases z : c = b1
     · rw [<- z, DL.lexI_irr] at q; cases q
     · rw [if_neg z]; exact q
  | none =>
   rw [hf] at h
   rw [prs, List.find?_nil, Q4, Q4, skip_prs λ d hd => by simpa using List.find?_eq_none.mp hf d hd]
   exact prs_some so2 h
theorem ltD_encA (a b : Ask) : L2.ltD (encA a) (encA b) = some (ltP a b) := by
 show L2.ltL [tupI a.1, tupI a.2] [tupI b.1, tupI b.2] = _
 unfold ltP
 rw [L2.ltL, eqv_tupI]
 by_cases h : a.1 = b.1
 · rw [if_pos h, if_pos (decide_eq_true h), L2.ltL, eqv_tupI]
   by_cases h2 : a.2 = b.2
   · rw [if_pos (decide_eq_true h2), h2, DL.lexI_irr]
     rfl
   · rw [if_neg (by simpa using h2), ltD_ints]
 · rw [if_neg h, if_neg (by simpa using h), ltD_ints]
theorem mIx_min {lt : Nat -> Nat -> Bool} {ds : List Ask} {a : Ask} (hl : ∀ i j x y, ds[i]? = some x -> ds[j]? = some y -> lt i j = ltP x y) (h : ∀ b ∈ ds, b = a \/ (ltP a b = true /\ ltP b a = false)) (irr : ltP a a = false) :
 ∀ n, n < ds.length -> a ∈ ds.take (n + 1) -> ds[mIx lt n]? = some a
 | 0, hn, ha => by
  have e : ds.take 1 = [ds[0]] := by
   cases ds with
   | nil => exact absurd hn (zT 0)
   | cons _ _ => rfl
  rw [e] at ha
  show ds[0]? = some a
  rw [gEq hn, Q1d.mp ha]
 | n + 1, hn, ha => by
  have hn' : n < ds.length := by omega
  have en : ds[n + 1]? = some ds[n + 1] := gEq hn
  have hm : mIx lt n < ds.length := Nat.lt_of_le_of_lt (mIx_le lt n) hn'
  have em : ds[mIx lt n]? = some ds[mIx lt n] := gEq hm
  have hlt := hl (n + 1) (mIx lt n) _ _ en em
  by_cases hp : a ∈ ds.take (n + 1)
  · have ih := mIx_min hl h irr n hn' hp
    have e : ds[mIx lt n] = a := by rw [em] at ih; exact zV ih
    rw [e] at hlt
    have no : lt (n + 1) (mIx lt n) = false := by
     rw [hlt]
     rcases h ds[n + 1] (Qf _) with z | z
     · rw [z]; exact irr
     · exact z.2
    rw [mIx, if_neg (by rw [no]; exact Qe)]
    exact ih
  · have e : ds[n + 1] = a := by
     rw [Q28 hn] at ha
     rcases Q25.mp ha with z | z
     · exact absurd z hp
     · exact (Q1d.mp z).symm
    have ne : ds[mIx lt n] ≠ a := λ z => hp (by
     rw [<- z]
     exact List.mem_take_iff_getElem.mpr ⟨mIx lt n, by have := mIx_le lt n; omega, rfl⟩)
    have yes : lt (n + 1) (mIx lt n) = true := by
     rw [hlt, e]
     rcases h ds[mIx lt n] (Qf _) with z | z
     · exact absurd z ne
     · exact z.1
    rw [mIx, if_pos yes, en, e]
theorem ltP_as {a b : Ask} (h : ltP a b = true) : ltP b a = false := by
 unfold ltP at h ⊢
 have as : ∀ {x y : List Int}, lexI x y = true -> lexI y x = false := λ {x y} q => by
  cases z : lexI y x with
  | false => rfl
  | true =>
   have := lexI_tr x y x q z
   rw [DL.lexI_irr] at this
   cases this
 by_cases e : a.1 = b.1
 · rw [if_pos e] at h
   rw [if_pos e.symm]
   exact as h
 · rw [if_neg e] at h
   rw [if_neg (λ z => e z.symm)]
   exact as h
theorem min_ok {ps : List Ask} {a : Ask} (ha : a ∈ ps) (h : ∀ b ∈ ps, b = a \/ ltP a b = true) : minDC [.list (ps.map encA)] = some (encA a) := by
 have irr : ltP a a = false := by unfold ltP; rw [if_pos rfl]; exact DL.lexI_irr _
 obtain ⟨p0, pr, ep⟩ : ∃ p0 pr, ps = p0 :: pr := by
  cases ps with
  | nil => cases ha
  | cons p r => exact ⟨p, r, rfl⟩
 have e1 : minDC [.list (ps.map encA)] = minC [.list (ps.map encA)] := by rw [ep]; rfl
 have c : (!(ps.map encA).isEmpty && (ps.map encA).all okD && (ps.map encA).all (λ a => (ps.map encA).all λ b => (L2.ltD a b).isSome)) = true := by
  rw [Q2, Q2]
  refine ⟨⟨by rw [ep]; rfl, Qd.mpr λ d hd => ?_⟩, Qd.mpr λ d hd => Qd.mpr λ d' hd' => ?_⟩
  · obtain ⟨b, _, rfl⟩ := Q11.mp hd
    exact (ok_encA b).ok
  · obtain ⟨b, _, rfl⟩ := Q11.mp hd
    obtain ⟨b', _, rfl⟩ := Q11.mp hd'
    rw [ltD_encA]
    rfl
 rw [e1, minC, if_pos c, zJ]
 have pos : 0 < ps.length := by rw [ep]; exact Nat.succ_pos _
 have q := mIx_min (lt := λ i j => (L2.ltD ((ps.map encA).getD i .none) ((ps.map encA).getD j .none)).getD false) (ds := ps) (a := a) (λ i j x y hx hy => by
  show (L2.ltD ((ps.map encA).getD i .none) ((ps.map encA).getD j .none)).getD false = _
  rw [gDq, gDq, zK, zK, hx, hy]
  show (L2.ltD (encA x) (encA y)).getD false = _
  rw [ltD_encA]
  rfl) (λ b hb => (h b hb).imp id λ z => ⟨z, ltP_as z⟩) irr (ps.length - 1) (by omega) (by rw [Nat.sub_add_cancel pos, Q19]; exact ha)
 rw [zK, q]
 rfl
theorem first_alike_ok {p c : Int} (hp : p <= 4) {cs gs : List (List Int)} (cc : ∀ x ∈ cs, Code p c x) (cl : cs.length <= 500) (so : cs.Pairwise λ x y => lexI x y = true) (cg : ∀ g ∈ gs, Code p c g) (hl : gs.length <= 1000) :
 Ffirst_alike [lstC cs, lstC gs] = some (optD (alikeP (keyP gs) cs)) := by
 obtain ⟨w4, w5, q⟩ := loopN_ok (f := keyP gs) (fy := (dOwnCall 2 Fanswers_to (dCons (dVar 4) (dCons (dVar 1) dNil)))) (A := lstC cs) (G := lstC gs) cs (λ x hx v5 => by
  have e := answers_to_ok hp (cc x hx) cg hl
  simp only [dVar, dOwnCall, dNil, dCons, zC, zH, zA, zB, zD, Nat.reduceAdd, ↓reduceIte, e]) [] [] [] none none (by simp; omega) (by simp; omega) (λ k => rfl)
 have q : loopN (dOwnCall 2 Fanswers_to (dCons (dVar 4) (dCons (dVar 1) dNil))) 4 5 3 (cs.map tupI) [some (.fz (.list (cs.map tupI))), some (.fz (.list (gs.map tupI))), none, none, none, none] [] [] = some [some (.fz (.list (cs.map tupI))), some (.fz (.list (gs.map tupI))), none, some (.ow ((prs (keyP gs) [] cs).map encA)), w4, w5] := q
 have fz : ∀ d1 d2 : PyData, fzOnly [some (.fz d1), some (.fz d2), none, none, none, none] = true := λ _ _ => rfl
 have d5 : ∀ n : Nat, n < 6 -> decide (n < 6) = true := λ n h => decide_eq_true h
 have m : (minDC [.list ((prs (keyP gs) [] cs).map encA)]) = some (optD (alikeP (keyP gs) cs)) := by
  cases ha : alikeP (keyP gs) cs with
  | none => rw [prs_none ha]; rfl
  | some a =>
   obtain ⟨h1, h2⟩ := prs_some so ha
   exact min_ok h1 h2
 simp only [Ffirst_alike, Bfirst_alike_tl, Bfirst_alike_0, Bfirst_alike_3, lstC, dFirsts, runD, stD, dVar, dIter, seqD, zI, zL, zC, zH, Q3, Q4, zA, zE, zF, List.replicate, zD, Nat.reduceAdd, Nat.reduceSub, Bool.true_and, fz]
 rw [if_pos (show (decide (4 < 6) && decide (5 < 6) && decide (2 < 6) && decide (3 < 6)) = true by decide), q]
 simp only [dMinD, dRet, dFrz, dVar, dNil, dCons, DL.frz, resOf, zA, zB, zE, zF, zD, zG, m]
theorem cut_drop {cs : List (List Int)} {i : Nat} (h : i <= cs.length) : cutD (cs.map tupI) (some (i : Int)) none = (cs.drop i).map tupI := by
 have s1 : HT.sIx cs.length 0 (some (i : Int)) = i := by rw [HT.sIx_nat]; omega
 unfold cutD
 rw [zJ, s1, HT.sIx_none, <- List.map_drop, <- List.map_take, List.take_of_length_le (by rw [List.length_drop]; omega)]
noncomputable def tellP (f : List Int -> List (List Int)) (cs : List (List Int)) (i : Nat) : Option PyData := ((cs.drop (i + 1)).find? λ d => decide (f d = f (cs.getD i []))).map λ d => encA (cs.getD i [], d)
theorem tell_none {f : List Int -> List (List Int)} : ∀ {cs : List (List Int)}, (∀ i, i < cs.length -> tellP f cs i = none) -> alikeP f cs = none
 | [], _ => rfl
 | c :: r, h => by
  have h0 := h 0 (Nat.succ_pos _)
  have h0 : (r.find? λ d => decide (f d = f c)).map (λ d => encA (c, d)) = none := h0
  rw [Option.map_eq_none_iff] at h0
  rw [alikeP, h0]
  exact tell_none λ i hi => h (i + 1) (by simpa using hi)
theorem tell_some {f : List Int -> List (List Int)} : ∀ {cs : List (List Int)} {j : Nat} {v : PyData}, j < cs.length -> (∀ i, i < j -> tellP f cs i = none) -> tellP f cs j = some v -> optD (alikeP f cs) = v
 | c :: r, 0, v, _, _, e => by
  have e : (r.find? λ d => decide (f d = f c)).map (λ d => encA (c, d)) = some v := e
  obtain ⟨d, e1, e2⟩ := Q0.mp e
  rw [alikeP, e1]
  exact e2
 | c :: r, j + 1, v, hj, h, e => by
  have h0 := h 0 (Nat.succ_pos _)
  have h0 : (r.find? λ d => decide (f d = f c)).map (λ d => encA (c, d)) = none := h0
  rw [Option.map_eq_none_iff] at h0
  rw [alikeP, h0]
  exact tell_some (cs := r) (j := j) (by simpa using hj) (λ i hi => h (i + 1) (by omega)) e
theorem law_alike_ok {p c : Int} (h : (p, c) ∈ games) {gs : List (List Int)} (cg : ∀ g ∈ gs, Code p c g) (hl : gs.length <= 1000) : F_law_alike [tupI [p, c], lstC gs] = some (optD (alikeP (keyP gs) (codes p c))) := by
 have b := games_b h
 have q0 := law_codes_ok h
 have inner : ∀ x ∈ codes p c, ∀ y ∈ codes p c, ∀ δ : DSt, δ[1]? = some (some (.fz (.list (gs.map tupI)))) -> δ[4]? = some (some (.fz (tupI x))) -> δ[5]? = some (some (.fz (tupI y))) -> ∃ es, (dCompO 1 [("_law_one", 4), ("_law_other", 5)] (dIter (dVar 1)) (gN 0) (dB (d2 neD (dOwnCall 2 F_law_answer (dCons (dVar 1) (dCons (dVar 0) dNil))) (dOwnCall 2 F_law_answer (dCons (dVar 2) (dCons (dVar 0) dNil))))) (dVar 0)) δ = some es /\ es.isEmpty = decide (keyP gs y = keyP gs x) := by
  intro x hx y hy δ h1 h4 h5
  have cx := (codes_code h hx).len
  have cy := (codes_code h hy).len
  have f1 : (dIter (dVar 1)) δ = some (gs.map tupI) := by simp only [dIter, dVar, h1, zD, seqD]
  have hk : ∀ z : List Int, (z.length : Int) = p -> ∀ g ∈ gs, F_law_answer [tupI z, tupI g] = some (tupI (GC.ans z g)) := λ z lz g hg => by
   have l2 := (cg g hg).len
   rw [GC.ans_law (by omega)]
   exact law_answer_ok (by omega) (by omega)
  refine ⟨_, dCompO_filter (ds := gs.map tupI) (λ d => !decide (GC.ans x (codeOf d) = GC.ans y (codeOf d))) (λ d => d) f1 (by rw [zJ]; exact lim625 hl) (λ d hd => ?_), ?_⟩
  · obtain ⟨g, hg, rfl⟩ := tup_mem hd
    have q1 := hk x cx g hg
    have q2 := hk y cy g hg
    rw [codeOf_tup]
    cases hd' : decide (GC.ans x g = GC.ans y g) <;> simp only [dVar, d2, dOwnCall, dNil, dCons, dB, st0D, gN, zI, zL, zC, zH, Q3, Q4, zA, zB, zE, List.replicate, zD, zG, Nat.reduceAdd, ↓reduceIte, Q12, Bool.not_false, zN, h4, h5, q1, q2, neD_tupI, hd']
  · rw [map_id', filter_enc tupI _ (λ g => !decide (GC.ans x g = GC.ans y g)) (λ g _ => by rw [codeOf_tup])]
    rw [Bool.eq_iff_iff, List.isEmpty_iff, List.map_eq_nil_iff, List.filter_eq_nil_iff, decide_eq_true_eq, keyP, keyP, List.map_inj_left]
    constructor
    · intro q a ha
      have := q a ha
      exact (by simpa using this : GC.ans x a = GC.ans y a).symm
    · intro q a ha
      simpa using (q a ha).symm
 have el : (enumD ((codes p c).map tupI)).length = (codes p c).length := by rw [enumD_len, zJ]
 have lim := codes_len h
 have go := loopD_find (fg := (gT 2 (gC (gN 3) (gC (gN 4) gZ)))) (fb := (dFor (dIter (dSl (dVar 2) (dPart (d2 addD (dVar 3) (dC (.int 1)))) dNoPart)) (gN 5) (dIf (dNotT (dTru (dOwn (dCompO 1 [("_law_one", 4), ("_law_other", 5)] (dIter (dVar 1)) (gN 0) (dB (d2 neD (dOwnCall 2 F_law_answer (dCons (dVar 1) (dCons (dVar 0) dNil))) (dOwnCall 2 F_law_answer (dCons (dVar 2) (dCons (dVar 0) dNil))))) (dVar 0))))) (dRet (dTup (dCons (dVar 4) (dCons (dVar 5) dNil)))) dNext))) (ds := enumD ((codes p c).map tupI)) (δ := [some (.fz (.tuple [.int p, .int c])), some (.fz (.list (gs.map tupI))), some (.fz (.list ((codes p c).map tupI))), none, none, none])
  (λ i δ => ∃ v3 v4 v5, δ = [some (.fz (.tuple [.int p, .int c])), some (.fz (.list (gs.map tupI))), some (.fz (.list ((codes p c).map tupI))), v3, v4, v5]) (tellP (keyP gs) (codes p c)) ⟨none, none, none, rfl⟩ (by
   rintro i hi δ ⟨v3, v4, v5, rfl⟩
   rw [el] at hi
   have ed : (enumD ((codes p c).map tupI))[i]? = some (.tuple [.int (i : Nat), tupI (codes p c)[i]]) := by
    unfold enumD
    rw [zK, List.getElem?_zipIdx, zK, gEq hi]
    simp
   have ed' : (enumD ((codes p c).map tupI))[i]'(by rw [el]; exact hi) = .tuple [.int (i : Nat), tupI (codes p c)[i]] := by
    have := gEq (l := enumD ((codes p c).map tupI)) (i := i) (by rw [el]; exact hi)
    rw [ed] at this
    exact (zV this).symm
   rw [ed']
   refine ⟨[some (.fz (.tuple [.int p, .int c])), some (.fz (.list (gs.map tupI))), some (.fz (.list ((codes p c).map tupI))), some (.fz (.int (i : Nat))), some (.fz (tupI (codes p c)[i])), v5], rfl, ?_⟩
   have f2 : cutD ((codes p c).map tupI) (some ((i : Int) + 1)) none = ((codes p c).drop (i + 1)).map tupI := cut_drop (cs := codes p c) (i := i + 1) (by omega)
   have gi : (codes p c).getD i [] = (codes p c)[i] := by rw [gDq, gEq hi]; rfl
   have go2 := loopD_find (fg := (gN 5)) (fb := (dIf (dNotT (dTru (dOwn (dCompO 1 [("_law_one", 4), ("_law_other", 5)] (dIter (dVar 1)) (gN 0) (dB (d2 neD (dOwnCall 2 F_law_answer (dCons (dVar 1) (dCons (dVar 0) dNil))) (dOwnCall 2 F_law_answer (dCons (dVar 2) (dCons (dVar 0) dNil))))) (dVar 0))))) (dRet (dTup (dCons (dVar 4) (dCons (dVar 5) dNil)))) dNext)) (ds := ((codes p c).drop (i + 1)).map tupI) (δ := [some (.fz (.tuple [.int p, .int c])), some (.fz (.list (gs.map tupI))), some (.fz (.list ((codes p c).map tupI))), some (.fz (.int (i : Nat))), some (.fz (tupI (codes p c)[i])), v5])
    (λ j δ => ∃ w5, δ = [some (.fz (.tuple [.int p, .int c])), some (.fz (.list (gs.map tupI))), some (.fz (.list ((codes p c).map tupI))), some (.fz (.int (i : Nat))), some (.fz (tupI (codes p c)[i])), w5])
    (λ j => if decide (keyP gs (((codes p c).drop (i + 1)).getD j []) = keyP gs (codes p c)[i]) = true then some (encA ((codes p c)[i], ((codes p c).drop (i + 1)).getD j [])) else none) ⟨v5, rfl⟩ (by
     rintro j hj δ ⟨w5, rfl⟩
     have hj' : j < ((codes p c).drop (i + 1)).length := by simpa using hj
     have ej : (((codes p c).drop (i + 1)).map tupI)[j] = tupI ((codes p c).drop (i + 1))[j] := by simp
     have gj : ((codes p c).drop (i + 1)).getD j [] = ((codes p c).drop (i + 1))[j] := by rw [gDq, gEq hj']; rfl
     rw [ej, gj]
     have my : ((codes p c).drop (i + 1))[j] ∈ codes p c := List.mem_of_mem_drop (Qf hj')
     obtain ⟨es, g1, g2⟩ := inner (codes p c)[i] (Qf hi) _ my [some (.fz (.tuple [.int p, .int c])), some (.fz (.list (gs.map tupI))), some (.fz (.list ((codes p c).map tupI))), some (.fz (.int (i : Nat))), some (.fz (tupI (codes p c)[i])), some (.fz (tupI ((codes p c).drop (i + 1))[j]))] rfl rfl rfl
     refine ⟨[some (.fz (.tuple [.int p, .int c])), some (.fz (.list (gs.map tupI))), some (.fz (.list ((codes p c).map tupI))), some (.fz (.int (i : Nat))), some (.fz (tupI (codes p c)[i])), some (.fz (tupI ((codes p c).drop (i + 1))[j]))], rfl, ?_⟩
     have l2 : (2 : Nat) <= LIM := lit_le 2
     cases hE : decide (keyP gs ((codes p c).drop (i + 1))[j] = keyP gs (codes p c)[i]) with
     | true =>
      rw [hE] at g2
      refine .inr ⟨_, rfl, ?_⟩
      simp only [dIf, dRet, dVar, dNil, dCons, dTup, dOwn, dTru, truD, dNotT, dNext, zC, zH, zA, zB, zD, zG, Nat.reduceAdd, ↓reduceIte, Q12, Bool.not_false, g1, g2, l2]
      rfl
     | false =>
      rw [hE] at g2
      refine .inl ⟨rfl, _, ?_, some (.fz (tupI ((codes p c).drop (i + 1))[j])), rfl⟩
      simp only [dIf, dRet, dVar, dNil, dCons, dTup, dOwn, dTru, truD, dNotT, dNext, zC, zH, zA, zB, zD, zG, Nat.reduceAdd, ↓reduceIte, Q12, Bool.not_false, zN, g1, g2])
   have body : (dFor (dIter (dSl (dVar 2) (dPart (d2 addD (dVar 3) (dC (.int 1)))) dNoPart)) ((gN 5)) ((dIf (dNotT (dTru (dOwn (dCompO 1 [("_law_one", 4), ("_law_other", 5)] (dIter (dVar 1)) (gN 0) (dB (d2 neD (dOwnCall 2 F_law_answer (dCons (dVar 1) (dCons (dVar 0) dNil))) (dOwnCall 2 F_law_answer (dCons (dVar 2) (dCons (dVar 0) dNil))))) (dVar 0))))) (dRet (dTup (dCons (dVar 4) (dCons (dVar 5) dNil)))) dNext))) [some (.fz (.tuple [.int p, .int c])), some (.fz (.list (gs.map tupI))), some (.fz (.list ((codes p c).map tupI))), some (.fz (.int (i : Nat))), some (.fz (tupI (codes p c)[i])), v5] = loopD ((gN 5)) ((dIf (dNotT (dTru (dOwn (dCompO 1 [("_law_one", 4), ("_law_other", 5)] (dIter (dVar 1)) (gN 0) (dB (d2 neD (dOwnCall 2 F_law_answer (dCons (dVar 1) (dCons (dVar 0) dNil))) (dOwnCall 2 F_law_answer (dCons (dVar 2) (dCons (dVar 0) dNil))))) (dVar 0))))) (dRet (dTup (dCons (dVar 4) (dCons (dVar 5) dNil)))) dNext)) (((codes p c).drop (i + 1)).map tupI) [some (.fz (.tuple [.int p, .int c])), some (.fz (.list (gs.map tupI))), some (.fz (.list ((codes p c).map tupI))), some (.fz (.int (i : Nat))), some (.fz (tupI (codes p c)[i])), v5] := by
    unfold dFor
    have e : (dIter (dSl (dVar 2) (dPart (d2 addD (dVar 3) (dC (.int 1)))) dNoPart)) [some (.fz (.tuple [.int p, .int c])), some (.fz (.list (gs.map tupI))), some (.fz (.list ((codes p c).map tupI))), some (.fz (.int (i : Nat))), some (.fz (tupI (codes p c)[i])), v5] = some (((codes p c).drop (i + 1)).map tupI) := by
     simp only [dVar, dC, d2, dIter, seqD, add_ii, dSl, dNoPart, dPart, slD, zA, zB, zD, f2]
    rw [e]
    rfl
   rw [body]
   rcases go2 with ⟨δ', e1, ⟨w5, e2⟩, e3⟩ | ⟨j, v, hj, e3, e4, e5⟩
   · refine .inl ⟨?_, δ', e1, _, _, _, e2⟩
     unfold tellP
     rw [Option.map_eq_none_iff, List.find?_eq_none, gi]
     intro d hd
     obtain ⟨j, hj, rfl⟩ := List.getElem_of_mem hd
     have := e3 j (by rw [zJ]; exact hj)
     rw [gDq, gEq hj] at this
     intro z
     rw [show (some ((codes p c).drop (i + 1))[j]).getD [] = ((codes p c).drop (i + 1))[j] from rfl, if_pos z] at this
     cases this
   · refine .inr ⟨v, ?_, e5⟩
     rw [zJ] at hj
     unfold tellP
     rw [gi]
     rw [gDq, gEq hj] at e4
     have e4 : (if decide (keyP gs ((codes p c).drop (i + 1))[j] = keyP gs (codes p c)[i]) = true then some (encA ((codes p c)[i], ((codes p c).drop (i + 1))[j])) else none) = some v := e4
     split at e4
     · rename_i z
       cases e4
       rw [show (((codes p c).drop (i + 1)).find? λ d => decide (keyP gs d = keyP gs (codes p c)[i])) = some ((codes p c).drop (i + 1))[j] from ?_]
       · rfl
       · rw [List.find?_eq_some_iff_getElem]
         refine ⟨z, j, hj, rfl, λ k hk => ?_⟩
         have := e3 k hk
         rw [gDq, gEq (show k < ((codes p c).drop (i + 1)).length by omega)] at this
         cases hz : decide (keyP gs ((codes p c).drop (i + 1))[k] = keyP gs (codes p c)[i]) with
         | false => rfl
         | true =>
          rw [show (some ((codes p c).drop (i + 1))[k]).getD [] = ((codes p c).drop (i + 1))[k] from rfl, if_pos hz] at this
          cases this
     · cases e4)
 rw [el] at go
 have q0' : F_law_codes [.tuple [.int p, .int c]] = some (.list ((codes p c).map tupI)) := q0
 rcases go with ⟨δ', e1, ⟨v3, v4, v5, e2⟩, e3⟩ | ⟨j, v, hj, e3, e4, e5⟩
 · rw [tell_none e3]
   subst e2
   simp only [F_law_alike, B_law_alike_tl, B_law_alike_0, B_law_alike_1, B_law_alike_2, tupI, lstC, runD, stD, dSeq, dSet, dRet, dFor, dVar, dC, dOwnCall, dNil, dCons, seqD, dEn, resOf, zI, zL, zC, zH, Q3, Q4, zA, zB, zE, zF, List.replicate, zD, zG, Nat.reduceAdd, Nat.reduceSub, ↓reduceIte, q0', e1]
   rfl
 · rw [tell_some hj e3 e4]
   simp only [F_law_alike, B_law_alike_tl, B_law_alike_0, B_law_alike_1, B_law_alike_2, tupI, lstC, runD, stD, dSeq, dSet, dRet, dFor, dVar, dC, dOwnCall, dNil, dCons, seqD, dEn, resOf, zI, zL, zC, zH, Q3, Q4, zA, zB, zE, zF, List.replicate, zD, zG, Nat.reduceAdd, Nat.reduceSub, ↓reduceIte, q0', e5]
theorem checked_guesses_ok {p c : Int} (h : (p, c) ∈ games) {gs : List (List Int)} (cg : ∀ g ∈ gs, Code p c g) (hl : gs.length <= 8) : Fchecked_guesses [tupI [p, c], lstC gs] = some (lstC gs) := by
 obtain ⟨δ', e1, v2, v3, e2⟩ := loopD_of (fg := (gT 2 (gC (gN 3) (gC (gN 4) gZ)))) (fb := (dIf (dNotT (dTru (dCallV 2 "is_code" 2 Fis_code (dCons (dVar 0) (dCons (dVar 4) dNil))))) dNever dNext)) (ds := enumD (gs.map tupI)) (δ := [some (.fz (tupI [p, c])), some (.fz (.list (gs.map tupI))), some (.fz (fnD "is_code")), none, none])
  (λ i δ => ∃ v2 v3, δ = [some (.fz (tupI [p, c])), some (.fz (.list (gs.map tupI))), some (.fz (fnD "is_code")), v2, v3]) ⟨none, none, rfl⟩ (by
   rintro i hi δ ⟨v2, v3, rfl⟩
   have hi' : i < gs.length := by simpa [enumD] using hi
   have ed : (enumD (gs.map tupI))[i] = .tuple [.int (i : Nat), tupI gs[i]] := by
    have := gEq hi
    obtain ⟨e, h1, h2⟩ := enumD_get this
    rw [zK, gEq hi'] at h1
    cases h1
    exact h2
   have q := is_code_ok h (cg _ (Qf hi'))
   rw [ed]
   refine ⟨_, _, rfl, ?_, some (.fz (.int (i : Nat))), some (.fz (tupI gs[i])), rfl⟩
   simp only [dIf, dVar, dOwnCall, dNil, dCons, dTru, truD, dNotT, dNext, dNever, zC, zH, zA, zB, zE, zF, zD, zG, Nat.reduceAdd, ↓reduceIte, Q12, zN, dCallV, isFn_self, q])
 subst e2
 have d : decide ((8 : Int) < ((gs.map tupI).length : Nat)) = false := decide_eq_false (by rw [zJ]; omega)
 have q : Fchecked_list [tupI [p, c], lstC gs, fnD "is_code"] = some (lstC gs) := by
  simp only [Fchecked_list, Bchecked_list_tl, Bchecked_list_0, Bchecked_list_1, Bchecked_list_2, lstC, runD, stD, dSeq, dIf, dRet, dFor, dVar, dC, d2, dCall, dNil, dCons, dB, dTru, truD, dNotT, dOrT, seqD, dEn, dNext, dNever, resOf, dIsi, isi_ll, lenC, len_l, gt_ii, zI, zL, zC, zH, Q3, Q4, zA, zB, List.replicate, zD, zG, Nat.reduceAdd, Nat.reduceSub, ↓reduceIte, Q12, zN, d, e1]
 simp only [Fchecked_guesses, Bchecked_guesses_tl, Bchecked_guesses_0, runD, stD, dRet, dVar, dC, dOwnCall, dNil, dCons, resOf, zI, zL, zC, zH, Q7, zA, zB, List.replicate, zD, zG, Nat.reduceAdd, Nat.reduceSub, ↓reduceIte, q]
theorem codes_asc {p c : Int} (h : (p, c) ∈ games) : (codes p c).Pairwise λ x y => lexI x y = true := by
 rcases games_or h with ⟨rfl, rfl⟩ | ⟨rfl, rfl⟩ | ⟨rfl, rfl⟩ | ⟨rfl, rfl⟩ | ⟨rfl, rfl⟩ | ⟨rfl, rfl⟩ | ⟨rfl, rfl⟩ | ⟨rfl, rfl⟩ | ⟨rfl, rfl⟩ <;> decide +kernel
theorem codes_few {p c : Int} (h : (p, c) ∈ games) : (codes p c).length <= 27 := by
 rcases games_or h with ⟨rfl, rfl⟩ | ⟨rfl, rfl⟩ | ⟨rfl, rfl⟩ | ⟨rfl, rfl⟩ | ⟨rfl, rfl⟩ | ⟨rfl, rfl⟩ | ⟨rfl, rfl⟩ | ⟨rfl, rfl⟩ | ⟨rfl, rfl⟩ <;> decide +kernel
theorem fa_ok {p c : Int} (h : (p, c) ∈ games) {gs : List (List Int)} (cg : ∀ g ∈ gs, Code p c g) (hl : gs.length <= 1000) : Ffirst_alike [lstC (codes p c), lstC gs] = some (optD (alikeP (keyP gs) (codes p c))) :=
 first_alike_ok (games_b h).2.1 (codes_all h) (Q9 (codes_few h) (by decide)) (codes_asc h) cg hl
theorem alike_by_ok {p c : Int} (h : (p, c) ∈ games) {gs : List (List Int)} (cg : ∀ g ∈ gs, Code p c g) (hl : gs.length <= 8) : Falike_by [tupI [p, c], lstC gs] = some (optD (alikeP (keyP gs) (codes p c))) := by
 have q1 := checked_game_ok h
 have q2 := checked_guesses_ok h cg hl
 have q3 := all_codes_ok h
 have q4 := fa_ok h cg (by omega)
 simp only [Falike_by, Balike_by_tl, Balike_by_0, Balike_by_1, Balike_by_2, runD, stD, dSeq, dRet, dDrop, dVar, dOwnCall, dNil, dCons, resOf, zI, zL, zC, zH, Q7, zA, zB, List.replicate, zD, zG, Nat.reduceAdd, Nat.reduceSub, ↓reduceIte, q1, q2, q3, q4]
theorem isND_opt (a : Option Ask) : isND (optD a) .none = some (.bool a.isNone) := by cases a <;> rfl
theorem settle_all_ok {p c : Int} (h : (p, c) ∈ games) {gs : List (List Int)} (cg : ∀ g ∈ gs, Code p c g) (hl : gs.length <= 8) : Fsettle_all [tupI [p, c], lstC gs] = some (.bool (alikeP (keyP gs) (codes p c)).isNone) := by
 have q := alike_by_ok h cg hl
 cases ha : alikeP (keyP gs) (codes p c) with
 | none =>
  rw [ha] at q
  simp only [Fsettle_all, Bsettle_all_tl, Bsettle_all_0, runD, stD, dRet, dVar, dC, d2, dOwnCall, dNil, dCons, resOf, isND, zI, zL, zC, zH, Q7, zA, zB, List.replicate, zD, zG, Nat.reduceAdd, Nat.reduceSub, ↓reduceIte, q, optD]
  rfl
 | some a =>
  rw [ha] at q
  simp only [Fsettle_all, Bsettle_all_tl, Bsettle_all_0, runD, stD, dRet, dVar, dC, d2, dOwnCall, dNil, dCons, resOf, isND, zI, zL, zC, zH, Q7, zA, zB, List.replicate, zD, zG, Nat.reduceAdd, Nat.reduceSub, ↓reduceIte, q, optD, encA]
  rfl
noncomputable def stt (r : List Nat) : Nat := match r.getLast? with
 | none => 0
 | some l => l + 1
noncomputable def nxt (n : Nat) (r : List Nat) : List (List Nat) := (List.range (n - stt r)).map λ k : Nat => r ++ [stt r + k]
noncomputable def chs (n : Nat) : Nat -> List (List Nat)
 | 0 => [[]]
 | k + 1 => (chs n k).flatMap (nxt n)
theorem nxt_len (n : Nat) (r : List Nat) : (nxt n r).length <= n := by simp [nxt]
theorem flat_le {n : Nat} : ∀ l : List (List Nat), (l.flatMap (nxt n)).length <= l.length * n
 | [] => by simp
 | a :: r => by
  have h1 := flat_le (n := n) r
  have h2 := nxt_len n a
  rw [List.flatMap_cons, zQ, zC, Nat.succ_mul]
  omega
theorem chs_len {n : Nat} (hn : n <= 16) : ∀ k, k <= 3 -> (chs n k).length <= 4096 := by
 have pw : ∀ k, (chs n k).length <= 16 ^ k := λ k => by
  induction k with
  | zero => exact Q1 _
  | succ k ih =>
   have := flat_le (n := n) (chs n k)
   show ((chs n k).flatMap (nxt n)).length <= _
   rw [Nat.pow_succ]
   exact Q9 this (Nat.mul_le_mul ih hn)
 intro k hk
 exact Q9 (pw k) (Q9 (Nat.pow_le_pow_right (by decide) hk) (by decide))
theorem chs_lt (n : Nat) : ∀ k r, r ∈ chs n k -> (∀ i ∈ r, i < n) /\ r.length = k
 | 0, r, h => by
  have : r = [] := by simpa [chs] using h
  subst this
  exact ⟨λ i hi => by (cases hi), rfl⟩
 | k + 1, r, h => by
  obtain ⟨b, hb, hr⟩ := List.mem_flatMap.mp h
  obtain ⟨j, hj, rfl⟩ := Q11.mp hr
  have hj' : j < n - stt b := by simpa using hj
  obtain ⟨q1, q2⟩ := chs_lt n k b hb
  refine ⟨λ i hi => ?_, by simp [q2]⟩
  rcases Q25.mp hi with z | z
  · exact q1 i z
  · have : i = stt b + j := by simpa using z
    omega
theorem last_ix (r : List Nat) (l : Nat) (h : r.getLast? = some l) : ixD (lstN r) (.int (-1)) = some (.int (l : Int)) := by
 have hne : r ≠ [] := λ z => by rw [z] at h; cases h
 have e : r = r.dropLast ++ [l] := by
  have h2 := List.getLast?_eq_some_getLast hne
  rw [h] at h2
  have := List.dropLast_concat_getLast hne
  rw [<- zV h2] at this
  exact this.symm
 show atI (r.map λ i : Nat => PyData.int (i : Int)) (-1) = _
 rw [e, Q13]
 exact atI_last _ _
theorem emp_lstN (r : List Nat) : (r.map λ i : Nat => PyData.int (i : Int)).isEmpty = r.isEmpty := by cases r <;> rfl
theorem stt_ok (r : List Nat) (v : DSt) (hv : v[5]? = some (some (.fz (lstN r)))) : (dIfE (dTru (dVar 5)) (d2 addD (d2 ixD (dVar 5) (dNeg (dC (.int 1)))) (dC (.int 1))) (dC (.int 0))) v = some (.int (stt r : Nat)) := by
 unfold lstN at hv
 cases h : r.getLast? with
 | none =>
  have : r = [] := by simpa using h
  subst this
  simp only [dVar, dC, d2, dTru, truD, dIfE, dNeg, zL, zD, ↓reduceIte, Q12, zN, hv, List.isEmpty_nil, stt]
  rfl
 | some l =>
  have e := last_ix r l h
  have em : r.isEmpty = false := by
   cases r with
   | nil => cases h
   | cons _ _ => rfl
  unfold lstN at e
  simp only [dVar, dC, d2, dTru, truD, dIfE, add_ii, dNeg, zD, ↓reduceIte, Bool.not_false, hv, emp_lstN, em, e, stt, h]
  rfl
theorem add_lstN (r : List Nat) (k : Nat) (hr : r.length <= 100) : addD (lstN r) (.list [.int (k : Int)]) = some (lstN (r ++ [k])) := by
 have q : (r.map λ i : Nat => PyData.int (i : Int)).length + [PyData.int (k : Int)].length <= LIM := by rw [zJ]; exact lim625 (by simp; omega)
 unfold lstN
 rw [Q13]
 simp only [addD, q, ↓reduceIte]
 rfl
theorem rangeN (lo n : Nat) : rangeD (lo : Int) n = (List.range n).map λ k : Nat => PyData.int ((lo + k : Nat) : Int) := by
 unfold rangeD
 apply List.map_congr_left
 intro k _
 congr 1
theorem comp_nxt {r : List Nat} {n : Nat} {δ : DSt} {fi : DSt -> Option (List PyData)} (hn : n <= 16) (hr : r.length <= 100) (hi : fi δ = some (rangeD (stt r : Nat) (n - stt r))) (h5 : δ[5]? = some (some (.fz (lstN r)))) :
 dCompO 1 [("choice", 5)] fi (gN 0) dYes (d2 addD (dVar 1) (dOwn (dLstO (dCons (dVar 0) dNil)))) δ = some ((nxt n r).map lstN) := by
 have rl : (rangeD (stt r : Nat) (n - stt r)).length = n - stt r := by simp [rangeD]
 rw [dCompO_map (λ d => lstN (r ++ [natOf d])) hi (by rw [rl]; exact lim625 (by omega)) (λ d hd => ?_)]
 · rw [rangeN, zO, nxt, zO]
   rfl
 · rw [rangeN] at hd
   obtain ⟨m, _, rfl⟩ := Q11.mp hd
   have z : (1 : Nat) <= LIM := lit_le 1
   have e : natOf (.int ((stt r + m : Nat) : Int)) = stt r + m := by show ((stt r + m : Nat) : Int).toNat = _; rw [Q20]
   rw [e]
   simp only [dVar, d2, dNil, dCons, dLstO, dOwn, st0D, dYes, gN, zI, zL, zC, zH, Q3, Q4, zA, zB, zE, List.replicate, zD, zG, Nat.reduceAdd, ↓reduceIte, h5, z, add_lstN r (stt r + m) hr]
theorem take_nxt {n : Nat} {l : List (List Nat)} {j : Nat} (h : j < l.length) : (l.take (j + 1)).flatMap (nxt n) = (l.take j).flatMap (nxt n) ++ nxt n l[j] := by
 rw [Q28 h, List.flatMap_append]
 simp
noncomputable def lstR (l : List (List Nat)) : PyData := .list (l.map lstN)
theorem choices_ok {n k : Nat} (hn : n <= 16) (hk : k <= 4) : Fchoices [.int (n : Int), .int (k : Int)] = some (lstR (chs n k)) := by
 have z : (0 : Nat) <= LIM := zU _
 have z1 : (1 : Nat) <= LIM := lit_le 1
 have sk := rng_ok (c := (k : Int)) (by omega) (by omega)
 have sn := rng_ok (c := (n : Int)) (by omega) (by omega)
 have len : ∀ i, i <= 3 -> (chs n i).length <= 4096 := λ i hi => chs_len hn i hi
 obtain ⟨δ', e1, v3, v4, v5, v6, e2⟩ := loopD_of (fg := (gN 3)) (fb := (dSeq (dSetO 4 (dLstO dNil)) (dSeq (dFor (dIter (dVar 2)) (gN 5) (dSeq (dSet 6 (dIfE (dTru (dVar 5)) (d2 addD (d2 ixD (dVar 5) (dNeg (dC (.int 1)))) (dC (.int 1))) (dC (.int 0)))) (dExtend 4 (dOwn (dCompO 1 [("choice", 5)] (dRng2 (dCons (dVar 6) (dCons (dVar 0) dNil))) (gN 0) dYes (d2 addD (dVar 1) (dOwn (dLstO (dCons (dVar 0) dNil))))))))) (dFrz 4 (dSet 2 (dVar 4)))))) (ds := rangeD 0 k) (δ := [some (.fz (.int (n : Int))), some (.fz (.int (k : Int))), some (.fz (.list [.list []])), none, none, none, none])
  (λ i δ => ∃ v3 v4 v5 v6, δ = [some (.fz (.int (n : Int))), some (.fz (.int (k : Int))), some (.fz (lstR (chs n i))), v3, v4, v5, v6]) ⟨none, none, none, none, rfl⟩ (by
   rintro i hi δ ⟨v3, v4, v5, v6, rfl⟩
   have hi' : i < k := by simpa [rangeD] using hi
   have ed : (rangeD 0 k)[i] = .int (i : Nat) := by simp [rangeD]
   rw [ed]
   obtain ⟨δ2, f1, w5, w6, f2⟩ := loopD_of (fg := (gN 5)) (fb := (dSeq (dSet 6 (dIfE (dTru (dVar 5)) (d2 addD (d2 ixD (dVar 5) (dNeg (dC (.int 1)))) (dC (.int 1))) (dC (.int 0)))) (dExtend 4 (dOwn (dCompO 1 [("choice", 5)] (dRng2 (dCons (dVar 6) (dCons (dVar 0) dNil))) (gN 0) dYes (d2 addD (dVar 1) (dOwn (dLstO (dCons (dVar 0) dNil))))))))) (ds := (chs n i).map lstN) (δ := [some (.fz (.int (n : Int))), some (.fz (.int (k : Int))), some (.fz (lstR (chs n i))), some (.fz (.int (i : Nat))), some (.ow []), v5, v6])
    (λ j δ => ∃ w5 w6, δ = [some (.fz (.int (n : Int))), some (.fz (.int (k : Int))), some (.fz (lstR (chs n i))), some (.fz (.int (i : Nat))), some (.ow ((((chs n i).take j).flatMap (nxt n)).map lstN)), w5, w6]) ⟨v5, v6, rfl⟩ (by
     rintro j hj δ ⟨w5, w6, rfl⟩
     have hj' : j < (chs n i).length := by simpa using hj
     have edj : ((chs n i).map lstN)[j] = lstN (chs n i)[j] := by simp
     have hl := (chs_lt n i _ (Qf hj')).2
     have lc := len i (by omega)
     have hz : ((((chs n i).take j).flatMap (nxt n)).map lstN).length + ((nxt n (chs n i)[j]).map lstN).length <= LIM := by
      rw [zJ, zJ]
      have q1 := flat_le (n := n) ((chs n i).take j)
      have q2 := nxt_len n (chs n i)[j]
      rw [Q1a, Nat.min_eq_left (nLe hj')] at q1
      have q3 : j * n <= 4096 * 16 := Nat.mul_le_mul (by omega) hn
      exact Q9 (show _ <= 70000 by omega) (by decide)
     rw [edj]
     refine ⟨_, _, rfl, ?_, some (.fz (lstN (chs n i)[j])), some (.fz (.int (stt (chs n i)[j] : Nat))), rfl⟩
     have st := stt_ok (chs n i)[j] [some (.fz (.int (n : Int))), some (.fz (.int (k : Int))), some (.fz (lstR (chs n i))), some (.fz (.int (i : Nat))), some (.ow ((((chs n i).take j).flatMap (nxt n)).map lstN)), some (.fz (lstN (chs n i)[j])), w6] rfl
     have ss := rng_ok (c := (stt (chs n i)[j] : Int)) (by omega) (by
      unfold stt
      cases q : (chs n i)[j].getLast? with
      | none => simp
      | some l =>
       have hm : l ∈ (chs n i)[j] := List.mem_of_getLast? q
       have := (chs_lt n i _ (Qf hj')).1 l hm
       simp; omega)
     have cx := comp_nxt (n := n) (r := (chs n i)[j]) (fi := dRng2 (dCons (dVar 6) (dCons (dVar 0) dNil))) (δ := [some (.fz (.int (n : Int))), some (.fz (.int (k : Int))), some (.fz (lstR (chs n i))), some (.fz (.int (i : Nat))), some (.ow ((((chs n i).take j).flatMap (nxt n)).map lstN)), some (.fz (lstN (chs n i)[j])), some (.fz (.int (stt (chs n i)[j] : Nat)))]) hn (by omega) (by
      simp only [dVar, dNil, dCons, dRng2, zA, zB, zD, ↓reduceIte, Bool.and_true, ss, sn]
      congr 2
      omega) rfl
     unfold dSeq
     unfold dSet
     simp only [zF, zE]
     rw [st]
     simp only [dExtend, dOwn, zA, zB, zE, zF, zD, zG, ↓reduceIte, cx, hz]
     rw [take_nxt hj', Q13])
   rw [zJ, Q19] at f2
   subst f2
   refine ⟨_, [some (.fz (.int (n : Int))), some (.fz (.int (k : Int))), some (.fz (lstR (chs n (i + 1)))), some (.fz (.int (i : Nat))), some (.fz (lstR (chs n (i + 1)))), w5, w6], rfl, ?_, _, _, _, _, rfl⟩
   unfold lstR at f1 ⊢
   simp only [dSeq, dSet, dSetO, dFrz, dFor, dVar, dNil, dLstO, dIter, seqD, DL.frz, zH, zA, zB, zE, zF, zD, zG, ↓reduceIte, z, f1]
   rfl)
 have len2 : (rangeD 0 k).length = k := by simp [rangeD]
 rw [len2] at e2
 subst e2
 simp only [Fchoices, Bchoices_tl, Bchoices_0, Bchoices_1, Bchoices_2, runD, stD, dSeq, dSet, dRet, dFor, dVar, dNil, dCons, dLstO, dOwn, dRng1, resOf, zI, zL, zC, zH, Q3, Q4, zA, zB, zE, zF, List.replicate, zD, zG, Nat.reduceAdd, Nat.reduceSub, ↓reduceIte, z, z1, sk, Q20, e1]
noncomputable def sel (cs : List (List Int)) (ch : List Nat) : List (List Int) := ch.map λ i : Nat => cs.getD i []
noncomputable def fsP (cs : List (List Int)) (k : Nat) : Option (List (List Int)) := ((chs cs.length k).map (sel cs)).find? λ T => (alikeP (keyP T) cs).isNone
noncomputable def optL : Option (List (List Int)) -> PyData
 | none => .none
 | some T => lstC T
theorem isNo_t (d : List PyData) : isNo (.tuple d) = false := rfl
theorem isNo_l (d : List PyData) : isNo (.list d) = false := rfl
theorem isNo_n : isNo .none = true := rfl
theorem sel_code {p c : Int} (h : (p, c) ∈ games) {k : Nat} {ch : List Nat} (hc : ch ∈ chs (codes p c).length k) : (∀ g ∈ sel (codes p c) ch, Code p c g) /\ (sel (codes p c) ch).length = k := by
 obtain ⟨h1, h2⟩ := chs_lt _ _ _ hc
 refine ⟨λ g hg => ?_, by rw [sel, zJ, h2]⟩
 obtain ⟨i, hi, rfl⟩ := Q11.mp hg
 rw [gDq, gEq (h1 i hi)]
 exact codes_code h (Qf _)
theorem first_settling_ok {p c : Int} (h : (p, c) ∈ games) (n16 : (codes p c).length <= 16) {k : Nat} (hk : k <= 4) : Ffirst_settling [lstC (codes p c), .int (k : Int)] = some (optL (fsP (codes p c) k)) := by
 have q0 := choices_ok n16 hk
 have q0' : Fchoices [.int ((codes p c).length : Int), .int (k : Int)] = some (.list ((chs (codes p c).length k).map lstN)) := q0
 have ix : ∀ i, i < (codes p c).length -> ixD (.list ((codes p c).map tupI)) (.int (i : Int)) = some (tupI ((codes p c).getD i [])) := λ i hi => by
  show atI ((codes p c).map tupI) (i : Int) = _
  rw [atI_nat' (by rw [zJ]; exact hi), List.getElem_map, gDq, gEq hi]
  rfl
 have go := loopD_find (fg := (gN 2)) (fb := (dSeq (dSet 3 (dOwn (dCompO 1 [("codes", 0)] (dIter (dVar 2)) (gN 0) dYes (d2 ixD (dVar 1) (dVar 0))))) (dIf (dB (d2 isND (dOwnCall 2 Ffirst_alike (dCons (dVar 0) (dCons (dVar 3) dNil))) (dC .none))) (dRet (dVar 3)) dNext))) (ds := (chs (codes p c).length k).map lstN) (δ := [some (.fz (.list ((codes p c).map tupI))), some (.fz (.int (k : Int))), none, none])
  (λ i δ => ∃ v2 v3, δ = [some (.fz (.list ((codes p c).map tupI))), some (.fz (.int (k : Int))), v2, v3])
  (λ i => if (alikeP (keyP (sel (codes p c) ((chs (codes p c).length k).getD i []))) (codes p c)).isNone = true then some (lstC (sel (codes p c) ((chs (codes p c).length k).getD i []))) else none) ⟨none, none, rfl⟩ (by
   rintro i hi δ ⟨v2, v3, rfl⟩
   have hi' : i < (chs (codes p c).length k).length := by simpa using hi
   have ed : ((chs (codes p c).length k).map lstN)[i] = lstN (chs (codes p c).length k)[i] := by simp
   have gi : (chs (codes p c).length k).getD i [] = (chs (codes p c).length k)[i] := by rw [gDq, gEq hi']; rfl
   rw [ed, gi]
   generalize hch : (chs (codes p c).length k)[i] = ch
   have hm : ch ∈ chs (codes p c).length k := by rw [<- hch]; exact Qf _
   obtain ⟨s1, s2⟩ := sel_code h hm
   obtain ⟨c1, c2⟩ := chs_lt _ _ _ hm
   refine ⟨[some (.fz (.list ((codes p c).map tupI))), some (.fz (.int (k : Int))), some (.fz (lstN ch)), v3], rfl, ?_⟩
   have cx : (dCompO 1 [("codes", 0)] (dIter (dVar 2)) (gN 0) dYes (d2 ixD (dVar 1) (dVar 0))) [some (.fz (.list ((codes p c).map tupI))), some (.fz (.int (k : Int))), some (.fz (.list (ch.map λ i : Nat => PyData.int (i : Int)))), v3] = some ((sel (codes p c) ch).map tupI) := by
    rw [dCompO_map (ds := ch.map λ i : Nat => PyData.int (i : Int)) (λ d => tupI ((codes p c).getD (natOf d) [])) rfl (by rw [zJ]; exact lim625 (by omega)) (λ d hd => ?_)]
    · rw [zO, sel, zO]
      congr 1
    · obtain ⟨m, hm, rfl⟩ := Q11.mp hd
      have e := ix m (c1 m hm)
      have z : natOf (.int (m : Int)) = m := Q20 m
      rw [z]
      simp only [dVar, d2, st0D, dYes, gN, zI, zL, Q3, Q4, zA, zB, zE, List.replicate, zD, zG, ↓reduceIte, e]
   have q := fa_ok h s1 (by omega)
   have q' : Ffirst_alike [.list ((codes p c).map tupI), .list ((sel (codes p c) ch).map tupI)] = some (optD (alikeP (keyP (sel (codes p c) ch)) (codes p c))) := q
   cases ha : alikeP (keyP (sel (codes p c) ch)) (codes p c) with
   | none =>
    rw [ha] at q'
    refine .inr ⟨_, rfl, ?_⟩
    simp only [lstN, dSeq, dIf, dSet, dRet, dVar, dC, d2, dOwnCall, dNil, dCons, dOwn, dB, dNext, isND, zC, zH, zA, zB, zE, zF, zD, zG, Nat.reduceAdd, ↓reduceIte, cx, q', optD, isNo_n, lstC]
   | some a =>
    rw [ha] at q'
    refine .inl ⟨rfl, _, ?_, some (.fz (lstN ch)), some (.fz (.list ((sel (codes p c) ch).map tupI))), rfl⟩
    simp only [lstN, dSeq, dIf, dSet, dRet, dVar, dC, d2, dOwnCall, dNil, dCons, dOwn, dB, dNext, isND, zC, zH, zA, zB, zE, zF, zD, zG, Nat.reduceAdd, ↓reduceIte, zN, cx, q', optD, encA, isNo_t])
 rw [zJ] at go
 have ln : lenD (.list ((codes p c).map tupI)) = some (codes p c).length := by rw [len_l, zJ]
 have gE : ∀ j (hj : j < (chs (codes p c).length k).length), sel (codes p c) ((chs (codes p c).length k).getD j []) = ((chs (codes p c).length k).map (sel (codes p c)))[j]'(by rw [zJ]; exact hj) := λ j hj => by
  rw [List.getElem_map, gDq, gEq hj]
  rfl
 rcases go with ⟨δ', e1, ⟨v2, v3, e2⟩, e3⟩ | ⟨j, v, hj, e3, e4, e5⟩
 · have fn : fsP (codes p c) k = none := by
    unfold fsP
    rw [List.find?_eq_none]
    intro T hT z
    obtain ⟨j, hj, rfl⟩ := List.getElem_of_mem hT
    rw [zJ] at hj
    have := e3 j hj
    rw [gE j hj, if_pos z] at this
    cases this
   rw [fn]
   subst e2
   simp only [Ffirst_settling, Bfirst_settling_tl, Bfirst_settling_0, Bfirst_settling_1, lstC, runD, stD, dSeq, dRet, dFor, dVar, dC, dCall, dOwnCall, dNil, dCons, dIter, seqD, resOf, lenC, zI, zL, zC, zH, Q3, Q4, zA, zB, List.replicate, zD, zG, Nat.reduceAdd, Nat.reduceSub, ↓reduceIte, ln, q0', e1]
   rfl
 · have e4 : (if (alikeP (keyP (sel (codes p c) ((chs (codes p c).length k).getD j []))) (codes p c)).isNone = true then some (lstC (sel (codes p c) ((chs (codes p c).length k).getD j []))) else none) = some v := e4
   split at e4
   · rename_i z
     have fn : fsP (codes p c) k = some (sel (codes p c) ((chs (codes p c).length k).getD j [])) := by
      unfold fsP
      rw [List.find?_eq_some_iff_getElem]
      refine ⟨z, j, by rw [zJ]; exact hj, (gE j hj).symm, λ i hi => ?_⟩
      have := e3 i hi
      rw [gE i (by omega)] at this
      cases hz : (alikeP (keyP (((chs (codes p c).length k).map (sel (codes p c)))[i]'(by rw [zJ]; omega))) (codes p c)).isNone with
      | false => rfl
      | true => rw [if_pos hz] at this; cases this
     rw [fn]
     cases e4
     simp only [Ffirst_settling, Bfirst_settling_tl, Bfirst_settling_0, Bfirst_settling_1, lstC, runD, stD, dSeq, dRet, dFor, dVar, dC, dCall, dOwnCall, dNil, dCons, dIter, seqD, resOf, lenC, zI, zL, zC, zH, Q3, Q4, zA, zB, List.replicate, zD, zG, Nat.reduceAdd, Nat.reduceSub, ↓reduceIte, ln, q0', e5]
     rfl
   · cases e4
theorem whl_yes {c : DSt -> Option Bool} {f : DSt -> Option DFlow} {n : Nat} {δ δ2 : DSt} (h1 : c δ = some true) (h2 : f δ = some (.nx δ2)) : whileD c f (n + 1) δ = whileD c f n δ2 := by
 rw [whileD, h1, zD, if_pos rfl, h2, zD]
theorem whl_no {c : DSt -> Option Bool} {f : DSt -> Option DFlow} {n : Nat} {δ : DSt} (h1 : c δ = some false) : whileD c f (n + 1) δ = some (.nx δ) := by
 rw [whileD, h1, zD, if_neg Qe]
theorem wh_body {G C d : PyData} {k : Int} {v : Option Sl} (q : Ffirst_settling [C, .int (k + 1)] = some d) : (dSeq (dAug 2 iaddD (dC (.int 1))) (dSet 3 (dOwnCall 2 Ffirst_settling (dCons (dVar 1) (dCons (dVar 2) dNil))))) [some (.fz G), some (.fz C), some (.fz (.int k)), v] = some (.nx [some (.fz G), some (.fz C), some (.fz (.int (k + 1))), some (.fz d)]) := by
 simp only [dSeq, dSet, dAug, dVar, dC, dOwnCall, dNil, dCons, iadd_ii, zC, zH, zA, zB, zE, zF, zD, zG, Nat.reduceAdd, ↓reduceIte, q]
theorem wh_ok {p c : Int} (h : (p, c) ∈ games) (n16 : (codes p c).length <= 16) {m : Nat} {T : List (List Int)} (hm : m <= 4) (hT : fsP (codes p c) m = some T) (hn : ∀ j, j < m -> fsP (codes p c) j = none) (d : Nat) : ∀ (k N : Nat), k + d = m -> d < N ->
 (whileD (dB (d2 isND (dVar 3) (dC .none))) (dSeq (dAug 2 iaddD (dC (.int 1))) (dSet 3 (dOwnCall 2 Ffirst_settling (dCons (dVar 1) (dCons (dVar 2) dNil)))))) N [some (.fz (tupI [p, c])), some (.fz (lstC (codes p c))), some (.fz (.int (k : Int))), some (.fz (optL (fsP (codes p c) k)))] = some (.nx [some (.fz (tupI [p, c])), some (.fz (lstC (codes p c))), some (.fz (.int (m : Int))), some (.fz (lstC T))]) := by
 induction d with
 | zero =>
  intro k N hk hN
  obtain ⟨N', rfl⟩ : ∃ N', N = N' + 1 := ⟨N - 1, by omega⟩
  have : k = m := by omega
  subst this
  rw [hT]
  exact whl_no (by simp only [dVar, dC, d2, dB, isND, zA, zB, zD, optL, lstC, isNo_l])
 | succ d ih =>
  intro k N hk hN
  obtain ⟨N', rfl⟩ : ∃ N', N = N' + 1 := ⟨N - 1, by omega⟩
  have q := first_settling_ok h n16 (k := k + 1) (by omega)
  have e : ((k + 1 : Nat) : Int) = (k : Int) + 1 := by omega
  have i := ih (k + 1) N' (by omega) (by omega)
  rw [e] at q i
  rw [hn k (by omega), <- i]
  exact whl_yes (by simp only [dVar, dC, d2, dB, isND, zA, zB, zD, optL, isNo_n]) (wh_body q)
theorem fewest_ok {p c : Int} (h : (p, c) ∈ games) (n16 : (codes p c).length <= 16) (sg : Fsmall_game [tupI [p, c]] = some (tupI [p, c])) {m : Nat} {T : List (List Int)} (hm : m <= 4) (hT : fsP (codes p c) m = some T) (hn : ∀ j, j < m -> fsP (codes p c) j = none) : Ffewest_settling [tupI [p, c]] = some (lstC T) := by
 have q1 := checked_game_ok h
 have q2 := all_codes_ok h
 have q3 := first_settling_ok h n16 (k := 0) (by omega)
 have q3' : Ffirst_settling [lstC (codes p c), .int 0] = some (optL (fsP (codes p c) 0)) := q3
 have w := wh_ok h n16 hm hT hn m 0 100 (by omega) (by omega)
 have w' : (whileD (dB (d2 isND (dVar 3) (dC .none))) (dSeq (dAug 2 iaddD (dC (.int 1))) (dSet 3 (dOwnCall 2 Ffirst_settling (dCons (dVar 1) (dCons (dVar 2) dNil)))))) 100 [some (.fz (tupI [p, c])), some (.fz (lstC (codes p c))), some (.fz (.int 0)), some (.fz (optL (fsP (codes p c) 0)))] = some (.nx [some (.fz (tupI [p, c])), some (.fz (lstC (codes p c))), some (.fz (.int (m : Int))), some (.fz (lstC T))]) := w
 simp only [Ffewest_settling, Bfewest_settling_tl, Bfewest_settling_0, Bfewest_settling_1, Bfewest_settling_2, Bfewest_settling_3, Bfewest_settling_4, Bfewest_settling_5, Bfewest_settling_6, runD, stD, dSeq, dSet, dRet, dDrop, dVar, dC, dOwnCall, dNil, dCons, resOf, zI, zL, zC, zH, Q3, Q4, zA, zB, zE, zF, List.replicate, zD, zG, Nat.reduceAdd, Nat.reduceSub, ↓reduceIte, q1, q2, sg, q3', w']
noncomputable def pairsP (cs : List (List Int)) (n : Nat) : List (List (List Int)) := (List.range n).flatMap λ i : Nat => (cs.drop (i + 1)).map λ b => [cs.getD i [], b]
noncomputable def rowsN (cs : List (List Int)) (n : Nat) : List (List (List Int)) := ([] :: cs.map λ a => [a]) ++ pairsP cs n
noncomputable def goodP (cs : List (List Int)) : List (List (List Int)) := (rowsN cs cs.length).filter λ r => (alikeP (keyP r) cs).isNone
noncomputable def endP (cs T : List (List Int)) : Bool := match goodP cs with
 | [] => decide (2 < T.length)
 | g :: _ => decide (T = g)
noncomputable def chk13 (cs : List (List Int)) (m : Nat) (T : List (List Int)) : Bool :=
 decide (cs.length <= 16) && decide (m <= 4) && decide (fsP cs m = some T) && (List.range m).all (λ j => (fsP cs j).isNone) && decide (T.Pairwise λ x y => lexI x y = true) && T.all (λ k => !k.isEmpty) && decide (T.length <= 8) && setOk (T.map hashI) && (alikeP (keyP T) cs).isNone && T.all (λ k => cs.contains k) && endP cs T
theorem chk_23 : chk13 (codes 2 3) 2 [[0, 1], [0, 2]] = true := by decide +kernel
theorem chk_32 : chk13 (codes 3 2) 2 [[0, 0, 1], [0, 1, 1]] = true := by decide +kernel
theorem chk_24 : chk13 (codes 2 4) 3 [[0, 0], [1, 2], [1, 3]] = true := by decide +kernel
theorem chk_42 : chk13 (codes 4 2) 3 [[0, 0, 0, 1], [0, 0, 1, 0], [0, 1, 0, 0]] = true := by decide +kernel
theorem chk_15 : chk13 (codes 1 5) 4 [[0], [1], [2], [3]] = true := by decide +kernel
theorem chk_22 : chk13 (codes 2 2) 2 [[0, 0], [0, 1]] = true := by decide +kernel
theorem chk_13 : chk13 (codes 1 3) 2 [[0], [1]] = true := by decide +kernel
structure Chk (cs : List (List Int)) (m : Nat) (T : List (List Int)) : Prop where
 n16 : cs.length <= 16
 m4 : m <= 4
 got : fsP cs m = some T
 not : ∀ j, j < m -> fsP cs j = none
 asc : T.Pairwise λ x y => lexI x y = true
 pos : ∀ k ∈ T, k ≠ []
 few : T.length <= 8
 set : setOk (T.map hashI) = true
 one : alikeP (keyP T) cs = none
 sub : ∀ k ∈ T, k ∈ cs
 fin : endP cs T = true
theorem Chk.of {cs : List (List Int)} {m : Nat} {T : List (List Int)} (h : chk13 cs m T = true) : Chk cs m T := by
 unfold chk13 at h
 simp only [Q2, decide_eq_true_eq, Qd, List.mem_range, Option.isNone_iff_eq_none, List.contains_iff_mem, Bool.not_eq_true', List.isEmpty_eq_false_iff] at h
 obtain ⟨⟨⟨⟨⟨⟨⟨⟨⟨⟨a, b⟩, c⟩, d⟩, e⟩, f⟩, g⟩, i⟩, j⟩, k⟩, l⟩ := h
 exact ⟨a, b, c, d, e, f, g, i, j, k, l⟩
theorem neD_lstC (a b : List (List Int)) : neD (lstC a) (lstC b) = some (.bool (!decide (a = b))) := by
 rw [neD_of (ok_lstC a).ok (ok_lstC b).ok]
 congr 3
 rw [Bool.eq_iff_iff, eqv_iff _ _ (nb_lstC a) (nb_lstC b), decide_eq_true_eq]
 exact ⟨lstC_inj, λ h => by rw [h]⟩
theorem tksD_map : ∀ k : List (List Int), tksD (k.map tupI) = some k
 | [] => rfl
 | x :: k => by
  show (keyD (tupI x)).bind (λ z => (tksD (k.map tupI)).map (z :: ·)) = _
  rw [tksD_map k, show keyD (tupI x) = some x from intsD_map x]
  rfl
theorem sort_set_ok {cs T : List (List Int)} {m : Nat} (k : Chk cs m T) : sortSC [lstC T] = some (lstC T) := by
 have nd : T.Nodup := k.asc.imp λ {x y} h e => by rw [e, DL.lexI_irr] at h; cases h
 have c : (T.all (λ k => !k.isEmpty) && decide (T.length < 64) && decide T.Nodup && setOk (T.map hashI)) = true := by
  rw [k.set, decide_eq_true nd, decide_eq_true (show T.length < 64 by have := k.few; omega)]
  simp only [Bool.and_true, Qd]
  intro x hx
  have := k.pos x hx
  cases x with
  | nil => exact absurd rfl this
  | cons _ _ => rfl
 unfold lstC
 rw [sortSC, tksD_map, zD, if_pos c, <- sortK_of nd (List.Perm.refl _) k.asc]
 rfl
noncomputable def lstL (l : List (List (List Int))) : PyData := .list (l.map lstC)
theorem flat_snoc {cs : List (List Int)} {i : Nat} : rowsN cs (i + 1) = rowsN cs i ++ (cs.drop (i + 1)).map λ b => [cs.getD i [], b] := by
 unfold rowsN pairsP
 rw [List.range_succ, List.flatMap_append, <- List.append_assoc]
 simp
theorem rows_len {cs : List (List Int)} (h : cs.length <= 16) (i : Nat) (hi : i <= cs.length) : (rowsN cs i).length <= 1 + 16 + i * 16 := by
 induction i with
 | zero => simp [rowsN, pairsP]; omega
 | succ i ih =>
  rw [flat_snoc, zQ, zJ, List.length_drop, Nat.succ_mul]
  have := ih (by omega)
  omega
theorem eqD_nil (l : List (List (List Int))) : eqD (lstL l) (.list []) = some (.bool l.isEmpty) := by
 have o1 : okN 3 (lstL l) := okN_list λ d hd => by
  obtain ⟨x, _, rfl⟩ := Q11.mp hd
  exact ok_lstC x
 have o2 : okN 3 (.list []) := okN_list λ d hd => nomatch hd
 rw [eqD_of o1.ok o2.ok]
 cases l with
 | nil => rfl
 | cons a r =>
  congr 2
section
variable {d0 d2_ d3 d4 : PyData} {p c : Int}
theorem r9 {v5 : Option Sl} (n16 : (codes p c).length <= 16) : Blaw_9 [some (.fz d0), some (.fz (tupI [p, c])), some (.fz d2_), some (.fz d3), some (.fz d4), v5, some (.fz (lstC (codes p c))), none, none, none, none] = Blaw_10 [some (.fz d0), some (.fz (tupI [p, c])), some (.fz d2_), some (.fz d3), some (.fz d4), v5, some (.fz (lstC (codes p c))), some (.fz (lstL (rowsN (codes p c) 0))), none, none, none] := by
 have cx : (dCompO 1 [] (dIter (dVar 6)) (gN 0) dYes (dOwn (dLstO (dCons (dVar 0) dNil)))) [some (.fz d0), some (.fz (tupI [p, c])), some (.fz d2_), some (.fz d3), some (.fz d4), v5, some (.fz (.list ((codes p c).map tupI))), none, none, none, none] = some (((codes p c).map λ a => [a]).map lstC) := by
  rw [dCompO_map (ds := (codes p c).map tupI) (λ d => .list [d]) rfl (by rw [zJ]; exact lim625 (by omega)) (λ d hd => ?_)]
  · rw [zO, zO]
    rfl
  · have l1 : (1 : Nat) <= LIM := lit_le 1
    simp only [dVar, dNil, dCons, dLstO, dOwn, st0D, dYes, gN, zL, zC, zH, Q7, zA, zE, List.replicate, zD, zG, Nat.reduceAdd, ↓reduceIte, l1]
 have z0 : (0 : Nat) <= LIM := zU _
 have z1 : (1 : Nat) <= LIM := lit_le 1
 have ad : addD (.list [.list []]) (.list (((codes p c).map λ a => [a]).map lstC)) = some (lstL (rowsN (codes p c) 0)) := by
  have z : [PyData.list []].length + (((codes p c).map λ a => [a]).map lstC).length <= LIM := by rw [zJ, zJ]; exact lim625 (by simp; omega)
  simp only [addD, z, ↓reduceIte]
  unfold rowsN pairsP lstL
  simp only [List.range_zero, List.flatMap_nil, Q7, zI]
  rfl
 unfold Blaw_9 lstC
 simp only [dSeq, dSet, d2, dNil, dCons, dLstO, dOwn, zC, zH, zE, zF, zD, zG, Nat.reduceAdd, ↓reduceIte, cx, z0, z1, ad]
theorem r10 {v5 : Option Sl} (n16 : (codes p c).length <= 16) : ∃ w8 w9, Blaw_10 [some (.fz d0), some (.fz (tupI [p, c])), some (.fz d2_), some (.fz d3), some (.fz d4), v5, some (.fz (lstC (codes p c))), some (.fz (lstL (rowsN (codes p c) 0))), none, none, none] = Blaw_11 [some (.fz d0), some (.fz (tupI [p, c])), some (.fz d2_), some (.fz d3), some (.fz d4), v5, some (.fz (lstC (codes p c))), some (.fz (lstL (rowsN (codes p c) (codes p c).length))), w8, w9, none] := by
 have el : (enumD ((codes p c).map tupI)).length = (codes p c).length := by rw [enumD_len, zJ]
 obtain ⟨δ', e1, w8, w9, e2⟩ := loopD_of (fg := (gT 2 (gC (gN 8) (gC (gN 9) gZ)))) (fb := (dSet 7 (d2 addD (dVar 7) (dOwn (dCompO 1 [("_law_one", 9)] (dIter (dSl (dVar 6) (dPart (d2 addD (dVar 8) (dC (.int 1)))) dNoPart)) (gN 0) dYes (dOwn (dLstO (dCons (dVar 1) (dCons (dVar 0) dNil))))))))) (ds := enumD ((codes p c).map tupI)) (δ := [some (.fz d0), some (.fz (tupI [p, c])), some (.fz d2_), some (.fz d3), some (.fz d4), v5, some (.fz (.list ((codes p c).map tupI))), some (.fz (lstL (rowsN (codes p c) 0))), none, none, none])
  (λ i δ => ∃ w8 w9, δ = [some (.fz d0), some (.fz (tupI [p, c])), some (.fz d2_), some (.fz d3), some (.fz d4), v5, some (.fz (.list ((codes p c).map tupI))), some (.fz (lstL (rowsN (codes p c) i))), w8, w9, none]) ⟨none, none, rfl⟩ (by
   rintro i hi δ ⟨w8, w9, rfl⟩
   have hi' : i < (codes p c).length := by rw [el] at hi; exact hi
   have ed : (enumD ((codes p c).map tupI))[i] = .tuple [.int (i : Nat), tupI (codes p c)[i]] := by
    have := gEq hi
    obtain ⟨e, h1, h2⟩ := enumD_get this
    rw [zK, gEq hi'] at h1
    cases h1
    exact h2
   rw [ed]
   have f2 : cutD ((codes p c).map tupI) (some ((i : Int) + 1)) none = ((codes p c).drop (i + 1)).map tupI := cut_drop (cs := codes p c) (i := i + 1) (by omega)
   have gi : (codes p c).getD i [] = (codes p c)[i] := by rw [gDq, gEq hi']; rfl
   have cx : (dCompO 1 [("_law_one", 9)] (dIter (dSl (dVar 6) (dPart (d2 addD (dVar 8) (dC (.int 1)))) dNoPart)) (gN 0) dYes (dOwn (dLstO (dCons (dVar 1) (dCons (dVar 0) dNil))))) [some (.fz d0), some (.fz (tupI [p, c])), some (.fz d2_), some (.fz d3), some (.fz d4), v5, some (.fz (.list ((codes p c).map tupI))), some (.fz (lstL (rowsN (codes p c) i))), some (.fz (.int (i : Nat))), some (.fz (tupI (codes p c)[i])), none] = some ((((codes p c).drop (i + 1)).map λ b => [(codes p c).getD i [], b]).map lstC) := by
    rw [dCompO_map (ds := ((codes p c).drop (i + 1)).map tupI) (λ d => .list [tupI (codes p c)[i], d]) (by simp only [dVar, dC, d2, dIter, seqD, add_ii, dSl, dNoPart, dPart, slD, zA, zB, zD, f2]) (by rw [zJ, List.length_drop]; exact lim625 (by omega)) (λ d hd => ?_)]
    · rw [zO, zO, gi]
      rfl
    · have l2 : (2 : Nat) <= LIM := lit_le 2
      simp only [dVar, dNil, dCons, dLstO, dOwn, st0D, dYes, gN, zI, zL, zC, zH, Q3, Q4, zA, zB, zE, List.replicate, zD, zG, Nat.reduceAdd, ↓reduceIte, l2]
   have ad : addD (lstL (rowsN (codes p c) i)) (.list ((((codes p c).drop (i + 1)).map λ b => [(codes p c).getD i [], b]).map lstC)) = some (lstL (rowsN (codes p c) (i + 1))) := by
    have z : ((rowsN (codes p c) i).map lstC).length + ((((codes p c).drop (i + 1)).map λ b => [(codes p c).getD i [], b]).map lstC).length <= LIM := by
     have := rows_len n16 i (by omega)
     have q : i * 16 <= 16 * 16 := Nat.mul_le_mul (by omega) (Q1 _)
     rw [zJ, zJ, zJ, List.length_drop]; exact lim625 (by omega)
    unfold lstL
    simp only [addD, z, ↓reduceIte]
    rw [flat_snoc, Q13]
   refine ⟨_, _, rfl, ?_, some (.fz (.int (i : Nat))), some (.fz (tupI (codes p c)[i])), rfl⟩
   simp only [dSet, dVar, d2, dOwn, zA, zB, zE, zF, zD, zG, cx, ad])
 rw [el] at e2
 subst e2
 refine ⟨w8, w9, ?_⟩
 unfold Blaw_10 lstC
 simp only [dSeq, dFor, dVar, dNil, dCons, seqD, dEn, zA, zB, zD, zG, e1]
theorem row_codes {n : Nat} (hn : n <= (codes p c).length) {r : List (List Int)} (hr : r ∈ rowsN (codes p c) n) : (∀ g ∈ r, g ∈ codes p c) /\ r.length <= 2 := by
 unfold rowsN pairsP at hr
 rcases Q25.mp hr with hr | hr
 · rcases Qb.mp hr with rfl | hr
   · exact ⟨(λ g hg => nomatch hg), zU _⟩
   · obtain ⟨a, ha, rfl⟩ := Q11.mp hr
     exact ⟨λ g hg => by rw [Q1d.mp hg]; exact ha, by simp⟩
 · obtain ⟨i, hi, hr⟩ := List.mem_flatMap.mp hr
   obtain ⟨b, hb, rfl⟩ := Q11.mp hr
   have hi' : i < (codes p c).length := by have := List.mem_range.mp hi; omega
   refine ⟨λ g hg => ?_, by simp⟩
   rcases Qb.mp hg with rfl | hg
   · rw [gDq, gEq hi']
     exact Qf _
   · rw [Q1d.mp hg]
     exact List.mem_of_mem_drop hb
noncomputable def rowOf (d : PyData) : List (List Int) := @dite _ (∃ x, lstC x = d) (Classical.propDecidable _) (λ h => Classical.choose h) (λ _ => [])
theorem rowOf_lst (x : List (List Int)) : rowOf (lstC x) = x := by
 unfold rowOf
 have h : ∃ y, lstC y = lstC x := ⟨x, rfl⟩
 rw [dif_pos h]
 exact lstC_inj (Classical.choose_spec h)
theorem r11 (h : (p, c) ∈ games) {v5 w8 w9 : Option Sl} (n16 : (codes p c).length <= 16) : Blaw_11 [some (.fz d0), some (.fz (tupI [p, c])), some (.fz d2_), some (.fz d3), some (.fz d4), v5, some (.fz (lstC (codes p c))), some (.fz (lstL (rowsN (codes p c) (codes p c).length))), w8, w9, none] = Blaw_12 [some (.fz d0), some (.fz (tupI [p, c])), some (.fz d2_), some (.fz d3), some (.fz d4), v5, some (.fz (lstC (codes p c))), some (.fz (lstL (rowsN (codes p c) (codes p c).length))), w8, w9, some (.fz (lstL (goodP (codes p c))))] := by
 have cx : (dCompO 1 [("_law_game", 1)] (dIter (dVar 7)) (gN 0) (dB (d2 isND (dOwnCall 2 F_law_alike (dCons (dVar 1) (dCons (dVar 0) dNil))) (dC .none))) (dVar 0)) [some (.fz d0), some (.fz (tupI [p, c])), some (.fz d2_), some (.fz d3), some (.fz d4), v5, some (.fz (lstC (codes p c))), some (.fz (.list ((rowsN (codes p c) (codes p c).length).map lstC))), w8, w9, none] = some ((goodP (codes p c)).map lstC) := by
  rw [dCompO_filter (ds := (rowsN (codes p c) (codes p c).length).map lstC) (λ d => (alikeP (keyP (rowOf d)) (codes p c)).isNone) (λ d => d) rfl (by
   have := rows_len n16 (codes p c).length (Q1 _)
   have q : (codes p c).length * 16 <= 16 * 16 := Nat.mul_le_mul n16 (Q1 _)
   rw [zJ]; exact lim625 (by omega)) (λ d hd => ?_)]
  · rw [map_id', filter_enc lstC _ (λ r => (alikeP (keyP r) (codes p c)).isNone) (λ r _ => by rw [rowOf_lst])]
    rfl
  · obtain ⟨r, hr, rfl⟩ := Q11.mp hd
    obtain ⟨r1, r2⟩ := row_codes (Q1 _) hr
    have q := law_alike_ok h (gs := r) (λ g hg => codes_code h (r1 g hg)) (by omega)
    rw [rowOf_lst]
    generalize lstC r = R at q
    cases ha : alikeP (keyP r) (codes p c) with
    | none =>
     rw [ha] at q
     simp only [dVar, dC, d2, dOwnCall, dNil, dCons, dB, st0D, gN, isND, zI, zL, zC, zH, Q3, Q4, zA, zB, zE, List.replicate, zD, zG, Nat.reduceAdd, ↓reduceIte, q, optD, isNo_n]
     rfl
    | some a =>
     rw [ha] at q
     simp only [dVar, dC, d2, dOwnCall, dNil, dCons, dB, st0D, gN, isND, zI, zL, zC, zH, Q3, Q4, zA, zB, zE, List.replicate, zD, zG, Nat.reduceAdd, ↓reduceIte, zN, q, optD, encA, isNo_t]
     rfl
 unfold Blaw_11 lstL
 simp only [dSeq, dSet, dOwn, zE, zF, zD, zG, cx]
theorem r12 {v6 v7 v8 v9 : Option Sl} {T : List (List Int)} (e : endP (codes p c) T = true) : Blaw_12 [some (.fz d0), some (.fz (tupI [p, c])), some (.fz d2_), some (.fz d3), some (.fz d4), some (.fz (lstC T)), v6, v7, v8, v9, some (.fz (lstL (goodP (codes p c))))] = some (.rt (.bool true)) := by
 unfold endP at e
 have z0 : (0 : Nat) <= LIM := zU _
 have q := eqD_nil (goodP (codes p c))
 have ln : lenD (lstC T) = some T.length := by unfold lstC; rw [len_l, zJ]
 cases hg : goodP (codes p c) with
 | nil =>
  rw [hg] at e q
  have e : decide (2 < T.length) = true := e
  have g : decide ((2 : Int) < (T.length : Nat)) = true := by
   rw [decide_eq_true_eq] at e ⊢
   omega
  unfold Blaw_12
  simp only [dSeq, dIf, dRet, dVar, dC, d2, dCall, dNil, dCons, dLstO, dOwn, dB, dNext, lenC, gt_ii, zH, zA, zB, zD, zG, ↓reduceIte, z0, q, ln, g, List.isEmpty_nil]
 | cons x r =>
  rw [hg] at e q
  have e : decide (T = x) = true := e
  have ix : ixD (lstL (x :: r)) (.int 0) = some (lstC x) := by
   show atI ((x :: r).map lstC) ((0 : Nat) : Int) = _
   rw [atI_nat' (by simp)]
   rfl
  have q2 := eqD_lstC T x
  rw [e] at q2
  unfold Blaw_12 Blaw_13
  simp only [dSeq, dIf, dRet, dVar, dC, d2, dCall, dNil, dCons, dLstO, dOwn, dB, dNext, lenC, zH, zA, zB, zD, zG, ↓reduceIte, zN, z0, q, ix, q2, List.isEmpty_cons]
theorem r7 (h : (p, c) ∈ games) {m : Nat} {T : List (List Int)} (k : Chk (codes p c) m T) : Blaw_7 [some (.fz d0), some (.fz (tupI [p, c])), some (.fz d2_), some (.fz d3), some (.fz d4), some (.fz (lstC T)), none, none, none, none, none] = Blaw_9 [some (.fz d0), some (.fz (tupI [p, c])), some (.fz d2_), some (.fz d3), some (.fz d4), some (.fz (lstC T)), some (.fz (lstC (codes p c))), none, none, none, none] := by
 have q1 := sort_set_ok k
 have q2 := neD_lstC T T
 rw [decide_eq_true rfl] at q2
 have few := k.few
 have q3 := law_alike_ok h (gs := T) (λ g hg => codes_code h (k.sub g hg)) (by omega)
 rw [k.one] at q3
 have q4 := law_codes_ok h
 rw [optD] at q3
 unfold lstC at q1 q2 q3 q4 ⊢
 unfold Blaw_7 Blaw_8
 simp only [dSortS, dSeq, dIf, dSet, dRet, dVar, dC, d2, dOwnCall, dNil, dCons, dB, dTru, truD, dNotT, dOrT, dNext, dIsi, isi_ll, notND, zC, zH, zA, zB, zE, zF, zD, zG, Nat.reduceAdd, ↓reduceIte, Q12, zN, q1, q2, q3, q4, isNo_n]
theorem rest_ok (h : (p, c) ∈ games) (sg : Fsmall_game [tupI [p, c]] = some (tupI [p, c])) {m : Nat} {T : List (List Int)} (ck : chk13 (codes p c) m T = true) : Blaw_6 [some (.fz d0), some (.fz (tupI [p, c])), some (.fz d2_), some (.fz d3), some (.fz d4), none, none, none, none, none, none] = some (.rt (.bool true)) := by
 have k := Chk.of ck
 have q := fewest_ok h k.n16 sg k.m4 k.got k.not
 have s6 : Blaw_6 [some (.fz d0), some (.fz (tupI [p, c])), some (.fz d2_), some (.fz d3), some (.fz d4), none, none, none, none, none, none] = Blaw_7 [some (.fz d0), some (.fz (tupI [p, c])), some (.fz d2_), some (.fz d3), some (.fz d4), some (.fz (lstC T)), none, none, none, none, none] := by
  unfold Blaw_6
  simp only [dSeq, dSet, dVar, dOwnCall, dNil, dCons, zC, zH, zA, zB, zE, zF, zD, zG, Nat.reduceAdd, ↓reduceIte, q]
 rw [s6, r7 h k, r9 k.n16]
 obtain ⟨w8, w9, e⟩ := r10 (d0 := d0) (d2_ := d2_) (d3 := d3) (d4 := d4) (v5 := some (.fz (lstC T))) k.n16
 rw [e, r11 h k.n16, r12 k.fin]
end
noncomputable def games7 : List (Int × Int) := [(2, 3), (3, 2), (2, 4), (4, 2), (1, 5), (2, 2), (1, 3)]
theorem games7_or {p c : Int} (h : (p, c) ∈ games7) : (p = 2 /\ c = 3) \/ (p = 3 /\ c = 2) \/ (p = 2 /\ c = 4) \/ (p = 4 /\ c = 2) \/ (p = 1 /\ c = 5) \/ (p = 2 /\ c = 2) \/ (p = 1 /\ c = 3) :=
 by simpa [games7] using h
theorem games7_in {p c : Int} (h : (p, c) ∈ games7) : (p, c) ∈ games := by
 rcases games7_or h with ⟨rfl, rfl⟩ | ⟨rfl, rfl⟩ | ⟨rfl, rfl⟩ | ⟨rfl, rfl⟩ | ⟨rfl, rfl⟩ | ⟨rfl, rfl⟩ | ⟨rfl, rfl⟩ <;> decide
theorem rest7 {d0 d2_ d3 d4 : PyData} {p c : Int} (h : (p, c) ∈ games7) : Blaw_6 [some (.fz d0), some (.fz (tupI [p, c])), some (.fz d2_), some (.fz d3), some (.fz d4), none, none, none, none, none, none] = some (.rt (.bool true)) := by
 have hm := games7_in h
 rcases games7_or h with ⟨rfl, rfl⟩ | ⟨rfl, rfl⟩ | ⟨rfl, rfl⟩ | ⟨rfl, rfl⟩ | ⟨rfl, rfl⟩ | ⟨rfl, rfl⟩ | ⟨rfl, rfl⟩
 · exact rest_ok hm rfl chk_23
 · exact rest_ok hm rfl chk_32
 · exact rest_ok hm rfl chk_24
 · exact rest_ok hm rfl chk_42
 · exact rest_ok hm rfl chk_15
 · exact rest_ok hm rfl chk_22
 · exact rest_ok hm rfl chk_13
theorem eight {m : Int} (h : 0 <= m /\ m < 8) : m = 0 \/ m = 1 \/ m = 2 \/ m = 3 \/ m = 4 \/ m = 5 \/ m = 6 \/ m = 7 := by omega
theorem small_ok (ns : List Int) : ∃ p c, F_law_small [scr ns, .int 0] = some (tupI [p, c]) /\ (p, c) ∈ games7 := by
 have k0 : F_law_cell [scr ns, .int 0] = some (.int (cellI ns 0)) := cell_ok ns 0
 have k3 := mix_ok (cellI ns 0) (p := 9973) (m := 8) (by decide) (by decide)
 have l8 : (8 : Nat) <= LIM := lim625 (by decide)
 have e : F_law_small [scr ns, .int 0] = ixD (.list [.tuple [.int 2, .int 3], .tuple [.int 3, .int 2], .tuple [.int 2, .int 4], .tuple [.int 4, .int 2], .tuple [.int 1, .int 5], .tuple [.int 2, .int 2], .tuple [.int 1, .int 3], .tuple [.int 2, .int 3]]) (.int (mixI (cellI ns 0) 9973 8)) := by
  simp only [F_law_small, B_law_small_tl, B_law_small_0, B_law_small_1, dLits,  runD, stD, dSeq, dSet, dRet, dVar, dC, d2, dOwnCall, dNil, dCons, dLstO, dOwn, zI, zL, zC, zH, Q3, Q4, zA, zB, zE, zF, List.replicate, zD, zG, Nat.reduceAdd, Nat.reduceSub, ↓reduceIte, k0, k3, l8]
  generalize ixD _ _ = z
  cases z <;> rfl
 rw [e]
 rcases eight (mixI_b (cellI ns 0) (p := 9973) (show (0 : Int) < 8 by decide)) with h | h | h | h | h | h | h | h <;> rw [h]
 · exact ⟨2, 3, rfl, by decide⟩
 · exact ⟨3, 2, rfl, by decide⟩
 · exact ⟨2, 4, rfl, by decide⟩
 · exact ⟨4, 2, rfl, by decide⟩
 · exact ⟨1, 5, rfl, by decide⟩
 · exact ⟨2, 2, rfl, by decide⟩
 · exact ⟨1, 3, rfl, by decide⟩
 · exact ⟨2, 3, rfl, by decide⟩
noncomputable def gsI (p c : Int) (ns : List Int) (m : Nat) : List (List Int) := (List.range m).map λ k : Nat => codeI p c (cellI ns (2 + k) + 17 * (k : Int) * (k : Int))
theorem gs_ok {p c : Int} (h : (p, c) ∈ games) (ns : List Int) : (dCompO 1 [("_law_game", 1), ("_law_script", 0)] (dRng1 (dCons (d2 modD (dOwnCall 2 F_law_cell (dCons (dVar 0) (dCons (dC (.int 1)) dNil))) (dC (.int 4))) dNil)) (gN 0) dYes (dOwnCall 2 F_law_code (dCons (dVar 1) (dCons (d2 addD (dOwnCall 2 F_law_cell (dCons (dVar 2) (dCons (d2 addD (dC (.int 2)) (dVar 0)) dNil))) (d2 mulI (d2 mulI (dC (.int 17)) (dVar 0)) (dVar 0))) dNil)))) [some (.fz (scr ns)), some (.fz (tupI [p, c])), none, none, none, none, none, none, none, none, none] = some ((gsI p c ns (cellI ns 1 % 4).toNat).map tupI) := by
 have k1 : F_law_cell [scr ns, .int 1] = some (.int (cellI ns 1)) := cell_ok ns 1
 have m1 : cMod (cellI ns 1) 4 = true := by unfold cMod; decide
 have t0 : 0 <= cellI ns 1 % 4 := Int.emod_nonneg _ (by decide)
 have t1 : cellI ns 1 % 4 < 4 := Int.emod_lt_of_pos _ (by decide)
 have sm := rng_ok t0 (by omega)
 have rl : (rangeD 0 (cellI ns 1 % 4).toNat).length = (cellI ns 1 % 4).toNat := by simp [rangeD]
 rw [dCompO_map (ds := rangeD 0 (cellI ns 1 % 4).toNat) (λ d => tupI (codeI p c (cellI ns (2 + natOf d) + 17 * (natOf d : Int) * (natOf d : Int)))) (by simp only [dVar, dC, d2, dOwnCall, dNil, dCons, dRng1, mod_ii, zC, zH, zA, zD, Nat.reduceAdd, ↓reduceIte, k1, m1, sm]) (by rw [rl]; exact lim625 (by omega)) (λ d hd => ?_)]
 · rw [range_int, zO, gsI, zO]
   rfl
 · rw [range_int] at hd
   obtain ⟨k, hk, rfl⟩ := Q11.mp hd
   have hk' : k < 4 := by have := List.mem_range.mp hk; omega
   have z : natOf (.int (k : Int)) = k := Q20 k
   have q1 : cMul 17 (k : Int) = true := cMul_left _ (by omega)
   have q2 : cMul (17 * (k : Int)) (k : Int) = true := cMul_right _ (by omega)
   have q3 : F_law_cell [scr ns, .int (2 + (k : Int))] = some (.int (cellI ns (2 + k))) := by
    have := cell_ok ns (2 + k)
    rw [show ((2 + k : Nat) : Int) = 2 + (k : Int) by omega] at this
    exact this
   have q4 := code_ok h (cellI ns (2 + k) + 17 * (k : Int) * (k : Int))
   rw [z]
   simp only [dVar, dC, d2, dOwnCall, dNil, dCons, st0D, dYes, gN, mul_ii, add_ii, zI, zL, zC, zH, Q3, Q4, zA, zB, zE, List.replicate, zD, zG, Nat.reduceAdd, ↓reduceIte, q1, q2, q3, q4]
theorem too_ok (x : Int) : ∃ g, ixD (.list [.tuple [.int 3, .int 3], .tuple [.int 2, .int 5], .tuple [.int 5, .int 2], .tuple [.int 3, .int 4]]) (.int (x % 4)) = some g /\ F_law_too_big [g] = some (.list [.bool true, .bool true]) := by
 have t0 : 0 <= x % 4 := Int.emod_nonneg _ (by decide)
 have t1 : x % 4 < 4 := Int.emod_lt_of_pos _ (by decide)
 have : x % 4 = 0 \/ x % 4 = 1 \/ x % 4 = 2 \/ x % 4 = 3 := by omega
 rcases this with e | e | e | e <;> rw [e]
 · exact ⟨_, rfl, rfl⟩
 · exact ⟨_, rfl, rfl⟩
 · exact ⟨_, rfl, rfl⟩
 · exact ⟨_, rfl, rfl⟩
theorem neD_opt (a : Option Ask) : neD (optD a) (optD a) = some (.bool false) := by
 cases a with
 | none => rfl
 | some a =>
  show neD (encA a) (encA a) = _
  rw [neD_of (ok_encA a).ok (ok_encA a).ok, eqv_encA, decide_eq_true rfl]
  rfl
theorem neD_bl (b : Bool) : neD (.bool b) (.bool b) = some (.bool false) := by cases b <;> rfl
theorem s4 {d0 d1 d2_ a b : PyData} (q : Falike_by [d1, d2_] = some a) (n1 : neD a a = some (.bool false)) (x : Bool) (hb : b = .bool x) (n2 : isND a .none = some b) : Blaw_4 [some (.fz d0), some (.fz d1), some (.fz d2_), some (.fz a), some (.fz b), none, none, none, none, none, none] = Blaw_5 [some (.fz d0), some (.fz d1), some (.fz d2_), some (.fz a), some (.fz b), none, none, none, none, none, none] := by
 subst hb
 have n3 := neD_bl x
 have n4 : isNo a = x := by
  have n2 : some (PyData.bool (isNo a)) = some (.bool x) := n2
  injection n2 with n2
  injection n2
 have n5 : isiN (PyData.bool x) "bool" = true := by cases x <;> rfl
 unfold Blaw_4
 simp only [dSeq, dIf, dRet, dVar, dC, d2, dOwnCall, dNil, dCons, dB, dTru, truD, dNotT, dOrT, dNext, dIsi, isND, zC, zH, zA, zB, zD, zG, Nat.reduceAdd, ↓reduceIte, Q12, zN, q, n1, n4, n5, n3]
theorem st0 {B : DSt -> Option DFlow} {s g : PyData} (q : F_law_small [s, .int 0] = some g) : runD 11 (dSeq (dSet 1 (dOwnCall 2 F_law_small (dCons (dVar 0) (dCons (dC (.int 0)) dNil)))) B) [s] = (B [some (.fz s), some (.fz g), none, none, none, none, none, none, none, none, none]).bind resOf := by
 simp only [runD, stD, dSeq, dSet, dVar, dC, dOwnCall, dNil, dCons, zI, zL, zC, zH, Q3, Q4, zA, zE, zF, List.replicate, zD, zG, Nat.reduceAdd, Nat.reduceSub, ↓reduceIte, q]
theorem st1 {B : DSt -> Option DFlow} {f : DSt -> Option (List PyData)} {a b : Option Sl} {r : DSt} {ds : List PyData} (q : f (a :: b :: none :: r) = some ds) : dSeq (dSet 2 (dOwn f)) B (a :: b :: none :: r) = B (a :: b :: some (.fz (.list ds)) :: r) := by
 simp only [dSeq, dSet, dOwn, q, zG, zD, zE, zF]
theorem law_true (ns : List Int) (hl : ns.length <= 63) : Flaw [scr ns] = some (.bool true) := by
 have k1 : F_law_cell [scr ns, .int 1] = some (.int (cellI ns 1)) := cell_ok ns 1
 have k2 : F_law_cell [scr ns, .int 2] = some (.int (cellI ns 2)) := cell_ok ns 2
 obtain ⟨p, c, hg, h7⟩ := small_ok ns
 have hm := games7_in h7
 have g0 := gs_ok hm ns
 generalize hgs : gsI p c ns (cellI ns 1 % 4).toNat = gs at g0
 have cg : ∀ g ∈ gs, Code p c g := λ g hg => by
  rw [<- hgs] at hg
  obtain ⟨k, _, rfl⟩ := Q11.mp hg
  exact codeI_code hm _
 have gl : gs.length <= 8 := by
  rw [<- hgs, gsI, zJ, List.length_range]
  have := Int.emod_lt_of_pos (cellI ns 1) (show (0 : Int) < 4 by decide)
  omega
 have q1 := law_alike_ok hm cg (by omega)
 have q2 := settle_all_ok hm cg gl
 have q3 := alike_by_ok hm cg gl
 have i1 := isND_opt (alikeP (keyP gs) (codes p c))
 have n1 := neD_opt (alikeP (keyP gs) (codes p c))
 have rest := rest7 (d0 := scr ns) (d2_ := lstC gs) (d3 := optD (alikeP (keyP gs) (codes p c))) (d4 := .bool (alikeP (keyP gs) (codes p c)).isNone) h7
 generalize optD (alikeP (keyP gs) (codes p c)) = a at *
 generalize (alikeP (keyP gs) (codes p c)).isNone = b at *
 have e4 := s4 (d0 := scr ns) q3 n1 b rfl i1
 have g0' : (dCompO 1 [("_law_game", 1), ("_law_script", 0)] (dRng1 (dCons (d2 modD (dOwnCall 2 F_law_cell (dCons (dVar 0) (dCons (dC (.int 1)) dNil))) (dC (.int 4))) dNil)) (gN 0) dYes (dOwnCall 2 F_law_code (dCons (dVar 1) (dCons (d2 addD (dOwnCall 2 F_law_cell (dCons (dVar 2) (dCons (d2 addD (dC (.int 2)) (dVar 0)) dNil))) (d2 mulI (d2 mulI (dC (.int 17)) (dVar 0)) (dVar 0))) dNil)))) [some (.fz (scr ns)), some (.fz (tupI [p, c])), none, none, none, none, none, none, none, none, none] = some (gs.map tupI) := g0
 have e0 : Flaw [scr ns] = (Blaw_1 [some (.fz (scr ns)), some (.fz (tupI [p, c])), none, none, none, none, none, none, none, none, none]).bind resOf := by
  show runD 11 Blaw [scr ns] = _
  rw [Blaw_tl]
  exact st0 hg
 have e1 : Blaw_1 [some (.fz (scr ns)), some (.fz (tupI [p, c])), none, none, none, none, none, none, none, none, none] = Blaw_2 [some (.fz (scr ns)), some (.fz (tupI [p, c])), some (.fz (lstC gs)), none, none, none, none, none, none, none, none] := by
  exact st1 g0'
 have e2 : Blaw_2 [some (.fz (scr ns)), some (.fz (tupI [p, c])), some (.fz (lstC gs)), none, none, none, none, none, none, none, none] = Blaw_4 [some (.fz (scr ns)), some (.fz (tupI [p, c])), some (.fz (lstC gs)), some (.fz a), some (.fz (.bool b)), none, none, none, none, none, none] := by
  unfold Blaw_2 Blaw_3
  simp only [dSeq, dSet, dVar, dOwnCall, dNil, dCons, zC, zH, zA, zB, zE, zF, zD, zG, Nat.reduceAdd, ↓reduceIte, q1, q2]
 rw [e0, e1, e2, e4]
 have m1 : cDiv (cellI ns 1) 4 = true := by unfold cDiv; decide
 have m2 : cMod (cellI ns 1 / 4) 3 = true := by unfold cMod; decide
 have m3 : cMod (cellI ns 2) 4 = true := by unfold cMod; decide
 have l4 : (4 : Nat) <= LIM := lim625 (by decide)
 have l2 : (2 : Nat) <= LIM := lim625 (by decide)
 by_cases hc : cellI ns 1 / 4 % 3 = 1
 · have e5 : eqD (.int (cellI ns 1 / 4 % 3)) (.int 1) = some (.bool true) := by rw [eqD_int, decide_eq_true hc]
   obtain ⟨g, t1, t2⟩ := too_ok (cellI ns 2)
   have t3 : eqD (.list [.bool true, .bool true]) (.list [.bool true, .bool true]) = some (.bool true) := by rfl
   unfold Blaw_5
   simp only [dLits,  dSeq, dIf, dRet, dVar, dC, d2, dOwnCall, dNil, dCons, dLstO, dOwn, dB, dNext, resOf, mod_ii, fdiv_ii, zC, zH, zA, zD, zG, Nat.reduceAdd, ↓reduceIte, k1, k2, m1, m2, m3, l4, l2, e5, t1, t2, t3]
 · have e5 : eqD (.int (cellI ns 1 / 4 % 3)) (.int 1) = some (.bool false) := by rw [eqD_int, decide_eq_false hc]
   unfold Blaw_5
   simp only [dLits,  dSeq, dIf, dRet, dVar, dC, d2, dOwnCall, dNil, dCons, dLstO, dOwn, dB, dNext, resOf, mod_ii, fdiv_ii, zC, zH, zA, zD, Nat.reduceAdd, ↓reduceIte, zN, k1, m1, m2, e5, rest]
noncomputable def top (i : Nat) : Stmt := PySem.Challenge.pw_guesscode_k13_settling_at_once.main.body.getD i (.Pass ⟨0, 0, 0, 0⟩)
section
variable {P : Program} {w : World} {K : Fg} {mg : Str -> Option Value} {base : Heap} {f : Addr} {fd : FuncData}
noncomputable abbrev s_law_mix : Stmt := top 33
theorem sc_law_mix : FnScope ["_law_cell_here", "_law_prime", "_law_many"] ["_law_cell_here", "_law_prime", "_law_many"] (defScope s_law_mix) := fsc
noncomputable abbrev s_law_cell : Stmt := top 32
theorem sc_law_cell : FnScope ["_law_script", "_law_k"] ["_law_script", "_law_k"] (defScope s_law_cell) := fsc
noncomputable abbrev s_law_small : Stmt := top 34
theorem sc_law_small : FnScope ["_law_script", "_law_at", "_law_some"] ["_law_script", "_law_at"] (defScope s_law_small) := fsc
noncomputable abbrev s_law_code : Stmt := top 35
theorem sc_law_code : FnScope ["_law_game", "_law_cell_here", "_law_found", "_law_place"] ["_law_game", "_law_cell_here"] (defScope s_law_code) := fsc
noncomputable abbrev s_law_codes : Stmt := top 36
theorem sc_law_codes : FnScope ["_law_game", "_law_found", "_law_place", "_law_more", "_law_code_here"] ["_law_game"] (defScope s_law_codes) := fsc
noncomputable abbrev s_law_answer : Stmt := top 37
theorem sc_law_answer : FnScope ["_law_one", "_law_other", "_law_right", "_law_mine", "_law_theirs", "_law_a", "_law_b", "_law_elsewhere", "_law_colour"] ["_law_one", "_law_other"] (defScope s_law_answer) := fsc
noncomputable abbrev s_law_alike : Stmt := top 38
theorem sc_law_alike : FnScope ["_law_game", "_law_guesses", "_law_codes_here", "_law_at", "_law_one", "_law_other"] ["_law_game", "_law_guesses"] (defScope s_law_alike) := fsc
noncomputable abbrev sis_pair : Stmt := top 11
theorem scis_pair : FnScope ["thing"] ["thing"] (defScope sis_pair) := fsc
noncomputable abbrev sis_number_within : Stmt := top 10
theorem scis_number_within : FnScope ["thing", "low", "high"] ["thing", "low", "high"] (defScope sis_number_within) := fsc
noncomputable abbrev show_many_codes : Stmt := top 12
theorem schow_many_codes : FnScope ["places", "colours", "codes", "place"] ["places", "colours"] (defScope show_many_codes) := fsc
noncomputable abbrev sis_game : Stmt := top 13
theorem scis_game : FnScope ["thing"] ["thing"] (defScope sis_game) := fsc
noncomputable abbrev schecked_game : Stmt := top 14
theorem scchecked_game : FnScope ["game"] ["game"] (defScope schecked_game) := fsc
noncomputable abbrev sis_code : Stmt := top 16
theorem scis_code : FnScope ["game", "thing"] ["game", "thing"] (defScope sis_code) := fsc
noncomputable abbrev schecked_list : Stmt := top 21
theorem scchecked_list : FnScope ["game", "things", "is_one", "at", "thing"] ["game", "things", "is_one"] (defScope schecked_list) := fsc
noncomputable abbrev schecked_guesses : Stmt := top 22
theorem scchecked_guesses : FnScope ["game", "guesses"] ["game", "guesses"] (defScope schecked_guesses) := fsc
noncomputable abbrev sanswer_of : Stmt := top 18
theorem scanswer_of : FnScope ["hidden", "guess", "right", "shared", "unmatched", "place", "colour"] ["hidden", "guess"] (defScope sanswer_of) := fsc
noncomputable abbrev sanswers_to : Stmt := top 25
theorem scanswers_to : FnScope ["code", "guesses"] ["code", "guesses"] (defScope sanswers_to) := fsc
noncomputable abbrev sfirst_alike : Stmt := top 26
theorem scfirst_alike : FnScope ["codes", "guesses", "first", "pairs", "code", "given"] ["codes", "guesses"] (defScope sfirst_alike) := fsc
noncomputable abbrev sall_codes : Stmt := top 17
theorem scall_codes : FnScope ["game", "codes", "place", "longer", "code"] ["game"] (defScope sall_codes) := fsc
noncomputable abbrev salike_by : Stmt := top 27
theorem scalike_by : FnScope ["game", "guesses"] ["game", "guesses"] (defScope salike_by) := fsc
noncomputable abbrev ssettle_all : Stmt := top 28
theorem scsettle_all : FnScope ["game", "guesses"] ["game", "guesses"] (defScope ssettle_all) := fsc
noncomputable abbrev ssmall_game : Stmt := top 15
theorem scsmall_game : FnScope ["game"] ["game"] (defScope ssmall_game) := fsc
noncomputable abbrev sfewest_settling : Stmt := top 30
theorem scfewest_settling : FnScope ["game", "codes", "size", "guesses"] ["game"] (defScope sfewest_settling) := fsc
noncomputable abbrev s_law_too_big : Stmt := top 39
theorem sc_law_too_big : FnScope ["_law_game", "e"] ["_law_game"] (defScope s_law_too_big) := fsc
noncomputable abbrev schoices : Stmt := top 23
theorem scchoices : FnScope ["places", "size", "chosen", "step", "longer", "choice", "start"] ["places", "size"] (defScope schoices) := fsc
noncomputable abbrev sfirst_settling : Stmt := top 29
theorem scfirst_settling : FnScope ["codes", "size", "choice", "guesses"] ["codes", "size"] (defScope sfirst_settling) := fsc
noncomputable abbrev slaw : Stmt := top 40
theorem sclaw : FnScope ["_law_script", "_law_game", "_law_guesses", "_law_due", "_law_found", "_law_told", "_law_codes_here", "_law_rows", "_law_at", "_law_one", "_law_good"] ["_law_script"] (defScope slaw) := fsc
abbrev W_law_mix (P : Program) (w : World) (K : Fg) (mg : Str -> Option Value) (base : Heap) : Prop := Own P w K mg base 1 "_law_mix" ["_law_cell_here", "_law_prime", "_law_many"] (spD K 3 F_law_mix)
abbrev W_law_cell (P : Program) (w : World) (K : Fg) (mg : Str -> Option Value) (base : Heap) : Prop := Own P w K mg base 1 "_law_cell" ["_law_script", "_law_k"] (spD K 2 F_law_cell)
abbrev W_law_small (P : Program) (w : World) (K : Fg) (mg : Str -> Option Value) (base : Heap) : Prop := Own P w K mg base 2 "_law_small" ["_law_script", "_law_at"] (spD K 2 F_law_small)
abbrev W_law_code (P : Program) (w : World) (K : Fg) (mg : Str -> Option Value) (base : Heap) : Prop := Own P w K mg base 2 "_law_code" ["_law_game", "_law_cell_here"] (spD K 2 F_law_code)
abbrev W_law_codes (P : Program) (w : World) (K : Fg) (mg : Str -> Option Value) (base : Heap) : Prop := Own P w K mg base 1 "_law_codes" ["_law_game"] (spD K 1 F_law_codes)
abbrev W_law_answer (P : Program) (w : World) (K : Fg) (mg : Str -> Option Value) (base : Heap) : Prop := Own P w K mg base 1 "_law_answer" ["_law_one", "_law_other"] (spD K 2 F_law_answer)
abbrev W_law_alike (P : Program) (w : World) (K : Fg) (mg : Str -> Option Value) (base : Heap) : Prop := Own P w K mg base 2 "_law_alike" ["_law_game", "_law_guesses"] (spD K 2 F_law_alike)
abbrev Wis_pair (P : Program) (w : World) (K : Fg) (mg : Str -> Option Value) (base : Heap) : Prop := Own P w K mg base 1 "is_pair" ["thing"] (spD K 1 Fis_pair)
abbrev Wis_number_within (P : Program) (w : World) (K : Fg) (mg : Str -> Option Value) (base : Heap) : Prop := Own P w K mg base 1 "is_number_within" ["thing", "low", "high"] (spD K 3 Fis_number_within)
abbrev Whow_many_codes (P : Program) (w : World) (K : Fg) (mg : Str -> Option Value) (base : Heap) : Prop := Own P w K mg base 1 "how_many_codes" ["places", "colours"] (spD K 2 Fhow_many_codes)
abbrev Wis_game (P : Program) (w : World) (K : Fg) (mg : Str -> Option Value) (base : Heap) : Prop := Own P w K mg base 2 "is_game" ["thing"] (spD K 1 Fis_game)
abbrev Wchecked_game (P : Program) (w : World) (K : Fg) (mg : Str -> Option Value) (base : Heap) : Prop := Own P w K mg base 3 "checked_game" ["game"] (spD K 1 Fchecked_game)
abbrev Wchecked_list (P : Program) (w : World) (K : Fg) (mg : Str -> Option Value) (base : Heap) : Prop := Own P w K mg base 3 "checked_list" ["game", "things", "is_one"] (spD K 3 Fchecked_list)
abbrev Wchecked_guesses (P : Program) (w : World) (K : Fg) (mg : Str -> Option Value) (base : Heap) : Prop := Own P w K mg base 4 "checked_guesses" ["game", "guesses"] (spD K 2 Fchecked_guesses)
abbrev Wanswer_of (P : Program) (w : World) (K : Fg) (mg : Str -> Option Value) (base : Heap) : Prop := Own P w K mg base 1 "answer_of" ["hidden", "guess"] (spD K 2 Fanswer_of)
abbrev Wanswers_to (P : Program) (w : World) (K : Fg) (mg : Str -> Option Value) (base : Heap) : Prop := Own P w K mg base 2 "answers_to" ["code", "guesses"] (spD K 2 Fanswers_to)
abbrev Wfirst_alike (P : Program) (w : World) (K : Fg) (mg : Str -> Option Value) (base : Heap) : Prop := Own P w K mg base 3 "first_alike" ["codes", "guesses"] (spD K 2 Ffirst_alike)
abbrev Wall_codes (P : Program) (w : World) (K : Fg) (mg : Str -> Option Value) (base : Heap) : Prop := Own P w K mg base 4 "all_codes" ["game"] (spD K 1 Fall_codes)
abbrev Walike_by (P : Program) (w : World) (K : Fg) (mg : Str -> Option Value) (base : Heap) : Prop := Own P w K mg base 5 "alike_by" ["game", "guesses"] (spD K 2 Falike_by)
abbrev Wsettle_all (P : Program) (w : World) (K : Fg) (mg : Str -> Option Value) (base : Heap) : Prop := Own P w K mg base 6 "settle_all" ["game", "guesses"] (spD K 2 Fsettle_all)
abbrev W_law_too_big (P : Program) (w : World) (K : Fg) (mg : Str -> Option Value) (base : Heap) : Prop := Own P w K mg base 6 "_law_too_big" ["_law_game"] (spD K 1 F_law_too_big)
abbrev Wsmall_game (P : Program) (w : World) (K : Fg) (mg : Str -> Option Value) (base : Heap) : Prop := Own P w K mg base 2 "small_game" ["game"] (spD K 1 Fsmall_game)
abbrev Wchoices (P : Program) (w : World) (K : Fg) (mg : Str -> Option Value) (base : Heap) : Prop := Own P w K mg base 1 "choices" ["places", "size"] (spD K 2 Fchoices)
abbrev Wfirst_settling (P : Program) (w : World) (K : Fg) (mg : Str -> Option Value) (base : Heap) : Prop := Own P w K mg base 4 "first_settling" ["codes", "size"] (spD K 2 Ffirst_settling)
abbrev Wfewest_settling (P : Program) (w : World) (K : Fg) (mg : Str -> Option Value) (base : Heap) : Prop := Own P w K mg base 5 "fewest_settling" ["game"] (spD K 1 Ffewest_settling)
theorem ok_law_mix (F : Fun K "_law_mix" "_law_mix" s_law_mix f fd) (B : Bt mg) : FnOk P w K mg base CX0 1 f fd ["_law_cell_here", "_law_prime", "_law_many"] (spD K 3 F_law_mix) :=
 fun_okD F sc_law_mix rfl rfl λ cdv A outer s H E hr => have hu := hr.units
  ⟨_, (pss_one (ps_ret (pe_op op_mod (pe_op op_mod (pe_op op_mul (pv 0) pe_int) (pv 1)) (pv 2)))), (ss_ret (se_op od_mod (se_op od_mod (se_op od_mul (se_var 0) se_int) (se_var 1)) (se_var 2)))⟩
theorem ok_law_cell (F : Fun K "_law_cell" "_law_cell" s_law_cell f fd) (B : Bt mg) : FnOk P w K mg base CX0 1 f fd ["_law_script", "_law_k"] (spD K 2 F_law_cell) :=
 fun_okD F sc_law_cell rfl rfl λ cdv A outer s H E hr => have hu := hr.units
  ⟨_, (pss_cons (ps_if (pt_cmpR op_lt (pv 1) (pe_callB (kx_lenA K) (by rfl) B.len PySem.boot_len (pa_cons (pv 0) pa_nil)) (nomark _)) (pss_one (ps_ret (pe_ix (kx_ix K) (pv 0) (pv 1) (λ _ _ => rfl)))) pss_nil) (pss_one (ps_ret pe_int))), (ss_seq (ss_if (st_test (se_op od_lt (se_var 1) (se_callB cd_len (sa_cons (se_var 0) sa_nil)))) (ss_ret (se_op od_ix (se_var 0) (se_var 1))) ss_next) (ss_ret se_int))⟩
theorem ok_law_small (F : Fun K "_law_small" "_law_small" s_law_small f fd) (B : Bt mg) (O_law_mix : W_law_mix P w K mg base) (O_law_cell : W_law_cell P w K mg base) : FnOk P w K mg base CX0 2 f fd ["_law_script", "_law_at"] (spD K 2 F_law_small) :=
 fun_okD F sc_law_small rfl rfl λ cdv A outer s H E hr => have hu := hr.units
  ⟨_, (@pss_lits _ _ _ _ _ (@ps_lits _ 2 _ _ _ _ _ [.tuple [.int 2, .int 3], .tuple [.int 3, .int 2], .tuple [.int 2, .int 4], .tuple [.int 4, .int 2], .tuple [.int 1, .int 5], .tuple [.int 2, .int 2], .tuple [.int 1, .int 3], .tuple [.int 2, .int 3]] sc_law_small.nd rfl (by first | exact Or.inl rfl | exact Or.inr rfl) (by rfl) (by rfl) (Or.inl rfl)) (pss_one (ps_ret (pe_ix (kx_ix K) (pv 2) (pe_own O_law_mix hr (pa_cons (pe_own O_law_cell hr (pa_cons (pv 0) (pa_cons (pv 1) pa_nil))) (pa_cons pe_int (pa_cons pe_int pa_nil)))) (λ _ _ => rfl))))), (ss_seq (ss_set 2 (se_own (so_lst (@sa_lits _ [.tuple [.int 2, .int 3], .tuple [.int 3, .int 2], .tuple [.int 2, .int 4], .tuple [.int 4, .int 2], .tuple [.int 1, .int 5], .tuple [.int 2, .int 2], .tuple [.int 1, .int 3], .tuple [.int 2, .int 3]] (by rfl))))) (ss_ret (se_op od_ix (se_var 2) (se_call (sa_cons (se_call (sa_cons (se_var 0) (sa_cons (se_var 1) sa_nil))) (sa_cons se_int (sa_cons se_int sa_nil)))))))⟩
theorem ok_law_code (F : Fun K "_law_code" "_law_code" s_law_code f fd) (B : Bt mg) (O_law_mix : W_law_mix P w K mg base) : FnOk P w K mg base CX0 2 f fd ["_law_game", "_law_cell_here"] (spD K 2 F_law_code) :=
 fun_okD F sc_law_code rfl rfl λ cdv A outer s H E hr => have hu := hr.units
  ⟨_, (pss_cons (ps_setL (i := 2) sc_law_code.nd (pe_lst pa_nil)) (pss_cons (ps_for PassesOwn.never rfl (pi_range1 rfl B.range (pa_cons (pe_ix (kx_ix K) (pv 0) pe_int (λ _ _ => rfl)) pa_nil)) (pg_name (i := 3) sc_law_code.nd rfl (by first | exact Or.inl rfl | exact Or.inr rfl)) (pss_one (ps_expr (pe_bm PySem.F.plainAttrs_list PySem.F.slot_list_append PySem.F.type_list_append mt_append (pv 2) (pa_cons (pe_own O_law_mix hr (pa_cons (pe_op (kx_add K) (pe_op (kx_add K) (pv 1) (pe_op op_mul (pe_op op_mul pe_int (pv 3)) (pv 3))) (pe_op op_mul pe_int (pv 3))) (pa_cons pe_int (pa_cons (pe_ix (kx_ix K) (pv 0) pe_int (λ _ _ => rfl)) pa_nil)))) pa_nil))))) (pss_one (ps_ret (pe_callTy (kx_tuple K) (by rfl) B.tuple PyProof.Rows.boot_tuple (pa_cons (pv 2) pa_nil)))))), (ss_seq (ss_setO 2 (so_lst sa_nil)) (ss_seq (ss_for (si_rng1 (sa_cons (se_op od_ix (se_var 0) se_int) sa_nil)) (sg_name 3) (ss_append 2 (se_call (sa_cons (se_op od_add (se_op od_add (se_var 1) (se_op od_mul (se_op od_mul se_int (se_var 3)) (se_var 3))) (se_op od_mul se_int (se_var 3))) (sa_cons se_int (sa_cons (se_op od_ix (se_var 0) se_int) sa_nil)))))) (ss_frz 2 (ss_ret (se_callB cd_tup (sa_cons (se_var 2) sa_nil))))))⟩
theorem ok_law_codes (F : Fun K "_law_codes" "_law_codes" s_law_codes f fd) (B : Bt mg) : FnOk P w K mg base CX0 1 f fd ["_law_game"] (spD K 1 F_law_codes) :=
 fun_okD F sc_law_codes rfl rfl λ cdv A outer s H E hr => have hu := hr.units
  ⟨_, (pss_cons (ps_setL (i := 1) sc_law_codes.nd (pe_lst (pa_cons (pe_tup pa_nil) pa_nil))) (pss_cons (ps_for PassesOwn.never rfl (pi_range1 rfl B.range (pa_cons (pe_ix (kx_ix K) (pv 0) pe_int (λ _ _ => rfl)) pa_nil)) (pg_name (i := 2) sc_law_codes.nd rfl (by first | exact Or.inl rfl | exact Or.inr rfl)) (pss_cons (ps_setL (i := 3) sc_law_codes.nd (pe_lst pa_nil)) (pss_cons (ps_for PassesOwn.never rfl (kx_seq K (pv 1)) (pg_name (i := 4) sc_law_codes.nd rfl (by first | exact Or.inl rfl | exact Or.inr rfl)) (pss_one (ps_setL (i := 3) sc_law_codes.nd (pe_op (kx_add K) (pv 3) (pe_compC ["_law_colour"] [("_law_code_here", 4)] (pi_range1 rfl B.range (pa_cons (pe_ix (kx_ix K) (pv 0) pe_int (λ _ _ => rfl)) pa_nil)) (λ _ _ _ _ => (pg_name (i := 0) (show List.Nodup (["_law_colour", "_law_code_here"] : List Str) by decide +kernel) rfl (by first | exact Or.inl rfl | exact Or.inr rfl))) (λ _ _ _ _ => pts_nil) (λ _ _ _ _ => (pe_op (kx_add K) (pv 1) (pe_tup (pa_cons (pv 0) pa_nil))))))))) (pss_one (ps_setL (i := 1) sc_law_codes.nd (pv 3)))))) (pss_one (ps_ret (pv 1))))), (ss_seq (ss_set 1 (se_own (so_lst (sa_cons (se_tup sa_nil) sa_nil)))) (ss_seq (ss_for (si_rng1 (sa_cons (se_op od_ix (se_var 0) se_int) sa_nil)) (sg_name 2) (ss_seq (ss_set 3 (se_own (so_lst sa_nil))) (ss_seq (ss_for (si_seq (se_var 1)) (sg_name 4) (ss_set 3 (se_op od_add (se_var 3) (se_own (so_comp (si_rng1 (sa_cons (se_op od_ix (se_var 0) se_int) sa_nil)) (sg_name 0) low_name st_yes (se_op od_add (se_var 1) (se_tup (sa_cons (se_var 0) sa_nil)))))))) (ss_set 1 (se_var 3))))) (ss_ret (se_var 1))))⟩
theorem ok_law_answer (F : Fun K "_law_answer" "_law_answer" s_law_answer f fd) (B : Bt mg) : FnOk P w K mg base CX0 1 f fd ["_law_one", "_law_other"] (spD K 2 F_law_answer) :=
 fun_okD F sc_law_answer rfl rfl λ cdv A outer s H E hr => have hu := hr.units
  ⟨_, (pss_cons (ps_setL (i := 2) sc_law_answer.nd pe_int) (pss_cons (ps_setL (i := 3) sc_law_answer.nd (pe_lst pa_nil)) (pss_cons (ps_setL (i := 4) sc_law_answer.nd (pe_lst pa_nil)) (pss_cons (ps_for PassesOwn.never rfl (kx_zip K B.zip (pa_cons (pv 0) (pa_cons (pv 1) pa_nil))) (kx_pair K (pgs_cons (pg_name (i := 5) sc_law_answer.nd rfl (by first | exact Or.inl rfl | exact Or.inr rfl)) (pgs_cons (pg_name (i := 6) sc_law_answer.nd rfl (by first | exact Or.inl rfl | exact Or.inr rfl)) pgs_nil))) (pss_one (ps_if (pt_cmpR (kx_eqD K hu) (pv 5) (pv 6) (nomark _)) (pss_one (ps_setL (i := 2) sc_law_answer.nd (pe_op (kx_add K) (pv 2) pe_int))) (pss_cons (ps_expr (pe_bm PySem.F.plainAttrs_list PySem.F.slot_list_append PySem.F.type_list_append mt_append (pv 3) (pa_cons (pv 5) pa_nil))) (pss_one (ps_expr (pe_bm PySem.F.plainAttrs_list PySem.F.slot_list_append PySem.F.type_list_append mt_append (pv 4) (pa_cons (pv 6) pa_nil)))))))) (pss_cons (ps_setL (i := 7) sc_law_answer.nd pe_int) (pss_cons (ps_for PassesOwn.never rfl (kx_seq K (pv 3)) (pg_name (i := 8) sc_law_answer.nd rfl (by first | exact Or.inl rfl | exact Or.inr rfl)) (pss_one (ps_if (pt_cmpR (kx_in K) (pv 8) (pv 4) (by rfl)) (pss_cons (ps_expr (pe_bm PySem.F.plainAttrs_list PySem.F.slot_list_remove PySem.F.type_list_remove mt_remove (pv 4) (pa_cons (pv 8) pa_nil))) (pss_one (ps_setL (i := 7) sc_law_answer.nd (pe_op (kx_add K) (pv 7) pe_int)))) pss_nil))) (pss_one (ps_ret (pe_tup (pa_cons (pv 2) (pa_cons (pv 7) pa_nil))))))))))), (ss_seq (ss_set 2 se_int) (ss_seq (ss_setO 3 (so_lst sa_nil)) (ss_seq (ss_setO 4 (so_lst sa_nil)) (ss_seq (ss_for (si_zip (sa_cons (se_var 0) (sa_cons (se_var 1) sa_nil))) (sg_tup (sgs_cons (sg_name 5) (sgs_cons (sg_name 6) sgs_nil))) (ss_if (st_test (se_op od_eq (se_var 5) (se_var 6))) (ss_set 2 (se_op od_add (se_var 2) se_int)) (ss_seq (ss_append 3 (se_var 5)) (ss_append 4 (se_var 6))))) (ss_seq (ss_set 7 se_int) (ss_seq (ss_frz 3 (ss_for (si_seq (se_var 3)) (sg_name 8) (ss_if (st_test (se_inO false 4 (se_var 8))) (ss_seq (ss_remove 4 (se_var 8)) (ss_set 7 (se_op od_add (se_var 7) se_int))) ss_next))) (ss_ret (se_tup (sa_cons (se_var 2) (sa_cons (se_var 7) sa_nil))))))))))⟩
theorem ok_law_alike (F : Fun K "_law_alike" "_law_alike" s_law_alike f fd) (B : Bt mg) (O_law_codes : W_law_codes P w K mg base) (O_law_answer : W_law_answer P w K mg base) : FnOk P w K mg base CX0 2 f fd ["_law_game", "_law_guesses"] (spD K 2 F_law_alike) :=
 fun_okD F sc_law_alike rfl rfl λ cdv A outer s H E hr => have hu := hr.units
  ⟨_, (pss_cons (ps_setL (i := 2) sc_law_alike.nd (pe_own O_law_codes hr (pa_cons (pv 0) pa_nil))) (pss_cons (ps_for PassesOwn.never rfl (kx_en K B.enumerate (pa_cons (pv 2) pa_nil)) (kx_pair K (pgs_cons (pg_name (i := 3) sc_law_alike.nd rfl (by first | exact Or.inl rfl | exact Or.inr rfl)) (pgs_cons (pg_name (i := 4) sc_law_alike.nd rfl (by first | exact Or.inl rfl | exact Or.inr rfl)) pgs_nil))) (pss_one (ps_for PassesOwn.never rfl (kx_seq K (pe_slice (kx_slA K) (pv 2) (po_some (pe_op (kx_add K) (pv 3) pe_int)) po_none)) (pg_name (i := 5) sc_law_alike.nd rfl (by first | exact Or.inl rfl | exact Or.inr rfl)) (pss_one (ps_if (pt_not (kx_tru K (pe_compC ["_law_guess"] [("_law_one", 4), ("_law_other", 5)] (kx_seq K (pv 1)) (λ _ _ _ _ => (pg_name (i := 0) (show List.Nodup (["_law_guess", "_law_one", "_law_other"] : List Str) by decide +kernel) rfl (by first | exact Or.inl rfl | exact Or.inr rfl))) (λ _ _ _ _ => (pts_one (pt_cmpR (kx_neD K hu) (pe_own O_law_answer hr (pa_cons (pv 1) (pa_cons (pv 0) pa_nil))) (pe_own O_law_answer hr (pa_cons (pv 2) (pa_cons (pv 0) pa_nil))) (nomark _)))) (λ _ _ _ _ => (pv 0))))) (pss_one (ps_ret (pe_tup (pa_cons (pv 4) (pa_cons (pv 5) pa_nil))))) pss_nil))))) (pss_one (ps_ret pe_non)))), (ss_seq (ss_set 2 (se_call (sa_cons (se_var 0) sa_nil))) (ss_seq (ss_for (si_en (sa_cons (se_var 2) sa_nil)) (sg_tup (sgs_cons (sg_name 3) (sgs_cons (sg_name 4) sgs_nil))) (ss_for (si_seq (se_sl (se_var 2) (so_part (se_op od_add (se_var 3) se_int)) so_none)) (sg_name 5) (ss_if (st_not (st_tru (se_own (so_comp (si_seq (se_var 1)) (sg_name 0) low_name (st_test (se_op od_ne (se_call (sa_cons (se_var 1) (sa_cons (se_var 0) sa_nil))) (se_call (sa_cons (se_var 2) (sa_cons (se_var 0) sa_nil))))) (se_var 0))))) (ss_ret (se_tup (sa_cons (se_var 4) (sa_cons (se_var 5) sa_nil)))) ss_next))) (ss_ret se_non)))⟩
theorem okis_pair (F : Fun K "is_pair" "is_pair" sis_pair f fd) (B : Bt mg) : FnOk P w K mg base CX0 1 f fd ["thing"] (spD K 1 Fis_pair) :=
 fun_okD F scis_pair rfl rfl λ cdv A outer s H E hr => have hu := hr.units
  ⟨_, (pss_one (ps_ret (pe_and (pe_callB (kx_isiD K) (by rfl) B.isinstance boot_isi (pa_cons (pv 0) (pa_cons (pe_bltn (v := .ty "tuple") rfl B.tuple PyProof.Rows.boot_tuple rfl) pa_nil))) (pe_one (pe_cmpR (kx_eqD K hu) (pe_callB (kx_lenA K) (by rfl) B.len PySem.boot_len (pa_cons (pv 0) pa_nil)) pe_int (nomark _)))))), (ss_ret (se_and (se_isi (se_var 0)) (se_op od_eq (se_callB cd_len (sa_cons (se_var 0) sa_nil)) se_int)))⟩
theorem okis_number_within (F : Fun K "is_number_within" "is_number_within" sis_number_within f fd) (B : Bt mg) : FnOk P w K mg base CX0 1 f fd ["thing", "low", "high"] (spD K 3 Fis_number_within) :=
 fun_okD F scis_number_within rfl rfl λ cdv A outer s H E hr => have hu := hr.units
  ⟨_, (pss_one (ps_ret (pe_and (pe_callB (kx_isiD K) (by rfl) B.isinstance boot_isi (pa_cons (pv 0) (pa_cons (pe_bltn (v := .ty "int") rfl B.int PyProof.Rows.boot_int rfl) pa_nil))) (pe_and (pe_not (pe_callB (kx_isiD K) (by rfl) B.isinstance boot_isi (pa_cons (pv 0) (pa_cons (pe_bltn (v := .ty "bool") rfl B.bool PyProof.Rows.boot_bool rfl) pa_nil)))) (pe_one (pe_chain op_le op_le (pv 1) (pv 0) (pv 2))))))), (ss_ret (se_and (se_isi (se_var 0)) (se_and (se_not (se_isi (se_var 0))) (se_chain od_le od_le (se_var 1) (se_var 0) (se_var 2)))))⟩
theorem okhow_many_codes (F : Fun K "how_many_codes" "how_many_codes" show_many_codes f fd) (B : Bt mg) : FnOk P w K mg base CX0 1 f fd ["places", "colours"] (spD K 2 Fhow_many_codes) :=
 fun_okD F schow_many_codes rfl rfl λ cdv A outer s H E hr => have hu := hr.units
  ⟨_, (pss_cons (ps_setL (i := 2) schow_many_codes.nd pe_int) (pss_cons (ps_for PassesOwn.never rfl (pi_range1 rfl B.range (pa_cons (pv 0) pa_nil)) (pg_name (i := 3) schow_many_codes.nd rfl (by first | exact Or.inl rfl | exact Or.inr rfl)) (pss_one (ps_aug (i := 2) schow_many_codes.nd rfl (by first | exact Or.inl rfl | exact Or.inr rfl) (pv 1) iop_mul))) (pss_one (ps_ret (pv 2))))), (ss_seq (ss_set 2 se_int) (ss_seq (ss_for (si_rng1 (sa_cons (se_var 0) sa_nil)) (sg_name 3) (ss_aug 2 od_mul (se_var 1))) (ss_ret (se_var 2))))⟩
theorem okis_game (F : Fun K "is_game" "is_game" sis_game f fd) (B : Bt mg) (Ois_pair : Wis_pair P w K mg base) (Ohow_many_codes : Whow_many_codes P w K mg base) (Ois_number_within : Wis_number_within P w K mg base) {tMOST_PLACES : Tok} (g_MOST_PLACES : mg "MOST_PLACES" = some (.int 5 tMOST_PLACES)) {tMOST_COLOURS : Tok} (g_MOST_COLOURS : mg "MOST_COLOURS" = some (.int 8 tMOST_COLOURS)) {tMOST_CODES : Tok} (g_MOST_CODES : mg "MOST_CODES" = some (.int 300 tMOST_CODES)) : FnOk P w K mg base CX0 2 f fd ["thing"] (spD K 1 Fis_game) :=
 fun_okD F scis_game rfl rfl λ cdv A outer s H E hr => have hu := hr.units
  ⟨_, (pss_cons (ps_if (pt_not (kx_tru K (pe_own Ois_pair hr (pa_cons (pv 0) pa_nil)))) (pss_one (ps_ret pe_bl)) pss_nil) (pss_cons (ps_if (PW.pt (pw_or (pt_not (kx_tru K (pe_own Ois_number_within hr (pa_cons (pe_ix (kx_ix K) (pv 0) pe_int (λ _ _ => rfl)) (pa_cons pe_int (pa_cons (pe_glob (v := .int 5) rfl g_MOST_PLACES ⟨_, rfl⟩) pa_nil)))))) (pw_or1 (pt_not (kx_tru K (pe_own Ois_number_within hr (pa_cons (pe_ix (kx_ix K) (pv 0) pe_int (λ _ _ => rfl)) (pa_cons pe_int (pa_cons (pe_glob (v := .int 8) rfl g_MOST_COLOURS ⟨_, rfl⟩) pa_nil))))))))) (pss_one (ps_ret pe_bl)) pss_nil) (pss_one (ps_ret (pe_cmpR op_le (pe_own Ohow_many_codes hr (pa_cons (pe_ix (kx_ix K) (pv 0) pe_int (λ _ _ => rfl)) (pa_cons (pe_ix (kx_ix K) (pv 0) pe_int (λ _ _ => rfl)) pa_nil))) (pe_glob (v := .int 300) rfl g_MOST_CODES ⟨_, rfl⟩) (nomark _)))))), (ss_seq (ss_if (st_not (st_tru (se_call (sa_cons (se_var 0) sa_nil)))) (ss_ret se_bl) ss_next) (ss_seq (ss_if (st_or (st_not (st_tru (se_call (sa_cons (se_op od_ix (se_var 0) se_int) (sa_cons se_int (sa_cons se_int sa_nil)))))) (st_not (st_tru (se_call (sa_cons (se_op od_ix (se_var 0) se_int) (sa_cons se_int (sa_cons se_int sa_nil))))))) (ss_ret se_bl) ss_next) (ss_ret (se_op od_le (se_call (sa_cons (se_op od_ix (se_var 0) se_int) (sa_cons (se_op od_ix (se_var 0) se_int) sa_nil))) se_int))))⟩
theorem okchecked_game (F : Fun K "checked_game" "checked_game" schecked_game f fd) (B : Bt mg) (Ois_game : Wis_game P w K mg base) : FnOk P w K mg base CX0 3 f fd ["game"] (spD K 1 Fchecked_game) :=
 fun_okD F scchecked_game rfl rfl λ cdv A outer s H E hr => have hu := hr.units
  ⟨_, (pss_cons (ps_if (pt_not (kx_tru K (pe_own Ois_game hr (pa_cons (pv 0) pa_nil)))) (pss_one ps_never) pss_nil) (pss_one (ps_ret (pv 0)))), (ss_seq (ss_if (st_not (st_tru (se_call (sa_cons (se_var 0) sa_nil)))) ss_never ss_next) (ss_ret (se_var 0)))⟩
theorem okis_code (F : Fun K "is_code" "is_code" sis_code f fd) (B : Bt mg) (Ois_number_within : Wis_number_within P w K mg base) : FnOk P w K mg base CX0 2 f fd ["game", "thing"] (spD K 2 Fis_code) :=
 fun_okD F scis_code rfl rfl λ cdv A outer s H E hr => have hu := hr.units
  ⟨_, (pss_cons (ps_if (PW.pt (pw_or (pt_not (kx_tru K (pe_callB (kx_isiD K) (by rfl) B.isinstance boot_isi (pa_cons (pv 1) (pa_cons (pe_bltn (v := .ty "tuple") rfl B.tuple PyProof.Rows.boot_tuple rfl) pa_nil))))) (pw_or1 (pt_cmpR (kx_neD K hu) (pe_callB (kx_lenA K) (by rfl) B.len PySem.boot_len (pa_cons (pv 1) pa_nil)) (pe_ix (kx_ix K) (pv 0) pe_int (λ _ _ => rfl)) (nomark _))))) (pss_one (ps_ret pe_bl)) pss_nil) (pss_one (ps_ret (pe_callB (kx_all K) (by rfl) B.all PyProof.Rows.boot_all (pa_cons (pe_compC ["colour"] [("game", 0)] (kx_seq K (pv 1)) (λ _ _ _ _ => (pg_name (i := 0) (show List.Nodup (["colour", "game"] : List Str) by decide +kernel) rfl (by first | exact Or.inl rfl | exact Or.inr rfl))) (λ _ _ _ _ => pts_nil) (λ _ _ _ _ => (pe_own Ois_number_within hr (pa_cons (pv 0) (pa_cons pe_int (pa_cons (pe_op op_sub (pe_ix (kx_ix K) (pv 1) pe_int (λ _ _ => rfl)) pe_int) pa_nil)))))) pa_nil))))), (ss_seq (ss_if (st_or (st_not (st_tru (se_isi (se_var 1)))) (st_test (se_op od_ne (se_callB cd_len (sa_cons (se_var 1) sa_nil)) (se_op od_ix (se_var 0) se_int)))) (ss_ret se_bl) ss_next) (ss_ret (se_callB cd_all (sa_cons (se_own (so_comp (si_seq (se_var 1)) (sg_name 0) low_name st_yes (se_call (sa_cons (se_var 0) (sa_cons se_int (sa_cons (se_op od_sub (se_op od_ix (se_var 1) se_int) se_int) sa_nil)))))) sa_nil))))⟩
theorem okchecked_list (F : Fun K "checked_list" "checked_list" schecked_list f fd) (B : Bt mg) (Nis_code : OwnN P w K mg base 2 "is_code" ["game", "thing"] (spD K 2 Fis_code)) {tMOST_ASKS : Tok} (g_MOST_ASKS : mg "MOST_ASKS" = some (.int 8 tMOST_ASKS)) : FnOk P w K mg base CX0 3 f fd ["game", "things", "is_one"] (spD K 3 Fchecked_list) :=
 fun_okD F scchecked_list rfl rfl λ cdv A outer s H E hr => have hu := hr.units
  ⟨_, (pss_cons (ps_if (PW.pt (pw_or (pt_not (kx_tru K (pe_callB (kx_isiD K) (by rfl) B.isinstance boot_isi (pa_cons (pv 1) (pa_cons (pe_bltn (v := .ty "list") rfl B.list PyProof.Rows.boot_list rfl) pa_nil))))) (pw_or1 (pt_cmpR op_gt (pe_callB (kx_lenA K) (by rfl) B.len PySem.boot_len (pa_cons (pv 1) pa_nil)) (pe_glob (v := .int 8) rfl g_MOST_ASKS ⟨_, rfl⟩) (nomark _))))) (pss_one ps_never) pss_nil) (pss_cons (ps_for PassesOwn.never rfl (kx_en K B.enumerate (pa_cons (pv 1) pa_nil)) (kx_pair K (pgs_cons (pg_name (i := 3) scchecked_list.nd rfl (by first | exact Or.inl rfl | exact Or.inr rfl)) (pgs_cons (pg_name (i := 4) scchecked_list.nd rfl (by first | exact Or.inl rfl | exact Or.inr rfl)) pgs_nil))) (pss_one (ps_if (pt_not (kx_tru K (pe_ownV Nis_code hr (pv 2) (pa_cons (pv 0) (pa_cons (pv 4) pa_nil))))) (pss_one ps_never) pss_nil))) (pss_one (ps_ret (pv 1))))), (ss_seq (ss_if (st_or (st_not (st_tru (se_isi (se_var 1)))) (st_test (se_op od_gt (se_callB cd_len (sa_cons (se_var 1) sa_nil)) se_int))) ss_never ss_next) (ss_seq (ss_for (si_en (sa_cons (se_var 1) sa_nil)) (sg_tup (sgs_cons (sg_name 3) (sgs_cons (sg_name 4) sgs_nil))) (ss_if (st_not (st_tru (se_callV (sa_cons (se_var 0) (sa_cons (se_var 4) sa_nil))))) ss_never ss_next)) (ss_ret (se_var 1))))⟩
theorem okchecked_guesses (F : Fun K "checked_guesses" "checked_guesses" schecked_guesses f fd) (B : Bt mg) (Ochecked_list : Wchecked_list P w K mg base) {Ais_code : Addr} (mis_code : mg "is_code" = some (.ref Ais_code)) (nis_code : PySem.W.nsIn K mainGlobals "is_code" = some (some (.ref Ais_code))) : FnOk P w K mg base CX0 4 f fd ["game", "guesses"] (spD K 2 Fchecked_guesses) :=
 fun_okD F scchecked_guesses rfl rfl λ cdv A outer s H E hr => have hu := hr.units
  ⟨_, (pss_one (ps_ret (pe_own Ochecked_list hr (pa_cons (pv 0) (pa_cons (pv 1) (pa_cons (pe_glob (v := .ref Ais_code) rfl mis_code rfl) pa_nil)))))), (ss_ret (se_call (sa_cons (se_var 0) (sa_cons (se_var 1) (sa_cons (se_fn nis_code) sa_nil)))))⟩
theorem okanswer_of (F : Fun K "answer_of" "answer_of" sanswer_of f fd) (B : Bt mg) : FnOk P w K mg base CX0 1 f fd ["hidden", "guess"] (spD K 2 Fanswer_of) :=
 fun_okD F scanswer_of rfl rfl λ cdv A outer s H E hr => have hu := hr.units
  ⟨_, (pss_cons (ps_setL (i := 2) scanswer_of.nd pe_int) (pss_cons (ps_setL (i := 3) scanswer_of.nd pe_int) (pss_cons (ps_setL (i := 4) scanswer_of.nd (pe_callTy (kx_list K) (by rfl) B.list PyProof.Rows.boot_list (pa_cons (pv 0) pa_nil))) (pss_cons (ps_for PassesOwn.never rfl (kx_en K B.enumerate (pa_cons (pv 1) pa_nil)) (kx_pair K (pgs_cons (pg_name (i := 5) scanswer_of.nd rfl (by first | exact Or.inl rfl | exact Or.inr rfl)) (pgs_cons (pg_name (i := 6) scanswer_of.nd rfl (by first | exact Or.inl rfl | exact Or.inr rfl)) pgs_nil))) (pss_cons (ps_if (pt_cmpR (kx_eqD K hu) (pe_ix (kx_ix K) (pv 0) (pv 5) (λ _ _ => rfl)) (pv 6) (nomark _)) (pss_one (ps_aug (i := 2) scanswer_of.nd rfl (by first | exact Or.inl rfl | exact Or.inr rfl) pe_int iop_add)) pss_nil) (pss_one (ps_if (pt_cmpR (kx_in K) (pv 6) (pv 4) (by rfl)) (pss_cons (ps_expr (pe_bm PySem.F.plainAttrs_list PySem.F.slot_list_remove PySem.F.type_list_remove mt_remove (pv 4) (pa_cons (pv 6) pa_nil))) (pss_one (ps_aug (i := 3) scanswer_of.nd rfl (by first | exact Or.inl rfl | exact Or.inr rfl) pe_int iop_add))) pss_nil)))) (pss_one (ps_ret (pe_tup (pa_cons (pv 2) (pa_cons (pe_op op_sub (pv 3) (pv 2)) pa_nil))))))))), (ss_seq (ss_set 2 se_int) (ss_seq (ss_set 3 se_int) (ss_seq (ss_setO 4 (so_listOf (sa_cons (se_var 0) sa_nil))) (ss_seq (ss_for (si_en (sa_cons (se_var 1) sa_nil)) (sg_tup (sgs_cons (sg_name 5) (sgs_cons (sg_name 6) sgs_nil))) (ss_seq (ss_if (st_test (se_op od_eq (se_op od_ix (se_var 0) (se_var 5)) (se_var 6))) (ss_aug 2 od_iadd se_int) ss_next) (ss_if (st_test (se_inO false 4 (se_var 6))) (ss_seq (ss_remove 4 (se_var 6)) (ss_aug 3 od_iadd se_int)) ss_next))) (ss_ret (se_tup (sa_cons (se_var 2) (sa_cons (se_op od_sub (se_var 3) (se_var 2)) sa_nil))))))))⟩
theorem okanswers_to (F : Fun K "answers_to" "answers_to" sanswers_to f fd) (B : Bt mg) (Oanswer_of : Wanswer_of P w K mg base) : FnOk P w K mg base CX0 2 f fd ["code", "guesses"] (spD K 2 Fanswers_to) :=
 fun_okD F scanswers_to rfl rfl λ cdv A outer s H E hr => have hu := hr.units
  ⟨_, (pss_one (ps_ret (pe_callTy (kx_tuple K) (by rfl) B.tuple PyProof.Rows.boot_tuple (pa_cons (pe_compC ["guess"] [("code", 0)] (kx_seq K (pv 1)) (λ _ _ _ _ => (pg_name (i := 0) (show List.Nodup (["guess", "code"] : List Str) by decide +kernel) rfl (by first | exact Or.inl rfl | exact Or.inr rfl))) (λ _ _ _ _ => pts_nil) (λ _ _ _ _ => (pe_own Oanswer_of hr (pa_cons (pv 1) (pa_cons (pv 0) pa_nil))))) pa_nil)))), (ss_ret (se_callB cd_tup (sa_cons (se_own (so_comp (si_seq (se_var 1)) (sg_name 0) low_name st_yes (se_call (sa_cons (se_var 1) (sa_cons (se_var 0) sa_nil))))) sa_nil)))⟩
theorem okfirst_alike (F : Fun K "first_alike" "first_alike" sfirst_alike f fd) (B : Bt mg) (Oanswers_to : Wanswers_to P w K mg base) : FnOk P w K mg base CX0 3 f fd ["codes", "guesses"] (spD K 2 Ffirst_alike) :=
 fun_okD F scfirst_alike rfl rfl λ cdv A outer s H E hr => have hu := hr.units
  ⟨_, (pss_cons (ps_setL (i := 2) scfirst_alike.nd pe_newN) (pss_cons (ps_setL (i := 3) scfirst_alike.nd (pe_lst pa_nil)) (pss_cons (ps_for PassesOwn.never rfl (kx_seq K (pv 0)) (pg_name (i := 4) scfirst_alike.nd rfl (by first | exact Or.inl rfl | exact Or.inr rfl)) (pss_cons (ps_setL (i := 5) scfirst_alike.nd (pe_own Oanswers_to hr (pa_cons (pv 4) (pa_cons (pv 1) pa_nil)))) (pss_one (ps_if (pt_cmp (pc_inN (hu2 hu) (pv 5) (pv 2))) (pss_one (ps_expr (pe_bm PySem.F.plainAttrs_list PySem.F.slot_list_append PySem.F.type_list_append mt_append (pv 3) (pa_cons (pe_tup (pa_cons (pe_getN (hu2 hu) (pv 2) (pv 5) (λ _ _ => rfl)) (pa_cons (pv 4) pa_nil))) pa_nil)))) (pss_one (ps_putN (hu2 hu) (pv 2) (pv 5) (pv 4))))))) (pss_one (ps_ret (pe_minD rfl hu (by rfl) B.min PyProof.Rows.boot_min (pa_cons (pv 3) pa_nil) (hk := λ s Q h => kw_none h))))))), (ss_firsts 4 5 2 3 (si_seq (se_var 0)) (se_call (sa_cons (se_var 4) (sa_cons (se_var 1) sa_nil))) (ss_frz 3 (ss_ret (se_minD (sa_cons (se_var 3) sa_nil)))))⟩
theorem okall_codes (F : Fun K "all_codes" "all_codes" sall_codes f fd) (B : Bt mg) (Ochecked_game : Wchecked_game P w K mg base) : FnOk P w K mg base CX0 4 f fd ["game"] (spD K 1 Fall_codes) :=
 fun_okD F scall_codes rfl rfl λ cdv A outer s H E hr => have hu := hr.units
  ⟨_, (pss_cons (ps_expr (pe_own Ochecked_game hr (pa_cons (pv 0) pa_nil))) (pss_cons (ps_setL (i := 1) scall_codes.nd (pe_lst (pa_cons (pe_tup pa_nil) pa_nil))) (pss_cons (ps_for PassesOwn.never rfl (pi_range1 rfl B.range (pa_cons (pe_ix (kx_ix K) (pv 0) pe_int (λ _ _ => rfl)) pa_nil)) (pg_name (i := 2) scall_codes.nd rfl (by first | exact Or.inl rfl | exact Or.inr rfl)) (pss_cons (ps_setL (i := 3) scall_codes.nd (pe_lst pa_nil)) (pss_cons (ps_for PassesOwn.never rfl (kx_seq K (pv 1)) (pg_name (i := 4) scall_codes.nd rfl (by first | exact Or.inl rfl | exact Or.inr rfl)) (pss_one (ps_expr (pe_bm PySem.F.plainAttrs_list PySem.F.slot_list_extend PySem.F.type_list_extend mt_extend (pv 3) (pa_cons (pe_compC ["colour"] [("code", 4)] (pi_range1 rfl B.range (pa_cons (pe_ix (kx_ix K) (pv 0) pe_int (λ _ _ => rfl)) pa_nil)) (λ _ _ _ _ => (pg_name (i := 0) (show List.Nodup (["colour", "code"] : List Str) by decide +kernel) rfl (by first | exact Or.inl rfl | exact Or.inr rfl))) (λ _ _ _ _ => pts_nil) (λ _ _ _ _ => (pe_op (kx_add K) (pv 1) (pe_tup (pa_cons (pv 0) pa_nil))))) pa_nil))))) (pss_one (ps_setL (i := 1) scall_codes.nd (pv 3)))))) (pss_one (ps_ret (pv 1)))))), (ss_seq (ss_drop (se_call (sa_cons (se_var 0) sa_nil))) (ss_seq (ss_set 1 (se_own (so_lst (sa_cons (se_tup sa_nil) sa_nil)))) (ss_seq (ss_for (si_rng1 (sa_cons (se_op od_ix (se_var 0) se_int) sa_nil)) (sg_name 2) (ss_seq (ss_setO 3 (so_lst sa_nil)) (ss_seq (ss_for (si_seq (se_var 1)) (sg_name 4) (ss_extend 3 (se_own (so_comp (si_rng1 (sa_cons (se_op od_ix (se_var 0) se_int) sa_nil)) (sg_name 0) low_name st_yes (se_op od_add (se_var 1) (se_tup (sa_cons (se_var 0) sa_nil))))))) (ss_frz 3 (ss_set 1 (se_var 3)))))) (ss_ret (se_var 1)))))⟩
theorem okalike_by (F : Fun K "alike_by" "alike_by" salike_by f fd) (B : Bt mg) (Ochecked_game : Wchecked_game P w K mg base) (Ochecked_guesses : Wchecked_guesses P w K mg base) (Ofirst_alike : Wfirst_alike P w K mg base) (Oall_codes : Wall_codes P w K mg base) : FnOk P w K mg base CX0 5 f fd ["game", "guesses"] (spD K 2 Falike_by) :=
 fun_okD F scalike_by rfl rfl λ cdv A outer s H E hr => have hu := hr.units
  ⟨_, (pss_cons (ps_expr (pe_own Ochecked_game hr (pa_cons (pv 0) pa_nil))) (pss_cons (ps_expr (pe_own Ochecked_guesses hr (pa_cons (pv 0) (pa_cons (pv 1) pa_nil)))) (pss_one (ps_ret (pe_own Ofirst_alike hr (pa_cons (pe_own Oall_codes hr (pa_cons (pv 0) pa_nil)) (pa_cons (pv 1) pa_nil))))))), (ss_seq (ss_drop (se_call (sa_cons (se_var 0) sa_nil))) (ss_seq (ss_drop (se_call (sa_cons (se_var 0) (sa_cons (se_var 1) sa_nil)))) (ss_ret (se_call (sa_cons (se_call (sa_cons (se_var 0) sa_nil)) (sa_cons (se_var 1) sa_nil))))))⟩
theorem oksettle_all (F : Fun K "settle_all" "settle_all" ssettle_all f fd) (B : Bt mg) (Oalike_by : Walike_by P w K mg base) : FnOk P w K mg base CX0 6 f fd ["game", "guesses"] (spD K 2 Fsettle_all) :=
 fun_okD F scsettle_all rfl rfl λ cdv A outer s H E hr => have hu := hr.units
  ⟨_, (pss_one (ps_ret (pe_cmpR op_isN (pe_own Oalike_by hr (pa_cons (pv 0) (pa_cons (pv 1) pa_nil))) pe_non (nomark _)))), (ss_ret (se_op od_isN (se_call (sa_cons (se_var 0) (sa_cons (se_var 1) sa_nil))) se_non))⟩
theorem okXsmall_game_TooBig {C : Addr} (F : Fun K "small_game" "small_game" ssmall_game f fd) (B : Bt mg) (Ohow_many_codes : Own P w K mg base 1 "how_many_codes" ["places", "colours"] (spD K 2 Fhow_many_codes)) (gC_TooBig : mg "TooBig" = some (.ref C)) (xC_TooBig : PySem.W.excIn K C [.type "ValueError", .type "Exception", .type "BaseException", .type "object"] "ValueError.__new__" = true) {tMOST_CODES_SEARCHED : Tok} (g_MOST_CODES_SEARCHED : mg "MOST_CODES_SEARCHED" = some (.int 16 tMOST_CODES_SEARCHED)) : FnOk P w K mg base (CXF P w) 2 f fd ["game"] (spX K 1 C Xsmall_game_TooBig) :=
 fun_okX F scsmall_game rfl rfl λ cdv A outer s H E hr => have hu := hr.units
  ⟨_, (pss_cons (ps_if (pt_cmpR op_gt (pe_own Ohow_many_codes hr (pa_cons (pe_ix (kx_ix K) (pv 0) pe_int (λ _ _ => rfl)) (pa_cons (pe_ix (kx_ix K) (pv 0) pe_int (λ _ _ => rfl)) pa_nil))) (pe_glob (v := .int 16) rfl g_MOST_CODES_SEARCHED ⟨_, rfl⟩) (nomark _)) (pss_one (ps_raise gC_TooBig xC_TooBig PySem.F.excBase_ValueError (pa_cons pe_str pa_nil))) pss_any) pss_any), (sx_seq1 (sx_if (st_test (se_op od_gt (se_call (sa_cons (se_op od_ix (se_var 0) se_int) (sa_cons (se_op od_ix (se_var 0) se_int) sa_nil))) se_int)) (sx_raise (sa_cons se_str sa_nil)) sx_no))⟩
theorem okXfewest_settling_TooBig {C : Addr} (F : Fun K "fewest_settling" "fewest_settling" sfewest_settling f fd) (B : Bt mg) (Ochecked_game : Own P w K mg base 3 "checked_game" ["game"] (spD K 1 Fchecked_game)) (OXsmall_game_TooBig : OwnX P w K mg base 2 "small_game" ["game"] (spX K 1 C Xsmall_game_TooBig)) : FnOk P w K mg base (CXF P w) 5 f fd ["game"] (spX K 1 C Xfewest_settling_TooBig) :=
 fun_okX F scfewest_settling rfl rfl λ cdv A outer s H E hr => have hu := hr.units
  ⟨_, (pss_cons (ps_expr (pe_own Ochecked_game hr (pa_cons (pv 0) pa_nil))) (pss_cons (ps_expr (pe_ownX OXsmall_game_TooBig hr pass_flown (pa_cons (pv 0) pa_nil))) pss_any)), (sx_seq2 (ss_drop (se_call (sa_cons (se_var 0) sa_nil))) (sx_seq1 (sx_drop (sxe_call (sa_cons (se_var 0) sa_nil)))))⟩
end
section
variable {P : Program} {w : World} {K : Fg} {mg : Str -> Option Value} {base : Heap} {f : Addr} {fd : FuncData}
theorem ok_law_too_big {D ATooBig : Addr} (F : Fun K "_law_too_big" "_law_too_big" s_law_too_big f fd) (B : Bt mg) (OXfewest_settling_TooBig : OwnX P w K mg base 5 "fewest_settling" ["game"] (spX K 1 ATooBig Xfewest_settling_TooBig)) (gD_ : mg "GuessError" = some (.ref D)) (hex_TooBig : PySem.W.exmOne K (.ref ATooBig) (.ref D) = some true) (zV_ : mg "ValueError" = none) (xc_TooBig : ExcCls K ATooBig) (gy_TooBig : mg "TooBig" = some (.ref ATooBig)) (k_TooBig_TooBig : PySem.W.kitOne K (.ref ATooBig) (.ref ATooBig) = some true) (k_TooBig_ValueError : PySem.W.kitOne K (.ref ATooBig) (.type "ValueError") = some true) : FnOk P w K mg base CX0 6 f fd ["_law_game"] (spD K 1 F_law_too_big) := by
 refine F.ok sc_law_too_big (λ vs H Q E h => ?_) (λ cdv A outer s H vs Q E hr h => ?_)
 · obtain ⟨_, ds, d, _, hl, _⟩ := h
   exact hl
 · obtain ⟨F2, ds, d, sF, hl, ar, e, q⟩ := h
   have hu := hr.units
   unfold F_law_too_big at e
   split at e
   · rename_i c
     cases e
     exact ⟨_, pss_cons (ps_try (i := 1) rfl rfl rfl sc_law_too_big.nd rfl rfl gD_ rfl (λ pn E2 E hp => (pss_one (ps_expr (pe_ownX OXfewest_settling_TooBig hr hp (pa_cons (pv 0) pa_nil))))) (λ ea pn => pss_one (ps_ret (pe_lst (pa_cons (pe_callB call_isiB (by rfl) B.isinstance boot_isi (pa_cons (pv 1) (pa_cons (pe_glob (v := .ref ATooBig) rfl gy_TooBig rfl) pa_nil))) (pa_cons (pe_callB call_isiB (by rfl) B.isinstance boot_isi (pa_cons (pv 1) (pa_cons (pe_bltn (v := .ty "ValueError") rfl zV_ (by decide +kernel) rfl) pa_nil))) pa_nil)))))) pss_any, try_toldL (N := ["_law_game", "e"]) (i := 1) (ys := [.ref ATooBig, .ty "ValueError"]) (λ E => (sx_drop (sxe_call (sa_cons (se_var 0) sa_nil)))) hex_TooBig xc_TooBig (.cons (Ans.cls k_TooBig_TooBig) (.cons (Ans.ty k_TooBig_ValueError) .nil)) (by decide) (by decide) sF ar c q⟩
   · cases e
theorem oksmall_game (F : Fun K "small_game" "small_game" ssmall_game f fd) (B : Bt mg) (Ohow_many_codes : Whow_many_codes P w K mg base) {tMOST_CODES_SEARCHED : Tok} (g_MOST_CODES_SEARCHED : mg "MOST_CODES_SEARCHED" = some (.int 16 tMOST_CODES_SEARCHED)) : FnOk P w K mg base CX0 2 f fd ["game"] (spD K 1 Fsmall_game) :=
 fun_okD F scsmall_game rfl rfl λ cdv A outer s H E hr => have hu := hr.units
  ⟨_, (pss_cons (ps_if (pt_cmpR op_gt (pe_own Ohow_many_codes hr (pa_cons (pe_ix (kx_ix K) (pv 0) pe_int (λ _ _ => rfl)) (pa_cons (pe_ix (kx_ix K) (pv 0) pe_int (λ _ _ => rfl)) pa_nil))) (pe_glob (v := .int 16) rfl g_MOST_CODES_SEARCHED ⟨_, rfl⟩) (nomark _)) (pss_one ps_never) pss_nil) (pss_one (ps_ret (pv 0)))), (ss_seq (ss_if (st_test (se_op od_gt (se_call (sa_cons (se_op od_ix (se_var 0) se_int) (sa_cons (se_op od_ix (se_var 0) se_int) sa_nil))) se_int)) ss_never ss_next) (ss_ret (se_var 0)))⟩
theorem okchoices (F : Fun K "choices" "choices" schoices f fd) (B : Bt mg) : FnOk P w K mg base CX0 1 f fd ["places", "size"] (spD K 2 Fchoices) :=
 fun_okD F scchoices rfl rfl λ cdv A outer s H E hr => have hu := hr.units
  ⟨_, (pss_cons (ps_setL (i := 2) scchoices.nd (pe_lst (pa_cons (pe_lst pa_nil) pa_nil))) (pss_cons (ps_for PassesOwn.never rfl (pi_range1 rfl B.range (pa_cons (pv 1) pa_nil)) (pg_name (i := 3) scchoices.nd rfl (by first | exact Or.inl rfl | exact Or.inr rfl)) (pss_cons (ps_setL (i := 4) scchoices.nd (pe_lst pa_nil)) (pss_cons (ps_for PassesOwn.never rfl (kx_seq K (pv 2)) (pg_name (i := 5) scchoices.nd rfl (by first | exact Or.inl rfl | exact Or.inr rfl)) (pss_cons (ps_setL (i := 6) scchoices.nd (pe_ifExp (kx_tru K (pv 5)) (pe_op (kx_add K) (pe_ix (kx_ix K) (pv 5) (pe_un un_neg pe_int) (λ _ _ => rfl)) pe_int) pe_int)) (pss_one (ps_expr (pe_bm PySem.F.plainAttrs_list PySem.F.slot_list_extend PySem.F.type_list_extend mt_extend (pv 4) (pa_cons (pe_compC ["at"] [("choice", 5)] (pi_range2 rfl B.range (pa_cons (pv 6) (pa_cons (pv 0) pa_nil))) (λ _ _ _ _ => (pg_name (i := 0) (show List.Nodup (["at", "choice"] : List Str) by decide +kernel) rfl (by first | exact Or.inl rfl | exact Or.inr rfl))) (λ _ _ _ _ => pts_nil) (λ _ _ _ _ => (pe_op (kx_add K) (pv 1) (pe_lst (pa_cons (pv 0) pa_nil))))) pa_nil)))))) (pss_one (ps_setL (i := 2) scchoices.nd (pv 4)))))) (pss_one (ps_ret (pv 2))))), (ss_seq (ss_set 2 (se_own (so_lst (sa_cons (se_own (so_lst sa_nil)) sa_nil)))) (ss_seq (ss_for (si_rng1 (sa_cons (se_var 1) sa_nil)) (sg_name 3) (ss_seq (ss_setO 4 (so_lst sa_nil)) (ss_seq (ss_for (si_seq (se_var 2)) (sg_name 5) (ss_seq (ss_set 6 (se_ifE (st_tru (se_var 5)) (se_op od_add (se_op od_ix (se_var 5) (se_neg se_int)) se_int) se_int)) (ss_extend 4 (se_own (so_comp (si_rng2 (sa_cons (se_var 6) (sa_cons (se_var 0) sa_nil))) (sg_name 0) low_name st_yes (se_op od_add (se_var 1) (se_own (so_lst (sa_cons (se_var 0) sa_nil))))))))) (ss_frz 4 (ss_set 2 (se_var 4)))))) (ss_ret (se_var 2))))⟩
theorem okfirst_settling (F : Fun K "first_settling" "first_settling" sfirst_settling f fd) (B : Bt mg) (Ochoices : Wchoices P w K mg base) (Ofirst_alike : Wfirst_alike P w K mg base) : FnOk P w K mg base CX0 4 f fd ["codes", "size"] (spD K 2 Ffirst_settling) :=
 fun_okD F scfirst_settling rfl rfl λ cdv A outer s H E hr => have hu := hr.units
  ⟨_, (pss_cons (ps_for PassesOwn.never rfl (kx_seq K (pe_own Ochoices hr (pa_cons (pe_callB (kx_lenA K) (by rfl) B.len PySem.boot_len (pa_cons (pv 0) pa_nil)) (pa_cons (pv 1) pa_nil)))) (pg_name (i := 2) scfirst_settling.nd rfl (by first | exact Or.inl rfl | exact Or.inr rfl)) (pss_cons (ps_setC (i := 3) ["at"] [("codes", 0)] scfirst_settling.nd rfl (by first | exact Or.inl rfl | exact Or.inr rfl) (kx_seq K (pv 2)) (λ _ _ _ _ => (pg_name (i := 0) (show List.Nodup (["at", "codes"] : List Str) by decide +kernel) rfl (by first | exact Or.inl rfl | exact Or.inr rfl))) (λ _ _ _ _ => pts_nil) (λ _ _ _ _ => (pe_ix (kx_ix K) (pv 1) (pv 0) (λ _ _ => rfl)))) (pss_one (ps_if (pt_cmpR op_isN (pe_own Ofirst_alike hr (pa_cons (pv 0) (pa_cons (pv 3) pa_nil))) pe_non (nomark _)) (pss_one (ps_ret (pv 3))) pss_nil)))) (pss_one (ps_ret pe_non))), (ss_seq (ss_for (si_seq (se_call (sa_cons (se_callB cd_len (sa_cons (se_var 0) sa_nil)) (sa_cons (se_var 1) sa_nil)))) (sg_name 2) (ss_seq (ss_set 3 (se_own (so_comp (si_seq (se_var 2)) (sg_name 0) low_name st_yes (se_op od_ix (se_var 1) (se_var 0))))) (ss_if (st_test (se_op od_isN (se_call (sa_cons (se_var 0) (sa_cons (se_var 3) sa_nil))) se_non)) (ss_ret (se_var 3)) ss_next))) (ss_ret se_non))⟩
theorem okfewest_settling (F : Fun K "fewest_settling" "fewest_settling" sfewest_settling f fd) (B : Bt mg) (Ochecked_game : Wchecked_game P w K mg base) (Osmall_game : Wsmall_game P w K mg base) (Oall_codes : Wall_codes P w K mg base) (Ofirst_settling : Wfirst_settling P w K mg base) : FnOk P w K mg base CX0 5 f fd ["game"] (spD K 1 Ffewest_settling) :=
 fun_okD F scfewest_settling rfl rfl λ cdv A outer s H E hr => have hu := hr.units
  ⟨_, (pss_cons (ps_expr (pe_own Ochecked_game hr (pa_cons (pv 0) pa_nil))) (pss_cons (ps_expr (pe_own Osmall_game hr (pa_cons (pv 0) pa_nil))) (pss_cons (ps_setL (i := 1) scfewest_settling.nd (pe_own Oall_codes hr (pa_cons (pv 0) pa_nil))) (pss_cons (ps_setL (i := 2) scfewest_settling.nd pe_int) (pss_cons (ps_setL (i := 3) scfewest_settling.nd (pe_own Ofirst_settling hr (pa_cons (pv 1) (pa_cons (pv 2) pa_nil)))) (pss_cons (ps_while PassesOwn.never (pt_cmpR op_isN (pv 3) pe_non (nomark _)) (pss_cons (ps_aug (i := 2) scfewest_settling.nd rfl (by first | exact Or.inl rfl | exact Or.inr rfl) pe_int iop_add) (pss_one (ps_setL (i := 3) scfewest_settling.nd (pe_own Ofirst_settling hr (pa_cons (pv 1) (pa_cons (pv 2) pa_nil))))))) (pss_one (ps_ret (pv 3))))))))), (ss_seq (ss_drop (se_call (sa_cons (se_var 0) sa_nil))) (ss_seq (ss_drop (se_call (sa_cons (se_var 0) sa_nil))) (ss_seq (ss_set 1 (se_call (sa_cons (se_var 0) sa_nil))) (ss_seq (ss_set 2 se_int) (ss_seq (ss_set 3 (se_call (sa_cons (se_var 1) (sa_cons (se_var 2) sa_nil)))) (ss_seq (ss_while 100 (st_test (se_op od_isN (se_var 3) se_non)) (ss_seq (ss_aug 2 od_iadd se_int) (ss_set 3 (se_call (sa_cons (se_var 1) (sa_cons (se_var 2) sa_nil)))))) (ss_ret (se_var 3))))))))⟩
theorem oklaw (F : Fun K "law" "law" slaw f fd) (B : Bt mg) (O_law_small : W_law_small P w K mg base) (O_law_alike : W_law_alike P w K mg base) (Osettle_all : Wsettle_all P w K mg base) (Ofewest_settling : Wfewest_settling P w K mg base) (O_law_codes : W_law_codes P w K mg base) (O_law_code : W_law_code P w K mg base) (Oalike_by : Walike_by P w K mg base) (O_law_too_big : W_law_too_big P w K mg base) (O_law_cell : W_law_cell P w K mg base) : FnOk P w K mg base CX0 7 f fd ["_law_script"] (spD K 1 Flaw) :=
 fun_okD F sclaw rfl rfl λ cdv A outer s H E hr => have hu := hr.units
  ⟨_, (pss_cons (ps_setL (i := 1) sclaw.nd (pe_own O_law_small hr (pa_cons (pv 0) (pa_cons pe_int pa_nil)))) (pss_cons (ps_setC (i := 2) ["_law_k"] [("_law_game", 1), ("_law_script", 0)] sclaw.nd rfl (by first | exact Or.inl rfl | exact Or.inr rfl) (pi_range1 rfl B.range (pa_cons (pe_op op_mod (pe_own O_law_cell hr (pa_cons (pv 0) (pa_cons pe_int pa_nil))) pe_int) pa_nil)) (λ _ _ _ _ => (pg_name (i := 0) (show List.Nodup (["_law_k", "_law_game", "_law_script"] : List Str) by decide +kernel) rfl (by first | exact Or.inl rfl | exact Or.inr rfl))) (λ _ _ _ _ => pts_nil) (λ _ _ _ _ => (pe_own O_law_code hr (pa_cons (pv 1) (pa_cons (pe_op (kx_add K) (pe_own O_law_cell hr (pa_cons (pv 2) (pa_cons (pe_op (kx_add K) pe_int (pv 0)) pa_nil))) (pe_op op_mul (pe_op op_mul pe_int (pv 0)) (pv 0))) pa_nil))))) (pss_cons (ps_setL (i := 3) sclaw.nd (pe_own O_law_alike hr (pa_cons (pv 1) (pa_cons (pv 2) pa_nil)))) (pss_cons (ps_setL (i := 4) sclaw.nd (pe_own Osettle_all hr (pa_cons (pv 1) (pa_cons (pv 2) pa_nil)))) (pss_cons (ps_if (PW.pt (pw_or (pt_cmpR (kx_neD K hu) (pe_own Oalike_by hr (pa_cons (pv 1) (pa_cons (pv 2) pa_nil))) (pv 3) (nomark _)) (pw_or (pt_not (kx_tru K (pe_callB (kx_isiD K) (by rfl) B.isinstance boot_isi (pa_cons (pv 4) (pa_cons (pe_bltn (v := .ty "bool") rfl B.bool PyProof.Rows.boot_bool rfl) pa_nil))))) (pw_or1 (pt_cmpR (kx_neD K hu) (pv 4) (pe_cmpR op_isN (pv 3) pe_non (nomark _)) (nomark _)))))) (pss_one (ps_ret pe_bl)) pss_nil) (@pss_lits _ _ _ _ _ (ps_if (pt_cmpR (kx_eqD K hu) (pe_op op_mod (pe_op op_fdiv (pe_own O_law_cell hr (pa_cons (pv 0) (pa_cons pe_int pa_nil))) pe_int) pe_int) pe_int (nomark _)) (pss_one (ps_ret (pe_cmpR (kx_eqD K hu) (pe_own O_law_too_big hr (pa_cons (pe_ix (kx_ix K) (@pe_lst _ _ _ _ (@pa_lits _ _ [.tuple [.int 3, .int 3], .tuple [.int 2, .int 5], .tuple [.int 5, .int 2], .tuple [.int 3, .int 4]] (by rfl))) (pe_op op_mod (pe_own O_law_cell hr (pa_cons (pv 0) (pa_cons pe_int pa_nil))) pe_int) (λ _ _ => rfl)) pa_nil)) (pe_lst (pa_cons pe_bl (pa_cons pe_bl pa_nil))) (nomark _)))) pss_nil) (pss_cons (ps_setL (i := 5) sclaw.nd (pe_own Ofewest_settling hr (pa_cons (pv 1) pa_nil))) (pss_cons (ps_if (PW.pt (pw_or (pt_not (kx_tru K (pe_callB (kx_isiD K) (by rfl) B.isinstance boot_isi (pa_cons (pv 5) (pa_cons (pe_bltn (v := .ty "list") rfl B.list PyProof.Rows.boot_list rfl) pa_nil))))) (pw_or (pt_cmpR (kx_neD K hu) (pv 5) (pe_callB (kx_sortS K rfl hu) (by rfl) B.sorted PyProof.Rows.boot_sorted (pa_cons (pe_callTy (kx_setOf K rfl hu) (by rfl) B.set PyProof.Rows.boot_set (pa_cons (pv 5) pa_nil)) pa_nil)) (nomark _)) (pw_or1 (pt_cmpR op_notN (pe_own O_law_alike hr (pa_cons (pv 1) (pa_cons (pv 5) pa_nil))) pe_non (nomark _)))))) (pss_one (ps_ret pe_bl)) pss_nil) (pss_cons (ps_setL (i := 6) sclaw.nd (pe_own O_law_codes hr (pa_cons (pv 1) pa_nil))) (pss_cons (ps_setL (i := 7) sclaw.nd (pe_op (kx_add K) (pe_lst (pa_cons (pe_lst pa_nil) pa_nil)) (pe_compC ["_law_one"] [] (kx_seq K (pv 6)) (λ _ _ _ _ => (pg_name (i := 0) (show List.Nodup (["_law_one"] : List Str) by decide +kernel) rfl (by first | exact Or.inl rfl | exact Or.inr rfl))) (λ _ _ _ _ => pts_nil) (λ _ _ _ _ => (pe_lst (pa_cons (pv 0) pa_nil)))))) (pss_cons (ps_for PassesOwn.never rfl (kx_en K B.enumerate (pa_cons (pv 6) pa_nil)) (kx_pair K (pgs_cons (pg_name (i := 8) sclaw.nd rfl (by first | exact Or.inl rfl | exact Or.inr rfl)) (pgs_cons (pg_name (i := 9) sclaw.nd rfl (by first | exact Or.inl rfl | exact Or.inr rfl)) pgs_nil))) (pss_one (ps_setL (i := 7) sclaw.nd (pe_op (kx_add K) (pv 7) (pe_compC ["_law_other"] [("_law_one", 9)] (kx_seq K (pe_slice (kx_slA K) (pv 6) (po_some (pe_op (kx_add K) (pv 8) pe_int)) po_none)) (λ _ _ _ _ => (pg_name (i := 0) (show List.Nodup (["_law_other", "_law_one"] : List Str) by decide +kernel) rfl (by first | exact Or.inl rfl | exact Or.inr rfl))) (λ _ _ _ _ => pts_nil) (λ _ _ _ _ => (pe_lst (pa_cons (pv 1) (pa_cons (pv 0) pa_nil))))))))) (pss_cons (ps_setC (i := 10) ["_law_row"] [("_law_game", 1)] sclaw.nd rfl (by first | exact Or.inl rfl | exact Or.inr rfl) (kx_seq K (pv 7)) (λ _ _ _ _ => (pg_name (i := 0) (show List.Nodup (["_law_row", "_law_game"] : List Str) by decide +kernel) rfl (by first | exact Or.inl rfl | exact Or.inr rfl))) (λ _ _ _ _ => (pts_one (pt_cmpR op_isN (pe_own O_law_alike hr (pa_cons (pv 1) (pa_cons (pv 0) pa_nil))) pe_non (nomark _)))) (λ _ _ _ _ => (pv 0))) (pss_cons (ps_if (pt_cmpR (kx_eqD K hu) (pv 10) (pe_lst pa_nil) (nomark _)) (pss_one (ps_ret (pe_cmpR op_gt (pe_callB (kx_lenA K) (by rfl) B.len PySem.boot_len (pa_cons (pv 5) pa_nil)) pe_int (nomark _)))) pss_nil) (pss_one (ps_ret (pe_cmpR (kx_eqD K hu) (pv 5) (pe_ix (kx_ix K) (pv 10) pe_int (λ _ _ => rfl)) (nomark _))))))))))))))))), (ss_seq (ss_set 1 (se_call (sa_cons (se_var 0) (sa_cons se_int sa_nil)))) (ss_seq (ss_set 2 (se_own (so_comp (si_rng1 (sa_cons (se_op od_mod (se_call (sa_cons (se_var 0) (sa_cons se_int sa_nil))) se_int) sa_nil)) (sg_name 0) low_name st_yes (se_call (sa_cons (se_var 1) (sa_cons (se_op od_add (se_call (sa_cons (se_var 2) (sa_cons (se_op od_add se_int (se_var 0)) sa_nil))) (se_op od_mul (se_op od_mul se_int (se_var 0)) (se_var 0))) sa_nil)))))) (ss_seq (ss_set 3 (se_call (sa_cons (se_var 1) (sa_cons (se_var 2) sa_nil)))) (ss_seq (ss_set 4 (se_call (sa_cons (se_var 1) (sa_cons (se_var 2) sa_nil)))) (ss_seq (ss_if (st_or (st_test (se_op od_ne (se_call (sa_cons (se_var 1) (sa_cons (se_var 2) sa_nil))) (se_var 3))) (st_or (st_not (st_tru (se_isi (se_var 4)))) (st_test (se_op od_ne (se_var 4) (se_op od_isN (se_var 3) se_non))))) (ss_ret se_bl) ss_next) (ss_seq (ss_if (st_test (se_op od_eq (se_op od_mod (se_op od_fdiv (se_call (sa_cons (se_var 0) (sa_cons se_int sa_nil))) se_int) se_int) se_int)) (ss_ret (se_op od_eq (se_call (sa_cons (se_op od_ix (se_own (so_lst (@sa_lits _ [.tuple [.int 3, .int 3], .tuple [.int 2, .int 5], .tuple [.int 5, .int 2], .tuple [.int 3, .int 4]] (by rfl)))) (se_op od_mod (se_call (sa_cons (se_var 0) (sa_cons se_int sa_nil))) se_int)) sa_nil)) (se_own (so_lst (sa_cons se_bl (sa_cons se_bl sa_nil)))))) ss_next) (ss_seq (ss_set 5 (se_call (sa_cons (se_var 1) sa_nil))) (ss_seq (ss_if (st_or (st_not (st_tru (se_isi (se_var 5)))) (st_or (st_test (se_op od_ne (se_var 5) (se_sortS (sa_cons (se_var 5) sa_nil)))) (st_test (se_op od_notN (se_call (sa_cons (se_var 1) (sa_cons (se_var 5) sa_nil))) se_non)))) (ss_ret se_bl) ss_next) (ss_seq (ss_set 6 (se_call (sa_cons (se_var 1) sa_nil))) (ss_seq (ss_set 7 (se_op od_add (se_own (so_lst (sa_cons (se_own (so_lst sa_nil)) sa_nil))) (se_own (so_comp (si_seq (se_var 6)) (sg_name 0) low_name st_yes (se_own (so_lst (sa_cons (se_var 0) sa_nil))))))) (ss_seq (ss_for (si_en (sa_cons (se_var 6) sa_nil)) (sg_tup (sgs_cons (sg_name 8) (sgs_cons (sg_name 9) sgs_nil))) (ss_set 7 (se_op od_add (se_var 7) (se_own (so_comp (si_seq (se_sl (se_var 6) (so_part (se_op od_add (se_var 8) se_int)) so_none)) (sg_name 0) low_name st_yes (se_own (so_lst (sa_cons (se_var 1) (sa_cons (se_var 0) sa_nil))))))))) (ss_seq (ss_set 10 (se_own (so_comp (si_seq (se_var 7)) (sg_name 0) low_name (st_test (se_op od_isN (se_call (sa_cons (se_var 1) (sa_cons (se_var 0) sa_nil))) se_non)) (se_var 0)))) (ss_seq (ss_if (st_test (se_op od_eq (se_var 10) (se_own (so_lst sa_nil)))) (ss_ret (se_op od_gt (se_callB cd_len (sa_cons (se_var 5) sa_nil)) se_int)) ss_next) (ss_ret (se_op od_eq (se_var 5) (se_op od_ix (se_var 10) se_int))))))))))))))))⟩
end
theorem all_mk {l : PySem.W.OpenLaw} {w : World} {K : Fg} {h : Heap} {mg : Str -> Option Value} {fa : Addr} (X : K.In h) (G : h.Ns mainGlobals mg) (hfa : mg "law" = some (.ref fa))
 {od0 an0 : Option Addr} {sl0 : Array (Option Value)} {oc0 kV0 dc0 pm0 cd0 ct0 : Value} {f0 : Addr} {od1 an1 : Option Addr} {sl1 : Array (Option Value)} {oc1 kV1 dc1 pm1 cd1 ct1 : Value} {f1 : Addr} {od2 an2 : Option Addr} {sl2 : Array (Option Value)} {oc2 kV2 dc2 pm2 cd2 ct2 : Value} {f2 : Addr} {od3 an3 : Option Addr} {sl3 : Array (Option Value)} {oc3 kV3 dc3 pm3 cd3 ct3 : Value} {f3 : Addr} {od4 an4 : Option Addr} {sl4 : Array (Option Value)} {oc4 kV4 dc4 pm4 cd4 ct4 : Value} {f4 : Addr} {od5 an5 : Option Addr} {sl5 : Array (Option Value)} {oc5 kV5 dc5 pm5 cd5 ct5 : Value} {f5 : Addr} {od6 an6 : Option Addr} {sl6 : Array (Option Value)} {oc6 kV6 dc6 pm6 cd6 ct6 : Value} {f6 : Addr} {od7 an7 : Option Addr} {sl7 : Array (Option Value)} {oc7 kV7 dc7 pm7 cd7 ct7 : Value} {f7 : Addr} {od8 an8 : Option Addr} {sl8 : Array (Option Value)} {oc8 kV8 dc8 pm8 cd8 ct8 : Value} {f8 : Addr} {od9 an9 : Option Addr} {sl9 : Array (Option Value)} {oc9 kV9 dc9 pm9 cd9 ct9 : Value} {f9 : Addr} {od10 an10 : Option Addr} {sl10 : Array (Option Value)} {oc10 kV10 dc10 pm10 cd10 ct10 : Value} {f10 : Addr} {od11 an11 : Option Addr} {sl11 : Array (Option Value)} {oc11 kV11 dc11 pm11 cd11 ct11 : Value} {f11 : Addr} {od12 an12 : Option Addr} {sl12 : Array (Option Value)} {oc12 kV12 dc12 pm12 cd12 ct12 : Value} {f12 : Addr} {od13 an13 : Option Addr} {sl13 : Array (Option Value)} {oc13 kV13 dc13 pm13 cd13 ct13 : Value} {f13 : Addr} {od14 an14 : Option Addr} {sl14 : Array (Option Value)} {oc14 kV14 dc14 pm14 cd14 ct14 : Value} {f14 : Addr} {od15 an15 : Option Addr} {sl15 : Array (Option Value)} {oc15 kV15 dc15 pm15 cd15 ct15 : Value} {f15 : Addr} {od16 an16 : Option Addr} {sl16 : Array (Option Value)} {oc16 kV16 dc16 pm16 cd16 ct16 : Value} {f16 : Addr} {od17 an17 : Option Addr} {sl17 : Array (Option Value)} {oc17 kV17 dc17 pm17 cd17 ct17 : Value} {f17 : Addr} {od18 an18 : Option Addr} {sl18 : Array (Option Value)} {oc18 kV18 dc18 pm18 cd18 ct18 : Value} {f18 : Addr} {od19 an19 : Option Addr} {sl19 : Array (Option Value)} {oc19 kV19 dc19 pm19 cd19 ct19 : Value} {f19 : Addr} {od20 an20 : Option Addr} {sl20 : Array (Option Value)} {oc20 kV20 dc20 pm20 cd20 ct20 : Value} {f20 : Addr} {od21 an21 : Option Addr} {sl21 : Array (Option Value)} {oc21 kV21 dc21 pm21 cd21 ct21 : Value} {f21 : Addr} {od22 an22 : Option Addr} {sl22 : Array (Option Value)} {oc22 kV22 dc22 pm22 cd22 ct22 : Value} {f22 : Addr} {od23 an23 : Option Addr} {sl23 : Array (Option Value)} {oc23 kV23 dc23 pm23 cd23 ct23 : Value} {f23 : Addr} {od24 an24 : Option Addr} {sl24 : Array (Option Value)} {oc24 kV24 dc24 pm24 cd24 ct24 : Value} {f24 : Addr} {od25 an25 : Option Addr} {sl25 : Array (Option Value)} {oc25 kV25 dc25 pm25 cd25 ct25 : Value} {f25 : Addr} {od26 an26 : Option Addr} {sl26 : Array (Option Value)} {oc26 kV26 dc26 pm26 cd26 ct26 : Value} {f26 : Addr} {CTooBig : Addr} {CGuessError : Addr}
 (a0 : PySem.W.nsIn K mainGlobals "_law_mix" = some (some (.ref f0))) (l0 : K.lookup f0 = some ⟨oc0, od0, .func (PySem.W.fnOf "_law_mix" "_law_mix" (defArgs s_law_mix) (defBody s_law_mix) (defScope s_law_mix) .none kV0 dc0 pm0 an0 cd0 ct0), sl0⟩) (c0 : PySem.W.codeIn K cd0 "_law_mix" = true) (k0 : PySem.W.keepIn K (.ref f0) = true)
 (a1 : PySem.W.nsIn K mainGlobals "_law_cell" = some (some (.ref f1))) (l1 : K.lookup f1 = some ⟨oc1, od1, .func (PySem.W.fnOf "_law_cell" "_law_cell" (defArgs s_law_cell) (defBody s_law_cell) (defScope s_law_cell) .none kV1 dc1 pm1 an1 cd1 ct1), sl1⟩) (c1 : PySem.W.codeIn K cd1 "_law_cell" = true) (k1 : PySem.W.keepIn K (.ref f1) = true)
 (a2 : PySem.W.nsIn K mainGlobals "_law_small" = some (some (.ref f2))) (l2 : K.lookup f2 = some ⟨oc2, od2, .func (PySem.W.fnOf "_law_small" "_law_small" (defArgs s_law_small) (defBody s_law_small) (defScope s_law_small) .none kV2 dc2 pm2 an2 cd2 ct2), sl2⟩) (c2 : PySem.W.codeIn K cd2 "_law_small" = true) (k2 : PySem.W.keepIn K (.ref f2) = true)
 (a3 : PySem.W.nsIn K mainGlobals "_law_code" = some (some (.ref f3))) (l3 : K.lookup f3 = some ⟨oc3, od3, .func (PySem.W.fnOf "_law_code" "_law_code" (defArgs s_law_code) (defBody s_law_code) (defScope s_law_code) .none kV3 dc3 pm3 an3 cd3 ct3), sl3⟩) (c3 : PySem.W.codeIn K cd3 "_law_code" = true) (k3 : PySem.W.keepIn K (.ref f3) = true)
 (a4 : PySem.W.nsIn K mainGlobals "_law_codes" = some (some (.ref f4))) (l4 : K.lookup f4 = some ⟨oc4, od4, .func (PySem.W.fnOf "_law_codes" "_law_codes" (defArgs s_law_codes) (defBody s_law_codes) (defScope s_law_codes) .none kV4 dc4 pm4 an4 cd4 ct4), sl4⟩) (c4 : PySem.W.codeIn K cd4 "_law_codes" = true) (k4 : PySem.W.keepIn K (.ref f4) = true)
 (a5 : PySem.W.nsIn K mainGlobals "_law_answer" = some (some (.ref f5))) (l5 : K.lookup f5 = some ⟨oc5, od5, .func (PySem.W.fnOf "_law_answer" "_law_answer" (defArgs s_law_answer) (defBody s_law_answer) (defScope s_law_answer) .none kV5 dc5 pm5 an5 cd5 ct5), sl5⟩) (c5 : PySem.W.codeIn K cd5 "_law_answer" = true) (k5 : PySem.W.keepIn K (.ref f5) = true)
 (a6 : PySem.W.nsIn K mainGlobals "_law_alike" = some (some (.ref f6))) (l6 : K.lookup f6 = some ⟨oc6, od6, .func (PySem.W.fnOf "_law_alike" "_law_alike" (defArgs s_law_alike) (defBody s_law_alike) (defScope s_law_alike) .none kV6 dc6 pm6 an6 cd6 ct6), sl6⟩) (c6 : PySem.W.codeIn K cd6 "_law_alike" = true) (k6 : PySem.W.keepIn K (.ref f6) = true)
 (a7 : PySem.W.nsIn K mainGlobals "is_pair" = some (some (.ref f7))) (l7 : K.lookup f7 = some ⟨oc7, od7, .func (PySem.W.fnOf "is_pair" "is_pair" (defArgs sis_pair) (defBody sis_pair) (defScope sis_pair) .none kV7 dc7 pm7 an7 cd7 ct7), sl7⟩) (c7 : PySem.W.codeIn K cd7 "is_pair" = true) (k7 : PySem.W.keepIn K (.ref f7) = true)
 (a8 : PySem.W.nsIn K mainGlobals "is_number_within" = some (some (.ref f8))) (l8 : K.lookup f8 = some ⟨oc8, od8, .func (PySem.W.fnOf "is_number_within" "is_number_within" (defArgs sis_number_within) (defBody sis_number_within) (defScope sis_number_within) .none kV8 dc8 pm8 an8 cd8 ct8), sl8⟩) (c8 : PySem.W.codeIn K cd8 "is_number_within" = true) (k8 : PySem.W.keepIn K (.ref f8) = true)
 (a9 : PySem.W.nsIn K mainGlobals "how_many_codes" = some (some (.ref f9))) (l9 : K.lookup f9 = some ⟨oc9, od9, .func (PySem.W.fnOf "how_many_codes" "how_many_codes" (defArgs show_many_codes) (defBody show_many_codes) (defScope show_many_codes) .none kV9 dc9 pm9 an9 cd9 ct9), sl9⟩) (c9 : PySem.W.codeIn K cd9 "how_many_codes" = true) (k9 : PySem.W.keepIn K (.ref f9) = true)
 (a10 : PySem.W.nsIn K mainGlobals "is_game" = some (some (.ref f10))) (l10 : K.lookup f10 = some ⟨oc10, od10, .func (PySem.W.fnOf "is_game" "is_game" (defArgs sis_game) (defBody sis_game) (defScope sis_game) .none kV10 dc10 pm10 an10 cd10 ct10), sl10⟩) (c10 : PySem.W.codeIn K cd10 "is_game" = true) (k10 : PySem.W.keepIn K (.ref f10) = true)
 (a11 : PySem.W.nsIn K mainGlobals "checked_game" = some (some (.ref f11))) (l11 : K.lookup f11 = some ⟨oc11, od11, .func (PySem.W.fnOf "checked_game" "checked_game" (defArgs schecked_game) (defBody schecked_game) (defScope schecked_game) .none kV11 dc11 pm11 an11 cd11 ct11), sl11⟩) (c11 : PySem.W.codeIn K cd11 "checked_game" = true) (k11 : PySem.W.keepIn K (.ref f11) = true)
 (a12 : PySem.W.nsIn K mainGlobals "is_code" = some (some (.ref f12))) (l12 : K.lookup f12 = some ⟨oc12, od12, .func (PySem.W.fnOf "is_code" "is_code" (defArgs sis_code) (defBody sis_code) (defScope sis_code) .none kV12 dc12 pm12 an12 cd12 ct12), sl12⟩) (c12 : PySem.W.codeIn K cd12 "is_code" = true) (k12 : PySem.W.keepIn K (.ref f12) = true)
 (a13 : PySem.W.nsIn K mainGlobals "checked_list" = some (some (.ref f13))) (l13 : K.lookup f13 = some ⟨oc13, od13, .func (PySem.W.fnOf "checked_list" "checked_list" (defArgs schecked_list) (defBody schecked_list) (defScope schecked_list) .none kV13 dc13 pm13 an13 cd13 ct13), sl13⟩) (c13 : PySem.W.codeIn K cd13 "checked_list" = true) (k13 : PySem.W.keepIn K (.ref f13) = true)
 (a14 : PySem.W.nsIn K mainGlobals "checked_guesses" = some (some (.ref f14))) (l14 : K.lookup f14 = some ⟨oc14, od14, .func (PySem.W.fnOf "checked_guesses" "checked_guesses" (defArgs schecked_guesses) (defBody schecked_guesses) (defScope schecked_guesses) .none kV14 dc14 pm14 an14 cd14 ct14), sl14⟩) (c14 : PySem.W.codeIn K cd14 "checked_guesses" = true) (k14 : PySem.W.keepIn K (.ref f14) = true)
 (a15 : PySem.W.nsIn K mainGlobals "answer_of" = some (some (.ref f15))) (l15 : K.lookup f15 = some ⟨oc15, od15, .func (PySem.W.fnOf "answer_of" "answer_of" (defArgs sanswer_of) (defBody sanswer_of) (defScope sanswer_of) .none kV15 dc15 pm15 an15 cd15 ct15), sl15⟩) (c15 : PySem.W.codeIn K cd15 "answer_of" = true) (k15 : PySem.W.keepIn K (.ref f15) = true)
 (a16 : PySem.W.nsIn K mainGlobals "answers_to" = some (some (.ref f16))) (l16 : K.lookup f16 = some ⟨oc16, od16, .func (PySem.W.fnOf "answers_to" "answers_to" (defArgs sanswers_to) (defBody sanswers_to) (defScope sanswers_to) .none kV16 dc16 pm16 an16 cd16 ct16), sl16⟩) (c16 : PySem.W.codeIn K cd16 "answers_to" = true) (k16 : PySem.W.keepIn K (.ref f16) = true)
 (a17 : PySem.W.nsIn K mainGlobals "first_alike" = some (some (.ref f17))) (l17 : K.lookup f17 = some ⟨oc17, od17, .func (PySem.W.fnOf "first_alike" "first_alike" (defArgs sfirst_alike) (defBody sfirst_alike) (defScope sfirst_alike) .none kV17 dc17 pm17 an17 cd17 ct17), sl17⟩) (c17 : PySem.W.codeIn K cd17 "first_alike" = true) (k17 : PySem.W.keepIn K (.ref f17) = true)
 (a18 : PySem.W.nsIn K mainGlobals "all_codes" = some (some (.ref f18))) (l18 : K.lookup f18 = some ⟨oc18, od18, .func (PySem.W.fnOf "all_codes" "all_codes" (defArgs sall_codes) (defBody sall_codes) (defScope sall_codes) .none kV18 dc18 pm18 an18 cd18 ct18), sl18⟩) (c18 : PySem.W.codeIn K cd18 "all_codes" = true) (k18 : PySem.W.keepIn K (.ref f18) = true)
 (a19 : PySem.W.nsIn K mainGlobals "alike_by" = some (some (.ref f19))) (l19 : K.lookup f19 = some ⟨oc19, od19, .func (PySem.W.fnOf "alike_by" "alike_by" (defArgs salike_by) (defBody salike_by) (defScope salike_by) .none kV19 dc19 pm19 an19 cd19 ct19), sl19⟩) (c19 : PySem.W.codeIn K cd19 "alike_by" = true) (k19 : PySem.W.keepIn K (.ref f19) = true)
 (a20 : PySem.W.nsIn K mainGlobals "settle_all" = some (some (.ref f20))) (l20 : K.lookup f20 = some ⟨oc20, od20, .func (PySem.W.fnOf "settle_all" "settle_all" (defArgs ssettle_all) (defBody ssettle_all) (defScope ssettle_all) .none kV20 dc20 pm20 an20 cd20 ct20), sl20⟩) (c20 : PySem.W.codeIn K cd20 "settle_all" = true) (k20 : PySem.W.keepIn K (.ref f20) = true)
 (a21 : PySem.W.nsIn K mainGlobals "small_game" = some (some (.ref f21))) (l21 : K.lookup f21 = some ⟨oc21, od21, .func (PySem.W.fnOf "small_game" "small_game" (defArgs ssmall_game) (defBody ssmall_game) (defScope ssmall_game) .none kV21 dc21 pm21 an21 cd21 ct21), sl21⟩) (c21 : PySem.W.codeIn K cd21 "small_game" = true) (k21 : PySem.W.keepIn K (.ref f21) = true)
 (a22 : PySem.W.nsIn K mainGlobals "fewest_settling" = some (some (.ref f22))) (l22 : K.lookup f22 = some ⟨oc22, od22, .func (PySem.W.fnOf "fewest_settling" "fewest_settling" (defArgs sfewest_settling) (defBody sfewest_settling) (defScope sfewest_settling) .none kV22 dc22 pm22 an22 cd22 ct22), sl22⟩) (c22 : PySem.W.codeIn K cd22 "fewest_settling" = true) (k22 : PySem.W.keepIn K (.ref f22) = true)
 (a23 : PySem.W.nsIn K mainGlobals "_law_too_big" = some (some (.ref f23))) (l23 : K.lookup f23 = some ⟨oc23, od23, .func (PySem.W.fnOf "_law_too_big" "_law_too_big" (defArgs s_law_too_big) (defBody s_law_too_big) (defScope s_law_too_big) .none kV23 dc23 pm23 an23 cd23 ct23), sl23⟩) (c23 : PySem.W.codeIn K cd23 "_law_too_big" = true) (k23 : PySem.W.keepIn K (.ref f23) = true)
 (a24 : PySem.W.nsIn K mainGlobals "choices" = some (some (.ref f24))) (l24 : K.lookup f24 = some ⟨oc24, od24, .func (PySem.W.fnOf "choices" "choices" (defArgs schoices) (defBody schoices) (defScope schoices) .none kV24 dc24 pm24 an24 cd24 ct24), sl24⟩) (c24 : PySem.W.codeIn K cd24 "choices" = true) (k24 : PySem.W.keepIn K (.ref f24) = true)
 (a25 : PySem.W.nsIn K mainGlobals "first_settling" = some (some (.ref f25))) (l25 : K.lookup f25 = some ⟨oc25, od25, .func (PySem.W.fnOf "first_settling" "first_settling" (defArgs sfirst_settling) (defBody sfirst_settling) (defScope sfirst_settling) .none kV25 dc25 pm25 an25 cd25 ct25), sl25⟩) (c25 : PySem.W.codeIn K cd25 "first_settling" = true) (k25 : PySem.W.keepIn K (.ref f25) = true)
 (a26 : PySem.W.nsIn K mainGlobals "law" = some (some (.ref f26))) (l26 : K.lookup f26 = some ⟨oc26, od26, .func (PySem.W.fnOf "law" "law" (defArgs slaw) (defBody slaw) (defScope slaw) .none kV26 dc26 pm26 an26 cd26 ct26), sl26⟩) (c26 : PySem.W.codeIn K cd26 "law" = true) (k26 : PySem.W.keepIn K (.ref f26) = true)
 {tMOST_PLACES : Tok} (gMOST_PLACES : PySem.W.nsIn K mainGlobals "MOST_PLACES" = some (some (.int 5 tMOST_PLACES)))
 {tMOST_COLOURS : Tok} (gMOST_COLOURS : PySem.W.nsIn K mainGlobals "MOST_COLOURS" = some (some (.int 8 tMOST_COLOURS)))
 {tMOST_CODES : Tok} (gMOST_CODES : PySem.W.nsIn K mainGlobals "MOST_CODES" = some (some (.int 300 tMOST_CODES)))
 {tMOST_ASKS : Tok} (gMOST_ASKS : PySem.W.nsIn K mainGlobals "MOST_ASKS" = some (some (.int 8 tMOST_ASKS)))
 {tMOST_CODES_SEARCHED : Tok} (gMOST_CODES_SEARCHED : PySem.W.nsIn K mainGlobals "MOST_CODES_SEARCHED" = some (some (.int 16 tMOST_CODES_SEARCHED)))
 (yTooBig : PySem.W.nsIn K mainGlobals "TooBig" = some (some (.ref CTooBig)))
 (yGuessError : PySem.W.nsIn K mainGlobals "GuessError" = some (some (.ref CGuessError)))
 (xTooBig : PySem.W.excIn K CTooBig [.type "ValueError", .type "Exception", .type "BaseException", .type "object"] "ValueError.__new__" = true)
 (eTooBigGuessError : PySem.W.exmOne K (.ref CTooBig) (.ref CGuessError) = some true)
 (vTooBigTooBig : PySem.W.kitOne K (.ref CTooBig) (.ref CTooBig) = some true)
 (uTooBig : PySem.W.kitOne K (.ref CTooBig) (.type "ValueError") = some true)
 (q0TooBig : PySem.W.findIn K (.ref CTooBig) "__getattribute__" = some (some (.builtin "BaseException.__getattribute__")))
 (q1TooBig : PySem.W.findIn K (.ref CTooBig) "__getattr__" = some none)
 (q4TooBig : PySem.W.mroIn K CTooBig (.type "BaseException") = some true)
 (q2TooBig : PySem.W.findIn K (.ref CTooBig) "__class__" = some (some (.builtin "object.__class__")))
 (q3TooBig : PySem.W.mroIn K CTooBig (.type "object") = some true)
 (r1 : PySem.W.specialIn K (.builtin "object.__class__") "__get__" = some (some (.builtin "getset_descriptor.__get__")))
 (r2 : PySem.W.takesIn K (.builtin "object.__class__") = some true)
 (zValueError : PySem.W.nsIn K mainGlobals "ValueError" = some none)
 (zlen : PySem.W.nsIn K mainGlobals "len" = some none)
 (zisinstance : PySem.W.nsIn K mainGlobals "isinstance" = some none)
 (zrange : PySem.W.nsIn K mainGlobals "range" = some none)
 (zint : PySem.W.nsIn K mainGlobals "int" = some none)
 (zbool : PySem.W.nsIn K mainGlobals "bool" = some none)
 (ztuple : PySem.W.nsIn K mainGlobals "tuple" = some none)
 (zlist : PySem.W.nsIn K mainGlobals "list" = some none)
 (zall : PySem.W.nsIn K mainGlobals "all" = some none)
 (zenumerate : PySem.W.nsIn K mainGlobals "enumerate" = some none)
 (zzip : PySem.W.nsIn K mainGlobals "zip" = some none)
 (zsum : PySem.W.nsIn K mainGlobals "sum" = some none)
 (zsorted : PySem.W.nsIn K mainGlobals "sorted" = some none)
 (zmax : PySem.W.nsIn K mainGlobals "max" = some none)
 (zmin : PySem.W.nsIn K mainGlobals "min" = some none)
 (zset : PySem.W.nsIn K mainGlobals "set" = some none)
 (zstr : PySem.W.nsIn K mainGlobals "str" = some none)
:
 ∃ fd : FuncData, (∀ (s : Shared) (v : Value), BindsTo s fd ⟨[v], []⟩ [("_law_script", v)]) /\ ∀ base : Heap, K.In base -> base.Ns mainGlobals mg -> BMdB base mg -> FnOk l.prog w K mg base CX0 7 fa fd ["_law_script"] (spD K 1 Flaw) := by
 have e := hfa.symm.trans (PySem.W.mg_of X G a26)
 cases e
 have B : Bt mg := ⟨PySem.W.mg_none_of X G zlen, PySem.W.mg_none_of X G zisinstance, PySem.W.mg_none_of X G zrange, PySem.W.mg_none_of X G zint, PySem.W.mg_none_of X G zbool, PySem.W.mg_none_of X G ztuple, PySem.W.mg_none_of X G zlist, PySem.W.mg_none_of X G zall, PySem.W.mg_none_of X G zenumerate, PySem.W.mg_none_of X G zzip, PySem.W.mg_none_of X G zsum, PySem.W.mg_none_of X G zsorted, PySem.W.mg_none_of X G zmax, PySem.W.mg_none_of X G zmin, PySem.W.mg_none_of X G zset, PySem.W.mg_none_of X G zstr⟩
 have F0_ := fun_mk (st := s_law_mix) l0 c0 k0
 have F1_ := fun_mk (st := s_law_cell) l1 c1 k1
 have F2_ := fun_mk (st := s_law_small) l2 c2 k2
 have F3_ := fun_mk (st := s_law_code) l3 c3 k3
 have F4_ := fun_mk (st := s_law_codes) l4 c4 k4
 have F5_ := fun_mk (st := s_law_answer) l5 c5 k5
 have F6_ := fun_mk (st := s_law_alike) l6 c6 k6
 have F7_ := fun_mk (st := sis_pair) l7 c7 k7
 have F8_ := fun_mk (st := sis_number_within) l8 c8 k8
 have F9_ := fun_mk (st := show_many_codes) l9 c9 k9
 have F10_ := fun_mk (st := sis_game) l10 c10 k10
 have F11_ := fun_mk (st := schecked_game) l11 c11 k11
 have F12_ := fun_mk (st := sis_code) l12 c12 k12
 have F13_ := fun_mk (st := schecked_list) l13 c13 k13
 have F14_ := fun_mk (st := schecked_guesses) l14 c14 k14
 have F15_ := fun_mk (st := sanswer_of) l15 c15 k15
 have F16_ := fun_mk (st := sanswers_to) l16 c16 k16
 have F17_ := fun_mk (st := sfirst_alike) l17 c17 k17
 have F18_ := fun_mk (st := sall_codes) l18 c18 k18
 have F19_ := fun_mk (st := salike_by) l19 c19 k19
 have F20_ := fun_mk (st := ssettle_all) l20 c20 k20
 have F21_ := fun_mk (st := ssmall_game) l21 c21 k21
 have F22_ := fun_mk (st := sfewest_settling) l22 c22 k22
 have F23_ := fun_mk (st := s_law_too_big) l23 c23 k23
 have F24_ := fun_mk (st := schoices) l24 c24 k24
 have F25_ := fun_mk (st := sfirst_settling) l25 c25 k25
 have F26_ := fun_mk (st := slaw) l26 c26 k26
 have b0 := F0_.binds (ps := ["_law_cell_here", "_law_prime", "_law_many"]) λ _ _ _ _ _ _ => us3 λ _ _ _ => rfl
 have b1 := F1_.binds (ps := ["_law_script", "_law_k"]) λ _ _ _ _ _ _ => us2 λ _ _ => rfl
 have b2 := F2_.binds (ps := ["_law_script", "_law_at"]) λ _ _ _ _ _ _ => us2 λ _ _ => rfl
 have b3 := F3_.binds (ps := ["_law_game", "_law_cell_here"]) λ _ _ _ _ _ _ => us2 λ _ _ => rfl
 have b4 := F4_.binds (ps := ["_law_game"]) λ _ _ _ _ _ _ => us1 λ _ => rfl
 have b5 := F5_.binds (ps := ["_law_one", "_law_other"]) λ _ _ _ _ _ _ => us2 λ _ _ => rfl
 have b6 := F6_.binds (ps := ["_law_game", "_law_guesses"]) λ _ _ _ _ _ _ => us2 λ _ _ => rfl
 have b7 := F7_.binds (ps := ["thing"]) λ _ _ _ _ _ _ => us1 λ _ => rfl
 have b8 := F8_.binds (ps := ["thing", "low", "high"]) λ _ _ _ _ _ _ => us3 λ _ _ _ => rfl
 have b9 := F9_.binds (ps := ["places", "colours"]) λ _ _ _ _ _ _ => us2 λ _ _ => rfl
 have b10 := F10_.binds (ps := ["thing"]) λ _ _ _ _ _ _ => us1 λ _ => rfl
 have b11 := F11_.binds (ps := ["game"]) λ _ _ _ _ _ _ => us1 λ _ => rfl
 have b12 := F12_.binds (ps := ["game", "thing"]) λ _ _ _ _ _ _ => us2 λ _ _ => rfl
 have b13 := F13_.binds (ps := ["game", "things", "is_one"]) λ _ _ _ _ _ _ => us3 λ _ _ _ => rfl
 have b14 := F14_.binds (ps := ["game", "guesses"]) λ _ _ _ _ _ _ => us2 λ _ _ => rfl
 have b15 := F15_.binds (ps := ["hidden", "guess"]) λ _ _ _ _ _ _ => us2 λ _ _ => rfl
 have b16 := F16_.binds (ps := ["code", "guesses"]) λ _ _ _ _ _ _ => us2 λ _ _ => rfl
 have b17 := F17_.binds (ps := ["codes", "guesses"]) λ _ _ _ _ _ _ => us2 λ _ _ => rfl
 have b18 := F18_.binds (ps := ["game"]) λ _ _ _ _ _ _ => us1 λ _ => rfl
 have b19 := F19_.binds (ps := ["game", "guesses"]) λ _ _ _ _ _ _ => us2 λ _ _ => rfl
 have b20 := F20_.binds (ps := ["game", "guesses"]) λ _ _ _ _ _ _ => us2 λ _ _ => rfl
 have b21 := F21_.binds (ps := ["game"]) λ _ _ _ _ _ _ => us1 λ _ => rfl
 have b22 := F22_.binds (ps := ["game"]) λ _ _ _ _ _ _ => us1 λ _ => rfl
 have b23 := F23_.binds (ps := ["_law_game"]) λ _ _ _ _ _ _ => us1 λ _ => rfl
 have b24 := F24_.binds (ps := ["places", "size"]) λ _ _ _ _ _ _ => us2 λ _ _ => rfl
 have b25 := F25_.binds (ps := ["codes", "size"]) λ _ _ _ _ _ _ => us2 λ _ _ => rfl
 have b26 := F26_.binds (ps := ["_law_script"]) λ _ _ _ _ _ _ => us1 λ _ => rfl
 refine ⟨PySem.W.fnOf "law" "law" (defArgs slaw) (defBody slaw) (defScope slaw) .none kV26 dc26 pm26 an26 cd26 ct26, λ s v => .of_eq rfl, λ base _ _ BM_ => ?_⟩
 have O0_ : Own l.prog w K mg base 1 "_law_mix" ["_law_cell_here", "_law_prime", "_law_many"] (spD K 3 F_law_mix) := ⟨⟨_, _, ok_law_mix F0_ B, PySem.W.mg_of X G a0, k0, b0⟩⟩
 have O1_ : Own l.prog w K mg base 1 "_law_cell" ["_law_script", "_law_k"] (spD K 2 F_law_cell) := ⟨⟨_, _, ok_law_cell F1_ B, PySem.W.mg_of X G a1, k1, b1⟩⟩
 have O2_ : Own l.prog w K mg base 2 "_law_small" ["_law_script", "_law_at"] (spD K 2 F_law_small) := ⟨⟨_, _, ok_law_small F2_ B O0_ O1_, PySem.W.mg_of X G a2, k2, b2⟩⟩
 have O3_ : Own l.prog w K mg base 2 "_law_code" ["_law_game", "_law_cell_here"] (spD K 2 F_law_code) := ⟨⟨_, _, ok_law_code F3_ B O0_, PySem.W.mg_of X G a3, k3, b3⟩⟩
 have O4_ : Own l.prog w K mg base 1 "_law_codes" ["_law_game"] (spD K 1 F_law_codes) := ⟨⟨_, _, ok_law_codes F4_ B, PySem.W.mg_of X G a4, k4, b4⟩⟩
 have O5_ : Own l.prog w K mg base 1 "_law_answer" ["_law_one", "_law_other"] (spD K 2 F_law_answer) := ⟨⟨_, _, ok_law_answer F5_ B, PySem.W.mg_of X G a5, k5, b5⟩⟩
 have O6_ : Own l.prog w K mg base 2 "_law_alike" ["_law_game", "_law_guesses"] (spD K 2 F_law_alike) := ⟨⟨_, _, ok_law_alike F6_ B O4_ O5_, PySem.W.mg_of X G a6, k6, b6⟩⟩
 have O7_ : Own l.prog w K mg base 1 "is_pair" ["thing"] (spD K 1 Fis_pair) := ⟨⟨_, _, okis_pair F7_ B, PySem.W.mg_of X G a7, k7, b7⟩⟩
 have O8_ : Own l.prog w K mg base 1 "is_number_within" ["thing", "low", "high"] (spD K 3 Fis_number_within) := ⟨⟨_, _, okis_number_within F8_ B, PySem.W.mg_of X G a8, k8, b8⟩⟩
 have O9_ : Own l.prog w K mg base 1 "how_many_codes" ["places", "colours"] (spD K 2 Fhow_many_codes) := ⟨⟨_, _, okhow_many_codes F9_ B, PySem.W.mg_of X G a9, k9, b9⟩⟩
 have O10_ : Own l.prog w K mg base 2 "is_game" ["thing"] (spD K 1 Fis_game) := ⟨⟨_, _, okis_game F10_ B O7_ O9_ O8_ (PySem.W.mg_of X G gMOST_PLACES) (PySem.W.mg_of X G gMOST_COLOURS) (PySem.W.mg_of X G gMOST_CODES), PySem.W.mg_of X G a10, k10, b10⟩⟩
 have O11_ : Own l.prog w K mg base 3 "checked_game" ["game"] (spD K 1 Fchecked_game) := ⟨⟨_, _, okchecked_game F11_ B O10_, PySem.W.mg_of X G a11, k11, b11⟩⟩
 have O12_ : Own l.prog w K mg base 2 "is_code" ["game", "thing"] (spD K 2 Fis_code) := ⟨⟨_, _, okis_code F12_ B O8_, PySem.W.mg_of X G a12, k12, b12⟩⟩
 have N12_ : OwnN l.prog w K mg base 2 "is_code" ["game", "thing"] (spD K 2 Fis_code) := ⟨⟨_, _, okis_code F12_ B O8_, a12, k12, b12⟩⟩
 have O13_ : Own l.prog w K mg base 3 "checked_list" ["game", "things", "is_one"] (spD K 3 Fchecked_list) := ⟨⟨_, _, okchecked_list F13_ B N12_ (PySem.W.mg_of X G gMOST_ASKS), PySem.W.mg_of X G a13, k13, b13⟩⟩
 have O14_ : Own l.prog w K mg base 4 "checked_guesses" ["game", "guesses"] (spD K 2 Fchecked_guesses) := ⟨⟨_, _, okchecked_guesses F14_ B O13_ (PySem.W.mg_of X G a12) a12, PySem.W.mg_of X G a14, k14, b14⟩⟩
 have O15_ : Own l.prog w K mg base 1 "answer_of" ["hidden", "guess"] (spD K 2 Fanswer_of) := ⟨⟨_, _, okanswer_of F15_ B, PySem.W.mg_of X G a15, k15, b15⟩⟩
 have O16_ : Own l.prog w K mg base 2 "answers_to" ["code", "guesses"] (spD K 2 Fanswers_to) := ⟨⟨_, _, okanswers_to F16_ B O15_, PySem.W.mg_of X G a16, k16, b16⟩⟩
 have O17_ : Own l.prog w K mg base 3 "first_alike" ["codes", "guesses"] (spD K 2 Ffirst_alike) := ⟨⟨_, _, okfirst_alike F17_ B O16_, PySem.W.mg_of X G a17, k17, b17⟩⟩
 have O18_ : Own l.prog w K mg base 4 "all_codes" ["game"] (spD K 1 Fall_codes) := ⟨⟨_, _, okall_codes F18_ B O11_, PySem.W.mg_of X G a18, k18, b18⟩⟩
 have O19_ : Own l.prog w K mg base 5 "alike_by" ["game", "guesses"] (spD K 2 Falike_by) := ⟨⟨_, _, okalike_by F19_ B O11_ O14_ O17_ O18_, PySem.W.mg_of X G a19, k19, b19⟩⟩
 have O20_ : Own l.prog w K mg base 6 "settle_all" ["game", "guesses"] (spD K 2 Fsettle_all) := ⟨⟨_, _, oksettle_all F20_ B O19_, PySem.W.mg_of X G a20, k20, b20⟩⟩
 have OX21_TooBig_ : OwnX l.prog w K mg base 2 "small_game" ["game"] (spX K 1 CTooBig Xsmall_game_TooBig) := ⟨⟨_, _, okXsmall_game_TooBig F21_ B O9_ (PySem.W.mg_of X G yTooBig) xTooBig (PySem.W.mg_of X G gMOST_CODES_SEARCHED), PySem.W.mg_of X G a21, k21, b21⟩⟩
 have OX22_TooBig_ : OwnX l.prog w K mg base 5 "fewest_settling" ["game"] (spX K 1 CTooBig Xfewest_settling_TooBig) := ⟨⟨_, _, okXfewest_settling_TooBig F22_ B O11_ OX21_TooBig_, PySem.W.mg_of X G a22, k22, b22⟩⟩
 have O23_ : Own l.prog w K mg base 6 "_law_too_big" ["_law_game"] (spD K 1 F_law_too_big) := ⟨⟨_, _, ok_law_too_big F23_ B OX22_TooBig_ (PySem.W.mg_of X G yGuessError) eTooBigGuessError (PySem.W.mg_none_of X G zValueError) ⟨q0TooBig, q1TooBig, q2TooBig, r1, r2, q3TooBig, q4TooBig⟩ (PySem.W.mg_of X G yTooBig) vTooBigTooBig uTooBig, PySem.W.mg_of X G a23, k23, b23⟩⟩
 have O21_ : Own l.prog w K mg base 2 "small_game" ["game"] (spD K 1 Fsmall_game) := ⟨⟨_, _, oksmall_game F21_ B O9_ (PySem.W.mg_of X G gMOST_CODES_SEARCHED), PySem.W.mg_of X G a21, k21, b21⟩⟩
 have O24_ : Own l.prog w K mg base 1 "choices" ["places", "size"] (spD K 2 Fchoices) := ⟨⟨_, _, okchoices F24_ B, PySem.W.mg_of X G a24, k24, b24⟩⟩
 have O25_ : Own l.prog w K mg base 4 "first_settling" ["codes", "size"] (spD K 2 Ffirst_settling) := ⟨⟨_, _, okfirst_settling F25_ B O24_ O17_, PySem.W.mg_of X G a25, k25, b25⟩⟩
 have O22_ : Own l.prog w K mg base 5 "fewest_settling" ["game"] (spD K 1 Ffewest_settling) := ⟨⟨_, _, okfewest_settling F22_ B O11_ O21_ O18_ O25_, PySem.W.mg_of X G a22, k22, b22⟩⟩
 exact oklaw F26_ B O2_ O6_ O20_ O22_ O4_ O3_ O19_ O23_ O1_
theorem walk {l : PySem.W.OpenLaw} {q : Program} {loose : List Str} {XP : (Str -> Option Value) -> Heap -> Prop} {YP : World -> Heap -> Prop} {d : DefRec} {K : Params -> Fg} (hn : l.most = some 63) (hdf : d.params.defaults = [])
 (hY : ∀ (w : World) (h : Heap), YP w h -> (K w.params).In h /\ Tabs (K w.params) h)
 (F : ∀ (w : World) (mg : Str -> Option Value) (fa : Addr) (h : Heap), (K w.params).In h -> h.Ns mainGlobals mg -> mg d.name = some (.ref fa) ->
  ∃ fd : FuncData, (∀ (s : Shared) (u : Value), BindsTo s fd ⟨[u], []⟩ [("_law_script", u)]) /\ ∀ base : Heap, (K w.params).In base -> base.Ns mainGlobals mg -> BMdB base mg -> FnOk l.prog w (K w.params) mg base CX0 7 fa fd ["_law_script"] (spD (K w.params) 1 Flaw)) :
 PySem.W.WalkO q loose XP YP l.row.toRowW d [] (λ f vs => PySem.call f vs) :=
 DL.walk_ofT (n := 63) (k := 7) (x := "_law_script") (CX := λ _ => CX0) (sp := λ w => spD (K w.params) 1 Flaw) hn (by decide) hdf ⟨rfl, by decide, by decide⟩ hY F (λ _ _ a ns hl tb hS => law_spec (law_true ns hl) hS tb) λ _ _ _ _ _ z => z
end GX
open PySem PySem.W PyProof.Rows
noncomputable def PySem.W.Fast.tw10908950805177883761 : Nat := 0
noncomputable def PySem.W.Fast.tw6937028385529474449 : Nat := 0
noncomputable def PySem.W.Fast.tw5984277957886077232 : Nat := 0
noncomputable def PySem.W.Fast.tw6279622023948768083 : Nat := 0
noncomputable def PySem.W.Fast.tw6840874984719582755 : Nat := 0
noncomputable def PySem.W.Fast.tw2224980304498252531 : Nat := 0
noncomputable def PySem.W.Fast.tw5067170777972585262 : Nat := 0
noncomputable def PySem.W.Fast.tw14307379862239599065 : Nat := 0
noncomputable def PySem.W.Fast.tw15679724604312544659 : Nat := 0
noncomputable def PySem.W.Fast.tw13156405869614075572 : Nat := 0
set_option maxRecDepth 100000 in
set_option maxHeartbeats 0 in
theorem PySem.Challenge.cw_guesscode_k13_settling_at_once_holds : PySem.Challenge.rw_guesscode_k13_settling_at_once.Holds := by
 w_on; o_law; k_head; (case hw => w_witness2)
 k_fill
 refine GX.walk (l := PySem.Challenge.rw_guesscode_k13_settling_at_once) rfl rfl (λ w h Y => by first | exact ⟨PySem.W.km_in_of Y, DL.tabs_of (PySem.W.km_tabs_of Y) (by kernel_rfl) (by decide) (by kernel_rfl)⟩ | exact ⟨PySem.W.kIn_of Y, DL.tabs_of (ts := []) (λ _ h => nomatch h) (by kernel_rfl) (by decide) (by kernel_rfl)⟩) ?F
 case F =>
  intro w mg fa h KX G hmg
  refine' GX.all_mk KX G hmg ?a0 ?l0 ?c0 ?k0 ?a1 ?l1 ?c1 ?k1 ?a2 ?l2 ?c2 ?k2 ?a3 ?l3 ?c3 ?k3 ?a4 ?l4 ?c4 ?k4 ?a5 ?l5 ?c5 ?k5 ?a6 ?l6 ?c6 ?k6 ?a7 ?l7 ?c7 ?k7 ?a8 ?l8 ?c8 ?k8 ?a9 ?l9 ?c9 ?k9 ?a10 ?l10 ?c10 ?k10 ?a11 ?l11 ?c11 ?k11 ?a12 ?l12 ?c12 ?k12 ?a13 ?l13 ?c13 ?k13 ?a14 ?l14 ?c14 ?k14 ?a15 ?l15 ?c15 ?k15 ?a16 ?l16 ?c16 ?k16 ?a17 ?l17 ?c17 ?k17 ?a18 ?l18 ?c18 ?k18 ?a19 ?l19 ?c19 ?k19 ?a20 ?l20 ?c20 ?k20 ?a21 ?l21 ?c21 ?k21 ?a22 ?l22 ?c22 ?k22 ?a23 ?l23 ?c23 ?k23 ?a24 ?l24 ?c24 ?k24 ?a25 ?l25 ?c25 ?k25 ?a26 ?l26 ?c26 ?k26 ?gMOST_PLACES ?gMOST_COLOURS ?gMOST_CODES ?gMOST_ASKS ?gMOST_CODES_SEARCHED ?yTooBig ?yGuessError ?xTooBig ?eTooBigGuessError ?vTooBigTooBig ?uTooBig ?q0TooBig ?q1TooBig ?q4TooBig ?q2TooBig ?q3TooBig ?r1 ?r2 ?zValueError ?zlen ?zisinstance ?zrange ?zint ?zbool ?ztuple ?zlist ?zall ?zenumerate ?zzip ?zsum ?zsorted ?zmax ?zmin ?zset ?zstr
  (case a0 => k_is); (case l0 => k_is); (case c0 => k_is); (case k0 => k_is)
  (case a1 => k_is); (case l1 => k_is); (case c1 => k_is); (case k1 => k_is)
  (case a2 => k_is); (case l2 => k_is); (case c2 => k_is); (case k2 => k_is)
  (case a3 => k_is); (case l3 => k_is); (case c3 => k_is); (case k3 => k_is)
  (case a4 => k_is); (case l4 => k_is); (case c4 => k_is); (case k4 => k_is)
  (case a5 => k_is); (case l5 => k_is); (case c5 => k_is); (case k5 => k_is)
  (case a6 => k_is); (case l6 => k_is); (case c6 => k_is); (case k6 => k_is)
  (case a7 => k_is); (case l7 => k_is); (case c7 => k_is); (case k7 => k_is)
  (case a8 => k_is); (case l8 => k_is); (case c8 => k_is); (case k8 => k_is)
  (case a9 => k_is); (case l9 => k_is); (case c9 => k_is); (case k9 => k_is)
  (case a10 => k_is); (case l10 => k_is); (case c10 => k_is); (case k10 => k_is)
  (case a11 => k_is); (case l11 => k_is); (case c11 => k_is); (case k11 => k_is)
  (case a12 => k_is); (case l12 => k_is); (case c12 => k_is); (case k12 => k_is)
  (case a13 => k_is); (case l13 => k_is); (case c13 => k_is); (case k13 => k_is)
  (case a14 => k_is); (case l14 => k_is); (case c14 => k_is); (case k14 => k_is)
  (case a15 => k_is); (case l15 => k_is); (case c15 => k_is); (case k15 => k_is)
  (case a16 => k_is); (case l16 => k_is); (case c16 => k_is); (case k16 => k_is)
  (case a17 => k_is); (case l17 => k_is); (case c17 => k_is); (case k17 => k_is)
  (case a18 => k_is); (case l18 => k_is); (case c18 => k_is); (case k18 => k_is)
  (case a19 => k_is); (case l19 => k_is); (case c19 => k_is); (case k19 => k_is)
  (case a20 => k_is); (case l20 => k_is); (case c20 => k_is); (case k20 => k_is)
  (case a21 => k_is); (case l21 => k_is); (case c21 => k_is); (case k21 => k_is)
  (case a22 => k_is); (case l22 => k_is); (case c22 => k_is); (case k22 => k_is)
  (case a23 => k_is); (case l23 => k_is); (case c23 => k_is); (case k23 => k_is)
  (case a24 => k_is); (case l24 => k_is); (case c24 => k_is); (case k24 => k_is)
  (case a25 => k_is); (case l25 => k_is); (case c25 => k_is); (case k25 => k_is)
  (case a26 => k_is); (case l26 => k_is); (case c26 => k_is); (case k26 => k_is)
  (case gMOST_PLACES => k_is)
  (case gMOST_COLOURS => k_is)
  (case gMOST_CODES => k_is)
  (case gMOST_ASKS => k_is)
  (case gMOST_CODES_SEARCHED => k_is)
  (case yTooBig => k_is)
  (case yGuessError => k_is)
  (case xTooBig => k_exc)
  (case eTooBigGuessError => kts_exm)
  (case vTooBigTooBig => kit_is)
  (case uTooBig => kit_is)
  (case q0TooBig => k_is)
  (case q1TooBig => k_is)
  (case q4TooBig => k_is)
  (case q2TooBig => k_is)
  (case q3TooBig => k_is)
  (case r1 => k_is)
  (case r2 => k_is)
  (case zValueError => k_is)
  (case zlen => k_is)
  (case zisinstance => k_is)
  (case zrange => k_is)
  (case zint => k_is)
  (case zbool => k_is)
  (case ztuple => k_is)
  (case zlist => k_is)
  (case zall => k_is)
  (case zenumerate => k_is)
  (case zzip => k_is)
  (case zsum => k_is)
  (case zsorted => k_is)
  (case zmax => k_is)
  (case zmin => k_is)
  (case zset => k_is)
  (case zstr => k_is)
