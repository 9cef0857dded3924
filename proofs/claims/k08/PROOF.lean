import PyProof.Rows.All
import Wide.All
import OpenK.AllK
import Wide.FinOn
import Lean
import PyProof.EqAt
import PyProof.EqKinds
import PyProof.TupleCall
import PySem.Challenge.RW_guesscode_k08_splits
set_option Elab.async false
set_option linter.all false
set_option maxRecDepth 100000
set_option maxHeartbeats 4000000
abbrev wB := @PySem.wpAny_bind
abbrev wP := @PySem.wpAny_pure
abbrev gEq := @List.getElem?_eq_getElem
abbrev gDq := @List.getD_eq_getElem?_getD
abbrev hPo := @PySem.Heap.get?_push_of_some
abbrev hPs := @PySem.Heap.get?_push_size
abbrev hLs := @PySem.Heap.lt_size
abbrev lMc := @List.mem_cons_of_mem
abbrev lMs := @List.mem_cons_self
abbrev nLl := @Nat.lt_of_lt_of_le
abbrev hUo := @PySem.Heap.get?_update_other
abbrev hUs := @PySem.Heap.get?_update_self
abbrev nLe := @Nat.le_of_lt
abbrev nNl := @Nat.ne_of_lt
abbrev nNg := @Nat.ne_of_gt
abbrev zA := @List.getElem?_cons_zero
abbrev zB := @List.getElem?_cons_succ
abbrev zC := @List.length_cons
abbrev zD := @Option.bind_some
abbrev zE := @List.set_cons_zero
abbrev zF := @List.set_cons_succ
abbrev zG := @Option.map_some
abbrev zH := @List.length_nil
abbrev zI := @List.map_cons
abbrev zJ := @List.length_map
abbrev zK := @List.getElem?_map
abbrev zL := @List.map_nil
abbrev zM := @List.size_toArray
abbrev zN := @Bool.false_eq_true
abbrev Fg := @PySem.W.Frag
abbrev zO := @List.map_map
abbrev zP := @List.mem_map_of_mem
abbrev zQ := @List.length_append
abbrev zR := @List.mem_of_find?_eq_some
abbrev zT := @Nat.lt_irrefl
abbrev zU := @Nat.zero_le
abbrev zV := @Option.some.inj
abbrev Q0 := @Option.map_eq_some_iff
abbrev Q1 := @Nat.le_refl
abbrev Q2 := @List.mem_cons
abbrev Q3 := @List.cons_append
abbrev Q4 := @Bool.and_eq_true
abbrev Q5 := @List.append_nil
abbrev Q6 := @List.getElem?_append_left
abbrev Q7 := @List.getElem?_append_right
abbrev Q8 := @Bool.false_ne_true
abbrev Q9 := @List.nil_append
abbrev Qa := @List.getElem?_replicate
abbrev Qb := @Nat.le_trans
abbrev Qc := @List.mem_map
abbrev Qd := @List.mem_append_right
abbrev Qe := @List.length_set
abbrev Qf := @Array.length_toList
abbrev Q10 := @List.getElem?_eq_some_iff
abbrev Q11 := @List.lookup_cons
abbrev Q12 := @List.all_eq_true
abbrev Q13 := @List.mem_singleton
abbrev Q14 := @List.nodup_cons
abbrev Q15 := @List.find?_cons_of_pos
abbrev Q16 := @List.find?_cons_of_neg
abbrev Q17 := @List.getElem_mem
abbrev Q18 := @List.pairwise_cons
abbrev Q19 := @PySem.Heap.size_push
abbrev Q1a := @List.length_replicate
abbrev Q1b := @Array.getElem?_toList
abbrev Q1c := @List.map_append
abbrev Q1d := @List.getElem_range
abbrev Q1e := @List.mem_of_getElem?
abbrev Q1f := @Bool.not_true
abbrev Q20 := @List.length_range
abbrev Q21 := @Nat.lt_succ_self
abbrev Q22 := @Nat.le_add_right
abbrev Q23 := @List.take_length
abbrev Q24 := @List.length_take
abbrev Q25 := @List.mem_append
abbrev Q26 := @List.map_congr_left
abbrev Q27 := @Nat.lt_of_le_of_lt
abbrev Q28 := @Array.perm_iff_toList_perm
abbrev Q29 := @List.length_singleton
abbrev Q2a := @Nat.lt_succ_of_lt
abbrev Q2b := @List.take_succ_eq_append_getElem
abbrev Q2c := @Int.toNat_natCast
namespace L2
open PySem PySem.Spec PyProof.Rows
noncomputable abbrev Key := Sum Int Str
noncomputable def keyIs : Key -> Value -> Bool
 | .inl k, v => Value.isInt k v
 | .inr x, v => Value.isStrOf x v
noncomputable def keyH (w : World) : Key -> Int
 | .inl k => hashInt k
 | .inr x => hashStr w x
theorem keyIs_shape : ∀ {k : Key} {v : Value}, keyIs k v = true -> (∃ i t, k = Sum.inl i /\ v = Value.int i t) \/ (∃ x t, k = Sum.inr x /\ v = Value.str x t)
 | .inl i, v, h => by
  obtain ⟨t, e⟩ := Value.isInt_shape (k := i) (v := v) h
  exact .inl ⟨i, t, rfl, e⟩
 | .inr x, v, h => by
  obtain ⟨t, e⟩ := Value.isStrOf_shape (x := x) (v := v) h
  exact .inr ⟨x, t, rfl, e⟩
theorem keyIs_int (i : Int) (t : Tok) : keyIs (.inl i) (.int i t) = true := by simp [keyIs, Value.isInt]
theorem keyIs_str (x : Str) (t : Tok) : keyIs (.inr x) (.str x t) = true := by simp [keyIs, Value.isStrOf]
theorem key_ll (a b : Int) : decide ((Sum.inl a : Key) = Sum.inl b) = (a == b) := by
 by_cases e : a = b
 · subst e; simp
 · have h : ¬ (Sum.inl a : Key) = Sum.inl b := λ q => e (Sum.inl.inj q)
   rw [decide_eq_false h]
   exact (beq_eq_false_iff_ne.mpr e).symm
theorem key_rr (a b : Str) : decide ((Sum.inr a : Key) = Sum.inr b) = decide (a = b) := by
 by_cases e : a = b
 · subst e; simp
 · have h : ¬ (Sum.inr a : Key) = Sum.inr b := λ q => e (Sum.inr.inj q)
   rw [decide_eq_false h, decide_eq_false e]
theorem key_lr (a : Int) (b : Str) : decide ((Sum.inl a : Key) = Sum.inr b) = false := decide_eq_false (λ q => nomatch q)
theorem key_rl (a : Str) (b : Int) : decide ((Sum.inr a : Key) = Sum.inl b) = false := decide_eq_false (λ q => nomatch q)
noncomputable def mixKind (prog : Program) (w : World) : PySem.KeyKind prog w Key where
 is := keyIs
 hash := keyH w
 inj := λ v a b ha hb => by
  rcases keyIs_shape ha with ⟨i, t, rfl, rfl⟩ | ⟨x, t, rfl, rfl⟩
  · rcases keyIs_shape hb with ⟨j, u, rfl, e⟩ | ⟨y, u, rfl, e⟩
    · injection e with e1 _; rw [e1]
    · exact nomatch e
  · rcases keyIs_shape hb with ⟨j, u, rfl, e⟩ | ⟨y, u, rfl, e⟩
    · exact nomatch e
    · injection e with e1 _; rw [e1]
 byValue := λ k v h => by
  rcases keyIs_shape h with ⟨i, t, rfl, rfl⟩ | ⟨x, t, rfl, rfl⟩ <;> rfl
 pyHash := λ hv h => by
  rcases keyIs_shape hv with ⟨i, t, rfl, rfl⟩ | ⟨x, t, rfl, rfl⟩
  · exact wpAny_pyHash_int h
  · exact wpAny_pyHash_str h
 eqBool := λ hu hv h => by
  rcases keyIs_shape hu with ⟨i, t, rfl, rfl⟩ | ⟨x, t, rfl, rfl⟩
  · rcases keyIs_shape hv with ⟨j, u, rfl, rfl⟩ | ⟨y, u, rfl, rfl⟩
    · rw [key_ll] at h; exact wpAny_eqBool_int h
    · rw [key_lr] at h; exact SeqAt.EqAt.int_str i t y u _ _ _ _ h
  · rcases keyIs_shape hv with ⟨j, u, rfl, rfl⟩ | ⟨y, u, rfl, rfl⟩
    · rw [key_rl] at h; exact SeqAt.EqAt.str_int x t j u _ _ _ _ h
    · rw [key_rr] at h; exact wpAny_eqBool_str h
 «strs» := λ k x t v h => by
  rcases keyIs_shape h with ⟨i, u, rfl, e⟩ | ⟨y, u, rfl, e⟩
  · exact nomatch e
  · injection e with e1 _
    subst e1
    cases v <;> rfl
theorem mixKind_int (prog : Program) (w : World) (i : Int) (t : Tok) : (mixKind prog w).is (.inl i) (.int i t) = true := keyIs_int i t
theorem mixKind_str (prog : Program) (w : World) (x : Str) (t : Tok) : (mixKind prog w).is (.inr x) (.str x t) = true := keyIs_str x t
inductive V where
 | non | bl (b : Bool) | int (i : Int) | str (x : Str) | byt (b : Array UInt8) | flt (b : UInt64) | ref (a : Addr) | ty (n : String)
 deriving DecidableEq
noncomputable def RelV : V -> Value -> Prop
 | .non, u => u = Value.none
 | .bl b, u => u = Value.bool b
 | .int i, u => ∃ t, u = Value.int i t
 | .str x, u => ∃ t, u = Value.str x t
 | .byt b, u => ∃ t, u = Value.bytes b t
 | .flt b, u => ∃ t, u = Value.float b t
 | .ref a, u => u = Value.ref a
 | .ty n, u => u = Value.type n
abbrev Vals : List V -> List Value -> Prop := Paired RelV
theorem Vals.length {xs : List V} {us : List Value} (r : Vals xs us) : xs.length = us.length := Paired.length r
theorem Vals.get : ∀ {xs : List V} {us : List Value} {i : Nat} {x : V}, Vals xs us -> xs[i]? = some x -> ∃ u, us[i]? = some u /\ RelV x u
 | _, _, _, _, .nil, e => by simp at e
 | _, _, 0, _, .cons r _, e => by simp at e; subst e; exact ⟨_, rfl, r⟩
 | _, _, i + 1, x, .cons _ t, e => by
  obtain ⟨u, h1, h2⟩ := Vals.get (i := i) (x := x) t (by simpa using e)
  exact ⟨u, by simpa using h1, h2⟩
theorem Vals.append {xs ys : List V} {us ws : List Value} (h : Vals xs us) (s : Vals ys ws) : Vals (xs ++ ys) (us ++ ws) := by
 induction h with
 | nil => exact s
 | cons r t ih => exact .cons r ih
noncomputable def RelO : Option V -> Option Value -> Prop
 | some v, some u => RelV v u
 | none, none => True
 | _, _ => False
def KV {κ : Type} : List (κ × V) -> List (κ × Value) -> Prop := Paired λ (p : κ × V) (q : κ × Value) => p.1 = q.1 /\ RelV p.2 q.2
noncomputable def kV : Key -> V
 | .inl i => .int i
 | .inr x => .str x
inductive HO where
 | lst (xs : List V)
 | tup (xs : List V)
 | dK (kvs : List (Key × V)) | dT (kvs : List (List Key × V))
 | set (S : Int -> Bool) (n : Nat)
 | ins (C dx : Addr) (fs : List (Str × V))
 | own (x : Addr)
 | xd (fs : List (Str × V))
 | met (f x : Addr)
 | rng (lo hi : Int)
 | frz (o : Obj) (u : HO)
 | tbl (ps : Array Value)
 | ext (φ : Heap -> Prop)
noncomputable abbrev Hp := Addr -> Option HO
def upd (H : Hp) (a : Addr) (o : HO) : Hp := λ b => if b = a then some o else H b
theorem upd_same {H : Hp} {a : Addr} {o : HO} : upd H a o a = some o := by unfold upd; rw [if_pos rfl]
theorem upd_ne {H : Hp} {a b : Addr} {o : HO} (h : b ≠ a) : upd H a o b = H b := by unfold upd; rw [if_neg h]
theorem ne_of {H : Hp} {a b : Addr} {o u : HO} (h : H a = some o) (h' : H b = some u) (d : o ≠ u) : a ≠ b := by
 intro e; subst e; rw [h] at h'; exact d (zV h')
theorem ne_of_none {H : Hp} {a b : Addr} {o : HO} (h : H a = some o) (h' : H b = none) : a ≠ b := by
 intro e; subst e; rw [h] at h'; cases h'
section
variable (P : Program) (w : World)
noncomputable def ObjOk (H : Hp) (h : Heap) (a : Addr) : HO -> Prop
 | .lst xs => xs.length <= sizeLine /\ ∃ (its : List Value) (n : Nat), Vals xs its /\ h.get? a = some { cls := .type "list", data := .seq its.toArray n }
 | .tup xs => xs.length <= sizeLine /\ ∃ its : List Value, Vals xs its /\ IsTup h a its.toArray /\ ∃ ob, h.get? a = some ob /\ ob.dict = none
 | .dK kvs => kvs.length <= sizeLine /\ (a == sysModules) = false /\ ∃ vs, KV kvs vs /\ h.DictOf (mixKind P w) a vs
 | .dT kvs => kvs.length <= sizeLine /\ (a == sysModules) = false /\ ∃ xs : List (List Key × Addr × Value),
  Paired (λ (p : List Key × V) (q : List Key × Addr × Value) => p.1 = q.1 /\ H q.2.1 = some (.tup (p.1.map kV)) /\ RelV p.2 q.2.2) kvs xs /\
  ∃ o es ep, h.get? a = some o /\ o.ExactDict /\ o.data = .dict es ep /\ es.toList = xs.map (entryOfKey (tupleKind (mixKind P w))) /\ (xs.map (·.1)).Nodup /\ ep = xs.length
 | .set S n => h.SetOf (intKind P w) a S n
 | .ins C dx fs => H dx = some (.own a) /\ fs.length <= 1000 /\ dx ≠ a /\ h.get? a = some (PySem.W.instObj C dx) /\
  ∃ mA, h.Ns1 dx mA /\ (∀ f, RelO (fs.lookup f) (mA f)) /\ PySem.Within mA (fs.map (·.1))
 | .own _ => ∃ o, h.get? a = some o
 | .xd fs => ∃ mA, h.Ns1 a mA /\ ∀ f, RelO (fs.lookup f) (mA f)
 | .rng lo hi => ∃ t u v, h.get? a = some { cls := .type "range", data := .fields #[.int lo t, .int hi u, .int 1 v] }
 | .frz o u => h.get? a = some o /\ ObjOk H h a u
 | .tbl ps => h.get? a = some { cls := .none, data := .fields #[] } \/ ∃ (c' : Addr) (o : Obj) (u : HO) (l c : Value) (q : Str) (t t2 : Tok) (vs : Array Value), ps = #[l, c, .str q t] /\ h.get? a = some { cls := .none, data := .fields #[l, c, .ref c'] } /\ H c' = some (.frz o u) /\ o.data = .fields vs /\ vs[1]? = some (.str q t2)
 | .met f x => h.get? a = some (PySem.W.methodObj (.ref f) (.ref x))
 | .ext φ => φ h /\ (∃ o, h.get? a = some o) /\ ∀ h1 h2 : Heap, φ h1 -> (∀ o, h1.get? a = some o -> h2.get? a = some o) -> φ h2
def HOk (H : Hp) (h : Heap) : Prop := ∀ a o, H a = some o -> ObjOk P w H h a o
end
section
variable {P : Program} {w : World} {H H' : Hp} {h h' : Heap} {a : Addr} {o : HO}
theorem ObjOk.lt (x : ObjOk P w H h a o) : a < h.objs.size := by
 cases o with
 | lst xs => obtain ⟨_, _, _, _, e⟩ := x; exact hLs e
 | tup xs => obtain ⟨_, _, _, p, _⟩ := x; exact p.lt
 | dK kvs => obtain ⟨_, _, _, _, o, _, _, e, _⟩ := x; exact hLs e
 | dT kvs => obtain ⟨_, _, _, _, o, _, _, e, _⟩ := x; exact hLs e
 | set S n => obtain ⟨o, _, _, _, e, _⟩ := x; exact hLs e
 | ins C dx fs => obtain ⟨_, _, _, e, _⟩ := x; exact hLs e
 | own y => obtain ⟨_, e⟩ := x; exact hLs e
 | xd fs => obtain ⟨_, ⟨_, _, _, e, _⟩, _⟩ := x; exact hLs e
 | rng lo hi => obtain ⟨_, _, _, e⟩ := x; exact hLs e
 | frz ob u => obtain ⟨e, _⟩ := x; exact hLs e
 | tbl ps =>
  rcases x with e | ⟨c', o, u, l, c, q, t, t2, vs, _, e, _⟩
  · exact hLs e
  · exact hLs e
 | met f y => exact hLs (show h.get? a = some _ from x)
 | ext φ => obtain ⟨_, ⟨_, e⟩, _⟩ := x; exact hLs e
theorem Paired.mapP {α β : Type} {F G : α -> β -> Prop} {l₁ : List α} {l₂ : List β} (h : Paired F l₁ l₂) (f : ∀ a b, F a b -> G a b) : Paired G l₁ l₂ := by
 induction h with
 | nil => exact .nil
 | cons r t ih => exact .cons (f _ _ r) ih
theorem ObjOk.stay (x : ObjOk P w H h a o) (k : ∀ b u, (b = a \/ H b = some (.own a)) -> h.get? b = some u -> h'.get? b = some u)
 (ho : ∀ b, H b = some (.own a) -> H' b = some (.own a)) (ht : ∀ b xs, H b = some (.tup xs) -> H' b = some (.tup xs)) (hf : ∀ b o u, H b = some (.frz o u) -> H' b = some (.frz o u)) : ObjOk P w H' h' a o := by
 induction o with
 | lst xs => obtain ⟨z, its, n, r, e⟩ := x; exact ⟨z, its, n, r, k _ _ (.inl rfl) e⟩
 | tup xs => obtain ⟨z, its, r, ⟨ob, e, c⟩, o2, e2, c2⟩ := x; exact ⟨z, its, r, ⟨ob, k _ _ (.inl rfl) e, c⟩, o2, k _ _ (.inl rfl) e2, c2⟩
 | dK kvs => obtain ⟨z, y, vs, r, ob, es, ep, e, c⟩ := x; exact ⟨z, y, vs, r, ob, es, ep, k _ _ (.inl rfl) e, c⟩
 | dT kvs =>
  obtain ⟨z, y, xs, r, ob, es, ep, e, c⟩ := x
  exact ⟨z, y, xs, Paired.mapP r λ p q z => ⟨z.1, ht _ _ z.2.1, z.2.2⟩, ob, es, ep, k _ _ (.inl rfl) e, c⟩
 | set S n => obtain ⟨ob, es, ep, t, e, c⟩ := x; exact ⟨ob, es, ep, t, k _ _ (.inl rfl) e, c⟩
 | ins C dx fs =>
  obtain ⟨d, z, ne, e, mA, ⟨od, es, ep, e2, c⟩, r⟩ := x
  exact ⟨ho _ d, z, ne, k _ _ (.inl rfl) e, mA, ⟨od, es, ep, k _ _ (.inr d) e2, c⟩, r⟩
 | own y => obtain ⟨ob, e⟩ := x; exact ⟨ob, k _ _ (.inl rfl) e⟩
 | xd fs => obtain ⟨mA, ⟨od, es, ep, e, c⟩, r⟩ := x; exact ⟨mA, ⟨od, es, ep, k _ _ (.inl rfl) e, c⟩, r⟩
 | rng lo hi => obtain ⟨t, u, v, e⟩ := x; exact ⟨t, u, v, k _ _ (.inl rfl) e⟩
 | frz ob u ih => obtain ⟨e, q⟩ := x; exact ⟨k _ _ (.inl rfl) e, ih q⟩
 | tbl ps =>
  rcases x with e | ⟨c', o, u, l, c, q, t, t2, vs, e1, e2, e3, r⟩
  · exact Or.inl (k _ _ (.inl rfl) e)
  · exact Or.inr ⟨c', o, u, l, c, q, t, t2, vs, e1, k _ _ (.inl rfl) e2, hf _ _ _ e3, r⟩
 | met f y =>
  have e : h.get? a = some (PySem.W.methodObj (.ref f) (.ref y)) := x
  show h'.get? a = some (PySem.W.methodObj (.ref f) (.ref y))
  exact k a _ (.inl rfl) e
 | ext φ => obtain ⟨p, ⟨o, e⟩, st⟩ := x; exact ⟨st _ _ p λ o q => k _ _ (.inl rfl) q, ⟨o, k _ _ (.inl rfl) e⟩, st⟩
theorem HOk.lt (x : HOk P w H h) (e : H a = some o) : a < h.objs.size := (x a o e).lt
theorem HOk.fresh (x : HOk P w H h) (e : h.objs.size <= a) : H a = none := by
 cases q : H a with
 | none => rfl
 | some u => exact absurd (nLl (x.lt q) e) (zT _)
theorem HOk.kept (x : HOk P w H h) (k : ∀ b u, h.get? b = some u -> h'.get? b = some u) : HOk P w H h' := λ a o e =>
 (x a o e).stay (λ b u _ q => k b u q) (λ _ q => q) (λ _ _ q => q) λ _ _ _ q => q
theorem HOk.laid (x : HOk P w H h) (k : ∀ b u, h.get? b = some u -> h'.get? b = some u) (hp : h.objs.size <= a) (new : ObjOk P w (upd H a o) h' a o) : HOk P w (upd H a o) h' := λ b u e => by
 have hn := x.fresh hp
 by_cases hb : b = a
 · subst hb; rw [upd_same] at e; cases e; exact new
 · rw [upd_ne hb] at e
   exact (x b u e).stay (λ c v _ q => k c v q) (λ c q => by rw [upd_ne (ne_of_none q hn)]; exact q) (λ c xs q => by rw [upd_ne (ne_of_none q hn)]; exact q) λ c ob xs q => by rw [upd_ne (ne_of_none q hn)]; exact q
end
def Rd (H : Hp) (a : Addr) (u : HO) : Prop := H a = some u \/ ∃ o, H a = some (.frz o u)
theorem Rd.ok {P : Program} {w : World} {H : Hp} {h : Heap} {a : Addr} {u : HO} (r : Rd H a u) (x : HOk P w H h) : ObjOk P w H h a u := by
 rcases r with r | ⟨o, r⟩
 · exact x a u r
 · obtain ⟨_, q⟩ := x a _ r
   exact q
noncomputable def Mut : Option HO -> Prop
 | some (.lst _) => True
 | some (.dK _) => True
 | some (.dT _) => True
 | some (.set _ _) => True
 | some (.ins _ _ _) => True
 | some (.ext _) => True
 | _ => False
section
variable {P : Program} {w : World} {H : Hp} {h h' : Heap} {x e : Addr} {o' : HO}
theorem HOk.write (ok : HOk P w H h) (mu : Mut (H x)) (he : e = x \/ H e = some (.own x)) (k : ∀ b u, b ≠ e -> h.get? b = some u -> h'.get? b = some u) (heo : ∃ u, h'.get? e = some u)
 (new : ObjOk P w (upd H x o') h' x o') : HOk P w (upd H x o') h' := λ b u q => by
 have nown : ∀ c y, H c = some (.own y) -> c ≠ x := λ c y r z => by subst z; rw [r] at mu; exact mu
 have ntup : ∀ c xs, H c = some (.tup xs) -> c ≠ x := λ c xs r z => by subst z; rw [r] at mu; exact mu
 have nfrz : ∀ c ob xs, H c = some (.frz ob xs) -> c ≠ x := λ c ob xs r z => by subst z; rw [r] at mu; exact mu
 by_cases hb : b = x
 · subst hb; rw [upd_same] at q; cases q; exact new
 · rw [upd_ne hb] at q
   by_cases hbe : b = e
   · have q' : H b = some (.own x) := by
      rcases he with z | z
      · exact absurd (hbe.trans z) hb
      · rw [hbe]; exact z
     rw [q] at q'; cases q'
     obtain ⟨v, hv⟩ := heo
     exact ⟨v, by rw [hbe]; exact hv⟩
   · refine (ok b u q).stay (λ c v hc r => k c v ?_ r) (λ c r => by rw [upd_ne (nown c b r)]; exact r) (λ c xs r => by rw [upd_ne (ntup c xs r)]; exact r) λ c ob xs r => by rw [upd_ne (nfrz c ob xs r)]; exact r
     rcases hc with rfl | hc
     · exact hbe
     · rintro rfl
       rcases he with z | z
       · exact nown c b hc z
       · rw [hc] at z; cases z; exact hb rfl
end
structure Un (fs ex : List Addr) (H H' : Hp) (h h' : Heap) : Prop where
 keep : ∀ b o, h.get? b = some o -> H b = none -> b ∉ fs -> b ∉ ex -> h'.get? b = some o
 slot : ∀ b o, h.get? b = some o -> H b = none -> b ∈ fs -> b ∉ ex -> ∃ sl, h'.get? b = some { o with slots := sl }
 free : ∀ b o, h.get? b = some o -> H b = none -> b ∉ ex -> H' b = none
 there : ∀ b o, h.get? b = some o -> b ∉ ex -> ∃ o', h'.get? b = some o'
 tups : ∀ b xs, H b = some (.tup xs) -> H' b = some (.tup xs)
 frzs : ∀ b o u, H b = some (.frz o u) -> H' b = some (.frz o u)
 tbls : ∀ b ps, H b = some (.tbl ps) -> ∃ more, H' b = some (.tbl (ps ++ more))
section
variable {fs fs' ex ex' : List Addr} {H H1 H2 : Hp} {h h1 h2 h' : Heap} {a x e : Addr} {o : HO}
theorem Un.any (u : Un fs ex H H1 h h1) {b : Addr} {ob : Obj} (q : h.get? b = some ob) (n : H b = none) (hx : b ∉ ex) : ∃ sl, h1.get? b = some { ob with slots := sl } := by
 by_cases hb : b ∈ fs
 · exact u.slot b ob q n hb hx
 · exact ⟨ob.slots, u.keep b ob q n hb hx⟩
theorem Un.kept (k : ∀ b u, h.get? b = some u -> h'.get? b = some u) : Un fs ex H H h h' :=
 ⟨λ b ob q _ _ _ => k b ob q, λ b ob q _ _ _ => ⟨ob.slots, k b ob q⟩, λ _ _ _ n _ => n, λ b ob q _ => ⟨ob, k b ob q⟩, λ _ _ q => q, λ _ _ _ q => q, λ _ ps q => ⟨#[], by rw [q]; simp⟩⟩
theorem Un.refl : Un fs ex H H h h := Un.kept λ _ _ q => q
theorem Un.laid (k : ∀ b u, h.get? b = some u -> h'.get? b = some u) (hp : h.objs.size <= a) (hn : H a = none) : Un fs ex H (upd H a o) h h' where
 keep := λ b u q _ _ _ => k b u q
 slot := λ b u q _ _ _ => ⟨u.slots, k b u q⟩
 free := λ b u q n _ => by rw [upd_ne (nNl (nLl (hLs q) hp))]; exact n
 there := λ b u q _ => ⟨u, k b u q⟩
 tups := λ b xs q => by rw [upd_ne (ne_of_none q hn)]; exact q
 frzs := λ b u xs q => by rw [upd_ne (ne_of_none q hn)]; exact q
 tbls := λ b ps q => ⟨#[], by rw [upd_ne (ne_of_none q hn), q]; simp⟩
theorem Un.write (mu : Mut (H x)) (he : e = x \/ H e = some (.own x)) (k : ∀ b u, b ≠ e -> h.get? b = some u -> h'.get? b = some u) (heo : ∃ u, h'.get? e = some u) : Un fs ex H (upd H x o) h h' := by
 have hx : ∀ b, H b = none -> b ≠ x := λ b n z => by subst z; rw [n] at mu; exact mu
 have hb : ∀ b, H b = none -> b ≠ e := λ b n z => by
  subst z
  rcases he with r | r
  · exact hx b n r
  · rw [n] at r; cases r
 have hm : ∀ b u, H b = some u -> ¬ Mut (some u) -> b ≠ x := λ b u q nm z => by subst z; rw [q] at mu; exact nm mu
 refine ⟨λ b u q n _ _ => k b u (hb b n) q, λ b u q n _ _ => ⟨u.slots, k b u (hb b n) q⟩, λ b u q n _ => by rw [upd_ne (hx b n)]; exact n, λ b u q _ => ?_,
  λ b xs q => by rw [upd_ne (hm b _ q λ z => z)]; exact q, λ b u xs q => by rw [upd_ne (hm b _ q λ z => z)]; exact q, λ b ps q => ⟨#[], by rw [upd_ne (hm b _ q λ z => z), q]; simp⟩⟩
 by_cases hbe : b = e
 · subst hbe; exact heo
 · exact ⟨u, k b u hbe q⟩
end
noncomputable def trk (h : Heap) (H : Hp) : List Addr := (List.range h.objs.size).filter λ a => (H a).isSome
noncomputable def hidT (h : Heap) (H : Hp) : Heap := PySem.W.hideAll h (trk h H)
theorem hidT_size (h : Heap) (H : Hp) : (hidT h H).objs.size = h.objs.size := PySem.W.hideAll_size _ _
theorem hidT_get {h : Heap} {H : Hp} {b : Addr} {o : Obj} (e : h.get? b = some o) (n : H b = none) : (hidT h H).get? b = some o :=
 PySem.W.hideAll_get _ e λ hm => by
  have q : (H b).isSome = true := (List.mem_filter.mp hm).2
  rw [n] at q; simp at q
theorem of_hidT {h : Heap} {H : Hp} {b : Addr} {o : Obj} (e : (hidT h H).get? b = some o) : h.get? b = some o /\ H b = none := by
 have e' : h.get? b = some o := PySem.W.of_hideAll (trk h H) e
 refine ⟨e', ?_⟩
 cases q : H b with
 | none => rfl
 | some x =>
  have hm : b ∈ trk h H := List.mem_filter.mpr ⟨List.mem_range.mpr (hLs e'), by simp [q]⟩
  have z : (hidT h H).get? b = none := PySem.W.hideAll_none (trk h H) hm
  rw [z] at e; cases e
noncomputable def allNews (g h : Heap) (L : Addr) : List (Addr × Obj) := (List.range h.objs.size).filterMap λ a => if a = L \/ (g.get? a).isSome = true then none else (h.get? a).map λ o => (a, o)
noncomputable def rest (g h : Heap) (L d : Addr) : List (Addr × Obj) := (allNews g h L).filter λ p => decide (p.1 ≠ d)
structure Mod (K : Fg) (mg : Str -> Option Value) (base : Heap) : Prop where
 kin : K.In base
 glob : base.Ns mainGlobals mg
 blt : ∃ mb, base.Ns builtinsNs mb /\ ∀ x : Str, x ≠ "__name__" -> mb x = bootBuiltins x
 nolimit : base.NoLimit
structure Cx where
 prog : Program
 w : World
 K : Fg
 mg : Str -> Option Value
 base : Heap
 A : Around
 N : List Str
 s₀ : Shared
 H₀ : Hp
 env : Env
 outer : List Env
 stack : List Env
 ex : List Addr
 fn : Str -> Bool
 calm : Bool
 pn : List (Addr × Obj)
 xe : Value -> Shared -> Prop
noncomputable def frs (l : List Env) : List Addr := l.filterMap (·.frame)
noncomputable abbrev Cx.fs (X : Cx) : List Addr := frs X.outer
def Vis (sc : Scope) (x : Str) : Prop := sc.names.lookup x = some .local \/ sc.names.lookup x = some .cell \/ sc.names.lookup x = some .free
def Loc (sc : Scope) (x : Str) : Prop := sc.names.lookup x = some .local \/ sc.names.lookup x = some .cell
def Look (env : Env) (h : Heap) (m : Str -> Option Value) (x : Str) (u : Value) : Prop :=
 (env.kindOf x = some .local /\ m x = some u) \/ ((env.kindOf x = some .cell \/ env.kindOf x = some .free) /\ ∃ c, env.cells.lookup x = some c /\ h.IsCell c (some u))
structure Cx.Ok (X : Cx) : Prop where
 mod : Mod X.K X.mg X.base
 kind : X.env.scope.kind = .function
 glob : X.env.globals = mainGlobals
 blt : X.env.builtins = builtinsNs
 above : X.s₀.heap.objs.size <= X.env.locals
 inj : ∀ x y c, X.env.cells.lookup x = some c -> X.env.cells.lookup y = some c -> x = y
 has : ∀ x, (X.env.kindOf x = some .cell \/ X.env.kindOf x = some .free) -> ∃ c, X.env.cells.lookup x = some c
 cab : ∀ x c, X.fn x = true -> X.env.cells.lookup x = some c -> X.s₀.heap.objs.size <= c
 hd : X.calm = true -> X.A.handled = none
 frames : X.A.frames = some X.stack
 stk : X.stack = X.outer \/ (X.stack = X.env :: X.outer /\ X.env.frame = some X.env.locals)
 exf : ∀ b ∈ X.ex, b ≠ X.env.locals /\ ∀ x c, X.env.cells.lookup x = some c -> c ≠ b
 bs : ∀ b o, X.base.get? b = some o -> X.s₀.heap.get? b = some o /\ X.H₀ b = none
 bsz : X.base.objs.size <= X.s₀.heap.objs.size
 noex : ∀ b o, X.base.get? b = some o -> b ∉ X.ex
 exfs : ∀ b ∈ X.ex, b ∉ X.fs
 funs : X.s₀.heap.FunFrames X.base X.outer
 frf : ∀ b ∈ X.fs, X.H₀ b = none
structure Inv (X : Cx) (pins : List (Addr × Obj)) (σ : List (Option V)) (H : Hp) (s : Shared) : Prop where
 ok : X.Ok
 os : s.os = X.s₀.os
 bare : AllBare s.gens
 base : Un X.fs X.ex X.H₀ H X.s₀.heap s.heap
 loc : ∃ m, s.heap.Ns X.env.locals m /\ ∀ (i : Nat) (x : Str) (v : V), X.N[i]? = some x -> σ[i]? = some (some v) -> Vis X.env.scope x -> ∃ u, RelV v u /\ Look X.env s.heap m x u
 cell : ∀ x c, X.env.cells.lookup x = some c -> ∃ v, s.heap.IsCell c v
 free : H X.env.locals = none
 freeC : ∀ x c, X.env.cells.lookup x = some c -> H c = none
 pin : ∀ p ∈ X.pn ++ pins, s.heap.get? p.1 = some p.2 /\ H p.1 = none /\ p.1 ≠ X.env.locals /\ p.1 ∉ X.fs /\ ∀ v, p.2.data ≠ .cell v
 hok : HOk X.prog X.w H s.heap
 len : σ.length = X.N.length
section
variable {X : Cx} {pins : List (Addr × Obj)} {σ : List (Option V)} {H H' : Hp} {s : Shared} {h' : Heap}
theorem Cx.Ok.nofr (ok : X.Ok) {b : Addr} {o : Obj} (e : X.base.get? b = some o) : b ∉ X.fs := λ hb => by
 have := (ok.funs.mem hb).1
 rw [e] at this; cases this
theorem Inv.bs (I : Inv X pins σ H s) : ∀ b o, X.base.get? b = some o -> s.heap.get? b = some o /\ H b = none := λ b o e =>
 ⟨I.base.keep b o (I.ok.bs b o e).1 (I.ok.bs b o e).2 (I.ok.nofr e) (I.ok.noex b o e), I.base.free b o (I.ok.bs b o e).1 (I.ok.bs b o e).2 (I.ok.noex b o e)⟩
theorem Inv.bk (I : Inv X pins σ H s) : ∀ b o, X.base.get? b = some o -> s.heap.get? b = some o := λ b o e => (I.bs b o e).1
theorem Inv.mod (I : Inv X pins σ H s) : Mod X.K X.mg X.base := I.ok.mod
theorem Inv.kIn (I : Inv X pins σ H s) : X.K.In s.heap := I.ok.mod.kin.keeps I.bk
theorem Inv.nolimit (I : Inv X pins σ H s) : s.heap.NoLimit := I.ok.mod.nolimit.keeps I.bk
theorem Inv.lt (I : Inv X pins σ H s) : X.env.locals < s.heap.objs.size := let ⟨_, hn, _⟩ := I.loc; hn.lt
theorem Inv.sz (I : Inv X pins σ H s) : X.s₀.heap.objs.size <= s.heap.objs.size := Qb I.ok.above (nLe I.lt)
theorem Inv.nofs (I : Inv X pins σ H s) {a : Addr} (h : s.heap.objs.size <= a) : a ∉ X.fs := λ hb => by
 obtain ⟨_, o, ho, _⟩ := I.ok.funs.mem hb
 exact absurd (nLl (hLs ho) (Qb I.sz h)) (zT _)
theorem Inv.cne (I : Inv X pins σ H s) : ∀ x c, X.env.cells.lookup x = some c -> c ≠ X.env.locals := λ x c e z => by
 obtain ⟨v, o, ho, hd⟩ := I.cell x c e
 obtain ⟨m, ⟨o', es, ep, ho', hd', _⟩, _⟩ := I.loc
 rw [z, ho'] at ho; cases ho; rw [hd'] at hd; cases hd
theorem Inv.funs (I : Inv X pins σ H s) : s.heap.FunFrames X.base X.outer := by
 have all : ∀ (l : List Env), (∀ b ∈ frs l, b ∈ X.fs) -> X.s₀.heap.FunFrames X.base l -> s.heap.FunFrames X.base l := by
  intro l
  induction l with
  | nil => intro _ _; trivial
  | cons env r ih =>
   intro hs hl
   obtain ⟨hk, ⟨L, o, hf, hn, ho, hd⟩, hr⟩ := hl
   have hL : L ∈ X.fs := hs L (by unfold frs; rw [List.filterMap_cons, hf]; exact lMs)
   obtain ⟨sl, e⟩ := I.base.slot L o ho (I.ok.frf L hL) hL λ z => I.ok.exfs L z hL
   exact ⟨hk, ⟨L, _, hf, hn, e, hd⟩, ih (λ b hb => hs b (by unfold frs; rw [List.filterMap_cons, hf]; exact lMc _ hb)) hr⟩
 exact all X.outer (λ _ hb => hb) I.ok.funs
theorem Inv.stack (I : Inv X pins σ H s) : s.heap.FunFrames X.base X.stack := by
 rcases I.ok.stk with e | ⟨e, hf⟩
 · rw [e]; exact I.funs
 · rw [e]
   obtain ⟨m, hn, _⟩ := I.loc
   refine .cons (by rw [I.ok.kind]; decide) hf hn ?_ I.funs
   exact Heap.get?_none_of_le (Qb I.ok.bsz I.ok.above)
theorem Inv.stkSub (I : Inv X pins σ H s) : ∀ b ∈ frs X.stack, b ∈ X.env.locals :: X.fs := λ b hb => by
 rcases I.ok.stk with e | ⟨e, hf⟩
 · rw [e] at hb; exact lMc _ hb
 · rw [e] at hb
   unfold frs at hb
   rw [List.filterMap_cons, hf] at hb
   exact hb
theorem Inv.stkFree (I : Inv X pins σ H s) : ∀ b ∈ frs X.stack, H b = none := λ b hb => by
 rcases Q2.mp (I.stkSub b hb) with e | hb
 · rw [e]; exact I.free
 · obtain ⟨_, o, ho, _⟩ := I.ok.funs.mem hb
   exact I.base.free b o ho (I.ok.frf b hb) λ z => I.ok.exfs b z hb
theorem Inv.step {g' : Array GenState} {t' : Nat} {d' : Drawn} {ch : List Addr} (I : Inv X pins σ H s)
 (hch : ∀ b ∈ ch, (b ∈ X.ex \/ X.s₀.heap.objs.size <= b) /\ b ≠ X.env.locals /\ (∀ x c, X.env.cells.lookup x = some c -> c ≠ b) /\ ∀ p ∈ X.pn ++ pins, p.1 ≠ b)
 (keep : ∀ b o, b ≠ X.env.locals -> b ∉ X.fs -> b ∉ ch -> s.heap.get? b = some o -> H b = none -> h'.get? b = some o)
 (slot : ∀ b o, b ≠ X.env.locals -> b ∈ X.fs -> b ∉ ch -> s.heap.get? b = some o -> H b = none -> ∃ sl, h'.get? b = some { o with slots := sl }) (free : ∀ b o, b ∉ ch -> s.heap.get? b = some o -> H b = none -> H' b = none)
 (there : ∀ b o, b ∉ ch -> s.heap.get? b = some o -> ∃ o', h'.get? b = some o')
 (tups : ∀ b xs, H b = some (.tup xs) -> H' b = some (.tup xs)) (frzs : ∀ b o u, H b = some (.frz o u) -> H' b = some (.frz o u)) (tbls : ∀ b ps, H b = some (.tbl ps) -> ∃ more, H' b = some (.tbl (ps ++ more)))
 (ns : ∀ m, s.heap.Ns X.env.locals m -> h'.Ns X.env.locals m) (hok : HOk X.prog X.w H' h') (hg : AllBare g') :
 Inv X pins σ H' { s with heap := h', gens := g', drawn := d', toks := t' } := by
 have neL : ∀ b o, X.s₀.heap.get? b = some o -> b ≠ X.env.locals := λ b o e => nNl (nLl (hLs e) I.ok.above)
 have neC : ∀ b o, X.s₀.heap.get? b = some o -> b ∉ X.ex -> b ∉ ch := λ b o e hx hb => by
  rcases (hch b hb).1 with z | z
  · exact hx z
  · exact absurd (nLl (hLs e) z) (zT _)
 have cellK : ∀ x c, X.env.cells.lookup x = some c -> ∀ v, s.heap.IsCell c v -> h'.IsCell c v := λ x c e v ⟨o, ho, hd⟩ => by
  have nch : c ∉ ch := λ z => (hch c z).2.2.1 x c e rfl
  by_cases hc : c ∈ X.fs
  · obtain ⟨sl, q⟩ := slot c o (I.cne x c e) hc nch ho (I.freeC x c e)
    exact ⟨_, q, hd⟩
  · exact ⟨o, keep c o (I.cne x c e) hc nch ho (I.freeC x c e), hd⟩
 refine ⟨I.ok, I.os, hg, ⟨λ b o e n hb hx => ?_, λ b o e n hb hx => ?_, λ b o e n hx => ?_, λ b o e hx => ?_, λ b xs e => tups b xs (I.base.tups b xs e), λ b o xs e => frzs b o xs (I.base.frzs b o xs e), λ b ps e => ?_⟩, ?_, λ x c e => ?_, ?_, λ x c e => ?_, λ p hp => ?_, hok, I.len⟩
 · exact keep b o (neL b o e) hb (neC b o e hx) (I.base.keep b o e n hb hx) (I.base.free b o e n hx)
 · obtain ⟨sl, e1⟩ := I.base.slot b o e n hb hx
   obtain ⟨sl', e2⟩ := slot b _ (neL b o e) hb (neC b o e hx) e1 (I.base.free b o e n hx)
   exact ⟨sl', e2⟩
 · obtain ⟨o', e1⟩ := I.base.there b o e hx
   exact free b o' (neC b o e hx) e1 (I.base.free b o e n hx)
 · obtain ⟨o', e1⟩ := I.base.there b o e hx
   exact there b o' (neC b o e hx) e1
 · obtain ⟨m1, e1⟩ := I.base.tbls b ps e
   obtain ⟨m2, e2⟩ := tbls b _ e1
   exact ⟨m1 ++ m2, by rw [e2, Array.append_assoc]⟩
 · obtain ⟨m, hn, hl⟩ := I.loc
   refine ⟨m, ns m hn, λ i x v e1 e2 e3 => ?_⟩
   obtain ⟨u, r, l⟩ := hl i x v e1 e2 e3
   refine ⟨u, r, ?_⟩
   rcases l with l | ⟨k, c, e, z⟩
   · exact .inl l
   · exact .inr ⟨k, c, e, cellK x c e _ z⟩
 · obtain ⟨v, z⟩ := I.cell x c e
   exact ⟨v, cellK x c e v z⟩
 · obtain ⟨m, ⟨o, _, _, ho, _⟩, _⟩ := I.loc
   exact free _ o (λ z => (hch _ z).2.1 rfl) ho I.free
 · obtain ⟨v, o, ho, hd⟩ := I.cell x c e
   exact free c o (λ z => (hch c z).2.2.1 x c e rfl) ho (I.freeC x c e)
 · obtain ⟨e, n, ne, nf, d⟩ := I.pin p hp
   have nch : p.1 ∉ ch := λ z => (hch p.1 z).2.2.2 p hp rfl
   exact ⟨keep p.1 p.2 ne nf nch e n, free p.1 p.2 nch e n, ne, nf, d⟩
theorem Inv.un {t' : Nat} (I : Inv X pins σ H s) (u : Un X.fs [] H H' s.heap h') (hok : HOk X.prog X.w H' h') : Inv X pins σ H' { s with heap := h', toks := t' } := by
 obtain ⟨m, ⟨o, es, ep, ho, r⟩, _⟩ := id I.loc
 obtain ⟨sl, hL⟩ := u.any ho I.free (by simp)
 exact I.step (g' := s.gens) (d' := s.drawn) (ch := []) (λ _ z => nomatch z) (λ b o _ hb _ e n => u.keep b o e n hb (by simp)) (λ b o _ hb _ e n => u.slot b o e n hb (by simp)) (λ b o _ e n => u.free b o e n (by simp)) (λ b o _ e => u.there b o e (by simp)) u.tups u.frzs u.tbls (λ m' hm => by
  obtain ⟨o', es', ep', ho', r'⟩ := hm
  rw [ho] at ho'; cases ho'
  exact ⟨_, es', ep', hL, r'⟩) hok I.bare
theorem Inv.call {g' : Array GenState} {t' : Nat} {d' : Drawn} {ch : List Addr} (I : Inv X pins σ H s) (u : Un (frs X.stack) ch H H' s.heap h') (hok : HOk X.prog X.w H' h') (hg : AllBare g')
 (hch : ∀ b ∈ ch, (b ∈ X.ex \/ X.s₀.heap.objs.size <= b) /\ b ≠ X.env.locals /\ (∀ x c, X.env.cells.lookup x = some c -> c ≠ b) /\ ∀ p ∈ X.pn ++ pins, p.1 ≠ b) :
 Inv X pins σ H' { s with heap := h', gens := g', drawn := d', toks := t' } := by
 obtain ⟨m, ⟨o, es, ep, ho, r⟩, _⟩ := id I.loc
 obtain ⟨sl, hL⟩ := u.any ho I.free λ z => (hch _ z).2.1 rfl
 exact I.step (ch := ch) hch (λ b o hL hb hc e n => u.keep b o e n (λ z => (Q2.mp (I.stkSub b z)).elim hL hb) hc) (λ b o _ _ hc e n => u.any e n hc) (λ b o hc e n => u.free b o e n hc) (λ b o hc e => u.there b o e hc) u.tups u.frzs u.tbls (λ m' hm => by
  obtain ⟨o', es', ep', ho', r'⟩ := hm
  rw [ho] at ho'; cases ho'
  exact ⟨_, es', ep', hL, r'⟩) hok hg
theorem Inv.turned {t' : Nat} {it : Addr} (I : Inv X pins σ H s) (k : ∀ b o, b ≠ it -> s.heap.get? b = some o -> h'.get? b = some o) (hn : H it = none) (hL : it ≠ X.env.locals)
 (h1 : it ∈ X.ex \/ X.s₀.heap.objs.size <= it) (h2 : ∀ x c, X.env.cells.lookup x = some c -> c ≠ it) (h3 : ∀ p ∈ X.pn ++ pins, p.1 ≠ it) : Inv X pins σ H { s with heap := h', toks := t' } := by
 have nit : ∀ b u, H b = some u -> b ≠ it := λ b u e z => by rw [z, hn] at e; cases e
 refine I.step (g' := s.gens) (d' := s.drawn) (ch := [it]) (λ b hb => ?_) (λ b o _ _ hc e _ => k b o (λ z => hc (by simp [z])) e) (λ b o _ _ hc e _ => ⟨o.slots, k b o (λ z => hc (by simp [z])) e⟩) (λ _ _ _ _ n => n)
  (λ b o hc e => ⟨o, k b o (λ z => hc (by simp [z])) e⟩) (λ _ _ e => e) (λ _ _ _ e => e) (λ b ps e => ⟨#[], by rw [e]; simp⟩) (λ m hm => ?_) (λ b u e => ?_) I.bare
 · have e : b = it := by simpa using hb
   subst e
   exact ⟨h1, hL, h2, h3⟩
 · obtain ⟨o, es, ep, ho, r⟩ := hm
   exact ⟨o, es, ep, k _ o (Ne.symm hL) ho, r⟩
 · refine (I.hok b u e).stay (λ c v hc q => k c v ?_ q) (λ _ q => q) (λ _ _ q => q) λ _ _ _ q => q
   rcases hc with z | z
   · rw [z]; exact nit b u e
   · exact nit c _ z
theorem Inv.tok (I : Inv X pins σ H s) (t : Nat) : Inv X pins σ H { s with toks := t } := I.un (h' := s.heap) (t' := t) Un.refl I.hok
theorem Inv.kept {t' : Nat} (I : Inv X pins σ H s) (k : ∀ b u, s.heap.get? b = some u -> h'.get? b = some u) : Inv X pins σ H { s with heap := h', toks := t' } := I.un (Un.kept k) (I.hok.kept k)
theorem Inv.laid {a : Addr} {o : HO} {t' : Nat} (I : Inv X pins σ H s) (k : ∀ b u, s.heap.get? b = some u -> h'.get? b = some u) (hp : s.heap.objs.size <= a) (new : ObjOk X.prog X.w (upd H a o) h' a o) :
 Inv X pins σ (upd H a o) { s with heap := h', toks := t' } := I.un (Un.laid k hp (I.hok.fresh hp)) (I.hok.laid k hp new)
theorem Inv.write {x e : Addr} {o : HO} {t' : Nat} (I : Inv X pins σ H s) (mu : Mut (H x)) (he : e = x \/ H e = some (.own x)) (k : ∀ b u, b ≠ e -> s.heap.get? b = some u -> h'.get? b = some u) (heo : ∃ u, h'.get? e = some u)
 (new : ObjOk X.prog X.w (upd H x o) h' x o) : Inv X pins σ (upd H x o) { s with heap := h', toks := t' } := I.un (Un.write mu he k heo) (I.hok.write mu he k heo new)
theorem Inv.pins_of {pins' : List (Addr × Obj)} (I : Inv X pins σ H s) (h : ∀ p ∈ pins', s.heap.get? p.1 = some p.2 /\ H p.1 = none /\ p.1 ≠ X.env.locals /\ p.1 ∉ X.fs /\ ∀ v, p.2.data ≠ .cell v) : Inv X pins' σ H s :=
 ⟨I.ok, I.os, I.bare, I.base, I.loc, I.cell, I.free, I.freeC, λ p hp => (Q25.mp hp).elim (λ z => I.pin p (List.mem_append_left _ z)) (h p), I.hok, I.len⟩
theorem nodup_ix {N : List Str} (hN : N.Nodup) {i j : Nat} {x : Str} (a : N[i]? = some x) (b : N[j]? = some x) : i = j := by
 obtain ⟨h1, e1⟩ := Q10.mp a
 obtain ⟨h2, e2⟩ := Q10.mp b
 exact (List.getElem_inj hN).mp (e1.trans e2.symm)
theorem store_ok2 {M : Model} {A : Around} {E : Value -> Shared -> Prop} {i : Nat} {x : Str} {v : V} {u : Value} {Q : Unit -> Shared -> Prop} (I : Inv X pins σ H s) (hN : X.N.Nodup) (hi : X.N[i]? = some x) (hx : Loc X.env.scope x) (r : RelV v u)
 (h : ∀ s', Inv X pins (σ.set i (some v)) H s' -> (∃ a, Heap.SameBut a s.heap s'.heap /\ (a = X.env.locals \/ X.env.cells.lookup x = some a)) -> Q () s') (hf : X.fn x = true \/ X.env.scope.names.lookup x = some .local := by first | exact .inl rfl | exact .inr rfl | assumption) : wpAny M A (storeName X.env x u) Q E s := by
 obtain ⟨m, hn, hl⟩ := id I.loc
 have hcls : (X.env.scope.kind == .class || (X.env.scope.kind == .module && X.env.locals != X.env.globals)) = false := by rw [I.ok.kind]; rfl
 have hiσ : i < σ.length := by rw [I.len]; exact (Q10.mp hi).1
 have cne := I.cne
 have tracked : ∀ {a : Addr} {h' : Heap}, (∃ o, s.heap.get? a = some o /\ H a = none) -> Heap.SameBut a s.heap h' -> HOk X.prog X.w H h' := λ {a h'} ha hs b ob e => by
  obtain ⟨_, _, hfree⟩ := ha
  refine (I.hok b ob e).stay (λ c w' hc q => (hs.2 c ?_).trans q) (λ _ q => q) (λ _ _ q => q) λ _ _ _ q => q
  rintro rfl
  rcases hc with rfl | hc
  · rw [hfree] at e; cases e
  · rw [hfree] at hc; cases hc
 rcases hx with hk | hk
 · refine wpAny_storeName_local hk hn (λ h' hn' hs => ?_) hcls
   obtain ⟨oL, _, _, hoL, _⟩ := id hn
   refine h _ ⟨I.ok, I.os, I.bare, ⟨λ b o e n hb hx => ?_, λ b o e n hb hx => ?_, I.base.free, λ b o e hx => ?_, I.base.tups, I.base.frzs, I.base.tbls⟩, ⟨_, hn', λ j y v' e1 e2 e3 => ?_⟩, λ y c e => ?_, I.free, I.freeC, λ p hp => ?_, tracked ⟨oL, hoL, I.free⟩ hs, by simpa using I.len⟩ ⟨_, hs, .inl rfl⟩
   · exact (hs.2 b (nNl (nLl (hLs e) I.ok.above))).trans (I.base.keep b o e n hb hx)
   · obtain ⟨sl, e1⟩ := I.base.slot b o e n hb hx
     exact ⟨sl, (hs.2 b (nNl (nLl (hLs e) I.ok.above))).trans e1⟩
   · obtain ⟨o', e1⟩ := I.base.there b o e hx
     exact ⟨o', (hs.2 b (nNl (nLl (hLs e) I.ok.above))).trans e1⟩
   · by_cases hj : j = i
     · subst hj
       rw [hi] at e1; cases e1
       rw [List.getElem?_set_self hiσ] at e2
       cases e2
       exact ⟨u, r, .inl ⟨hk, by simp⟩⟩
     · rw [List.getElem?_set_ne (Ne.symm hj)] at e2
       obtain ⟨u', r', q⟩ := hl j y v' e1 e2 e3
       refine ⟨u', r', ?_⟩
       rcases q with ⟨k, e⟩ | ⟨k, c, e, z⟩
       · refine .inl ⟨k, ?_⟩
         have : y ≠ x := λ e => hj (nodup_ix hN e1 (e ▸ hi))
         simp [this, e]
       · exact .inr ⟨k, c, e, z.sameBut hs (cne y c e)⟩
   · obtain ⟨w', z⟩ := I.cell y c e
     exact ⟨w', z.sameBut hs (cne y c e)⟩
   · obtain ⟨e, n, ne, nf, d⟩ := I.pin p hp
     exact ⟨(hs.2 p.1 ne).trans e, n, ne, nf, d⟩
 · have hfn : X.fn x = true := by
    rcases hf with z | z
    · exact z
    · rw [z] at hk; cases hk
   obtain ⟨c, hc⟩ := I.ok.has x (.inl hk)
   obtain ⟨w', z⟩ := I.cell x c hc
   refine wpAny_storeName_cell I.ok.kind hk hc z (λ h' hc' hs => ?_)
   obtain ⟨oc, hoc, hocd⟩ := id z
   refine h { s with heap := h' } ⟨I.ok, I.os, I.bare, ⟨λ b o e n hb hx => ?_, λ b o e n hb hx => ?_, I.base.free, λ b o e hx => ?_, I.base.tups, I.base.frzs, I.base.tbls⟩, ⟨m, hn.sameBut hs (Ne.symm (cne x c hc)), λ j y v' e1 e2 e3 => ?_⟩, λ y c' e => ?_, I.free, I.freeC, λ p hp => ?_, tracked ⟨oc, hoc, I.freeC x c hc⟩ hs, by simpa using I.len⟩ ⟨c, hs, .inr hc⟩
   · exact (hs.2 b (nNl (nLl (hLs e) (I.ok.cab x c hfn hc)))).trans (I.base.keep b o e n hb hx)
   · obtain ⟨sl, e1⟩ := I.base.slot b o e n hb hx
     exact ⟨sl, (hs.2 b (nNl (nLl (hLs e) (I.ok.cab x c hfn hc)))).trans e1⟩
   · obtain ⟨o', e1⟩ := I.base.there b o e hx
     exact ⟨o', (hs.2 b (nNl (nLl (hLs e) (I.ok.cab x c hfn hc)))).trans e1⟩
   · by_cases hj : j = i
     · subst hj
       rw [hi] at e1; cases e1
       rw [List.getElem?_set_self hiσ] at e2
       cases e2
       exact ⟨u, r, .inr ⟨.inl hk, c, hc, hc'⟩⟩
     · rw [List.getElem?_set_ne (Ne.symm hj)] at e2
       obtain ⟨u', r', q⟩ := hl j y v' e1 e2 e3
       refine ⟨u', r', ?_⟩
       rcases q with q | ⟨k, c', e, z'⟩
       · exact .inl q
       · refine .inr ⟨k, c', e, z'.sameBut hs ?_⟩
         rintro rfl
         exact hj (nodup_ix hN e1 (I.ok.inj _ _ _ e hc ▸ hi))
   · by_cases hcc : c' = c
     · subst hcc; exact ⟨_, hc'⟩
     · obtain ⟨w2, z2⟩ := I.cell y c' e
       exact ⟨w2, z2.sameBut hs hcc⟩
   · obtain ⟨e, n, ne, nf, d⟩ := I.pin p hp
     refine ⟨(hs.2 p.1 ?_).trans e, n, ne, nf, d⟩
     intro q
     rw [q, hoc] at e
     have q' : oc = p.2 := zV e
     exact d w' (by rw [<- q']; exact hocd)
theorem store_ok {M : Model} {A : Around} {E : Value -> Shared -> Prop} {i : Nat} {x : Str} {v : V} {u : Value} {Q : Unit -> Shared -> Prop} (I : Inv X pins σ H s) (hN : X.N.Nodup) (hi : X.N[i]? = some x) (hx : Loc X.env.scope x) (r : RelV v u)
 (h : ∀ s', Inv X pins (σ.set i (some v)) H s' -> Q () s') (hf : X.fn x = true \/ X.env.scope.names.lookup x = some .local := by first | exact .inl rfl | exact .inr rfl | assumption) : wpAny M A (storeName X.env x u) Q E s :=
 store_ok2 I hN hi hx r (λ s' I' _ => h s' I') hf
theorem Inv.call' {s' : Shared} {ch : List Addr} (I : Inv X pins σ H s) (ho : s'.os = s.os) (u : Un (frs X.stack) ch H H' s.heap s'.heap) (hok : HOk X.prog X.w H' s'.heap) (hg : AllBare s'.gens)
 (hch : ∀ b ∈ ch, (b ∈ X.ex \/ X.s₀.heap.objs.size <= b) /\ b ≠ X.env.locals /\ (∀ x c, X.env.cells.lookup x = some c -> c ≠ b) /\ ∀ p ∈ X.pn ++ pins, p.1 ≠ b) : Inv X pins σ H' s' := by
 obtain ⟨h', g', d', t', o'⟩ := s'
 have e : o' = s.os := ho
 subst e
 exact I.call (g' := g') (t' := t') (d' := d') u hok hg hch
end
noncomputable abbrev XK := Value -> Option Addr -> Hp -> Prop
noncomputable abbrev St := List (Option V)
noncomputable abbrev VK := V -> Hp -> Prop
noncomputable abbrev TE := St -> Hp -> VK -> Prop
noncomputable abbrev TT := St -> Hp -> (Bool -> Hp -> Prop) -> Prop
noncomputable abbrev TA := St -> Hp -> (List V -> Hp -> Prop) -> Prop
structure Ends where
 nx : St -> Hp -> Prop
 rt : VK
 bk : St -> Hp -> Prop := λ _ _ => False
 ct : St -> Hp -> Prop := λ _ _ => False
noncomputable abbrev TS := Ends -> St -> Hp -> Prop
def EP (X : Cx) (pins : List (Addr × Obj)) (σ : St) (Q : VK) (u : Value) (s' : Shared) : Prop := ∃ v H', Inv X pins σ H' s' /\ RelV v u /\ Q v H'
def TP (X : Cx) (pins : List (Addr × Obj)) (σ : St) (Q : Bool -> Hp -> Prop) (b : Bool) (s' : Shared) : Prop := ∃ H', Inv X pins σ H' s' /\ Q b H'
def AP (X : Cx) (pins : List (Addr × Obj)) (σ : St) (Q : List V -> Hp -> Prop) (us : List Value) (s' : Shared) : Prop := ∃ vs H', Inv X pins σ H' s' /\ Vals vs us /\ Q vs H'
def SP (X : Cx) (pins : List (Addr × Obj)) (D : Ends) (f : Flow) (s' : Shared) : Prop :=
 match f with
 | .next => ∃ σ' H', Inv X pins σ' H' s' /\ D.nx σ' H'
 | .brk => ∃ σ' H', Inv X pins σ' H' s' /\ D.bk σ' H'
 | .cont => ∃ σ' H', Inv X pins σ' H' s' /\ D.ct σ' H'
 | .ret u => ∃ v σ' H', Inv X pins σ' H' s' /\ RelV v u /\ D.rt v H'
def PE (X : Cx) (e : Expr) (t : TE) : Prop :=
 ∀ (pins : List (Addr × Obj)) (s : Shared) (σ : St) (H : Hp) (Q : VK), Inv X pins σ H s -> t σ H Q -> wpAny (model X.prog X.w) X.A (eval e X.env) (EP X pins σ Q) X.xe s
def PT (X : Cx) (e : Expr) (t : TT) : Prop :=
 ∀ (pins : List (Addr × Obj)) (s : Shared) (σ : St) (H : Hp) (Q : Bool -> Hp -> Prop), Inv X pins σ H s -> t σ H Q -> wpAny (model X.prog X.w) X.A (isTrue e X.env (eval e X.env)) (TP X pins σ Q) X.xe s
def PW (X : Cx) (e : Expr) (t : TT) : Prop :=
 ∀ (whole : Sem Value) (pins : List (Addr × Obj)) (s : Shared) (σ : St) (H : Hp) (Q : Bool -> Hp -> Prop), Inv X pins σ H s -> t σ H Q -> wpAny (model X.prog X.w) X.A (isTrue e X.env whole) (TP X pins σ Q) X.xe s
theorem PW.pt {X : Cx} {e : Expr} {t : TT} (h : PW X e t) : PT X e t := h _
def PA (X : Cx) (es : List Expr) (t : TA) : Prop :=
 ∀ (pos : Pos) (pins : List (Addr × Obj)) (s : Shared) (σ : St) (H : Hp) (Q : List V -> Hp -> Prop), Inv X pins σ H s -> t σ H Q -> wpAny (model X.prog X.w) X.A (spliced (backTo pos (starEach es X.env))) (AP X pins σ Q) X.xe s
def PS (X : Cx) (st : Stmt) (t : TS) : Prop :=
 ∀ (pins : List (Addr × Obj)) (s : Shared) (σ : St) (H : Hp) (D : Ends), Inv X pins σ H s -> t D σ H -> wpAny (model X.prog X.w) X.A (exec st X.env) (SP X pins D) X.xe s
def PSs (X : Cx) (st : List Stmt) (t : TS) : Prop :=
 ∀ (pins : List (Addr × Obj)) (s : Shared) (σ : St) (H : Hp) (D : Ends), Inv X pins σ H s -> t D σ H -> wpAny (model X.prog X.w) X.A (execs st X.env) (SP X pins D) X.xe s
theorem thn {α : Type} {t : Sem α} {Q Q' : α -> Shared -> Prop} {M : Model} {A : Around} {E : Value -> Shared -> Prop} {s : Shared} (h : wpAny M A t Q E s) (hQ : ∀ a s, Q a s -> Q' a s) : wpAny M A t Q' E s := wpAny_mono h hQ λ _ _ x => x
section
variable {X : Cx}
theorem bin {a b : Expr} {ta tb : TE} (ha : PE X a ta) (hb : PE X b tb) {pins : List (Addr × Obj)} {s : Shared} {σ : St} {H : Hp} {R : V -> V -> Hp -> Prop} (I : Inv X pins σ H s) (h : ta σ H λ x H1 => tb σ H1 λ y H2 => R x y H2)
 {α : Type} {Q : α -> Shared -> Prop} {f : Value -> Value -> Sem α}
 (hf : ∀ v u s2 x y H2, Inv X pins σ H2 s2 -> RelV x v -> RelV y u -> R x y H2 -> wpAny (model X.prog X.w) X.A (f v u) Q X.xe s2) :
 wpAny (model X.prog X.w) X.A (eval a X.env) (λ v s₁ => wpAny (model X.prog X.w) X.A (eval b X.env) (λ u s₂ => wpAny (model X.prog X.w) X.A (f v u) Q X.xe s₂) X.xe s₁) X.xe s := by
 refine thn (ha pins s σ H _ I h) λ v s1 q_ => ?_
 obtain ⟨x, H1, I1, r1, q1⟩ := q_
 refine thn (hb pins s1 σ H1 _ I1 q1) λ u s2 q_ => ?_
 obtain ⟨y, H2, I2, r2, q2⟩ := q_
 exact hf v u s2 x y H2 I2 r1 r2 q2
def tVar (i : Nat) : TE := λ σ H Q => ∃ v, σ[i]? = some (some v) /\ Q v H
def tC (v : V) : TE := λ _ H Q => Q v H
theorem pe_var {i : Nat} {x : Str} {pos : Pos} (hN : X.N[i]? = some x) (hv : Vis X.env.scope x) (hd : (x == ("__debug__" : Str)) = false := by decide) (hcd : (x == ("__classdict__" : Str)) = false := by decide) : PE X (.Name x pos) (tVar i) := by
 intro pins s σ H Q I h
 obtain ⟨v, e, h⟩ := h
 obtain ⟨m, hn, hl⟩ := I.loc
 obtain ⟨u, r, l⟩ := hl i x v hN e hv
 have fin : EP X pins σ Q u s := ⟨v, H, I, r, h⟩
 rcases l with ⟨hk, hm⟩ | ⟨hk, c, hc, hcell⟩
 · exact wpAny_Name (wpAny_loadName_local I.ok.kind hk hn hm fin) hd
 · rcases hk with hk | hk
   · exact wpAny_Name (wpAny_loadName_cell I.ok.kind hk hc hcell fin) hd
   · exact wpAny_Name (wpAny_loadName_free I.ok.kind hk hc hcell fin hcd) hd
theorem pe_int {i j pos} : PE X (.Constant (.int i) j pos) (tC (.int i)) := λ _ _ _ H _ I h => wpAny_Constant_int ⟨.int i, H, I.tok _, ⟨_, rfl⟩, h⟩
theorem pe_bl {b j pos} : PE X (.Constant (.bool b) j pos) (tC (.bl b)) := λ _ _ _ H _ I h => Constant_bool ⟨.bl b, H, I, rfl, h⟩
theorem pe_non {j pos} : PE X (.Constant .none j pos) (tC .non) := λ _ _ _ H _ I h => Constant_none ⟨.non, H, I, rfl, h⟩
theorem pe_str {x j pos} : PE X (.Constant (.str x) j pos) (tC (.str x)) := λ _ _ _ H _ I h => Calls.Constant_str ⟨.str x, H, I.tok _, ⟨_, rfl⟩, h⟩
def Gl (X : Cx) (x : Str) : Prop := X.env.kindOf x = some .globalImplicit
theorem ld_glob {E : Value -> Shared -> Prop} {pins : List (Addr × Obj)} {s : Shared} {σ : St} {H : Hp} {x : Str} {u : Value} {pos : Pos} {Q : Value -> Shared -> Prop} (I : Inv X pins σ H s) (hg : Gl X x) (hm : X.mg x = some u) (h : Q u s)
 (hd : (x == ("__debug__" : Str)) = false := by decide) : wpAny (model X.prog X.w) X.A (eval (.Name x pos) X.env) Q E s :=
 Calls.Name_function_global I.ok.kind hg (Calls.loadGlobal_global (by rw [I.ok.glob]; exact I.mod.glob.keeps I.bk) hm h) hd
theorem ld_blt {E : Value -> Shared -> Prop} {pins : List (Addr × Obj)} {s : Shared} {σ : St} {H : Hp} {x : Str} {u : Value} {pos : Pos} {Q : Value -> Shared -> Prop} (I : Inv X pins σ H s) (hg : Gl X x) (hm : X.mg x = none) (hv : bootBuiltins x = some u) (h : Q u s)
 (hn : x ≠ "__name__" := by decide) (hd : (x == ("__debug__" : Str)) = false := by decide) : wpAny (model X.prog X.w) X.A (eval (.Name x pos) X.env) Q E s := by
 obtain ⟨mb, h1, h2⟩ := I.mod.blt
 exact Calls.Name_function_global I.ok.kind hg (Calls.loadGlobal_builtin (by rw [I.ok.glob]; exact I.mod.glob.keeps I.bk) hm (by rw [I.ok.blt]; exact h1.keeps I.bk) ((h2 x hn).trans hv) h) hd
theorem pe_glob {x : Str} {v : V} {u : Value} {pos : Pos} (hg : Gl X x) (hm : X.mg x = some u) (r : RelV v u) (hd : (x == ("__debug__" : Str)) = false := by decide) : PE X (.Name x pos) (tC v) :=
 λ _ _ _ H _ I h => ld_glob I hg hm ⟨v, H, I, r, h⟩ hd
theorem pe_bltn {x : Str} {v : V} {u : Value} {pos : Pos} (hg : Gl X x) (hm : X.mg x = none) (hv : bootBuiltins x = some u) (r : RelV v u) (hn : x ≠ "__name__" := by decide) (hd : (x == ("__debug__" : Str)) = false := by decide) : PE X (.Name x pos) (tC v) :=
 λ _ _ _ H _ I h => ld_blt I hg hm hv ⟨v, H, I, r, h⟩ hn hd
variable {a b : Expr} {ta tb : TE} {pos : Pos}
def PC (X : Cx) (op : CmpOp) (a b : Expr) (t : TE) : Prop :=
 ∀ (pins : List (Addr × Obj)) (s : Shared) (σ : St) (H : Hp) (Q : VK), Inv X pins σ H s -> t σ H Q ->
  wpAny (model X.prog X.w) X.A (eval a X.env) (λ v s₁ => wpAny (model X.prog X.w) X.A (eval b X.env) (λ u s₂ => wpAny (model X.prog X.w) X.A (compareOp op v u) (EP X pins σ Q) X.xe s₂) X.xe s₁) X.xe s
def tB (t : TE) : TT := λ σ H Q => t σ H λ x H1 => ∃ c, x = .bl c /\ Q c H1
theorem pt_cmp {op : CmpOp} {t : TE} (h : PC X op a b t) (h1 : behindInMarks op b = false := by first | exact nobehind _ (by decide) (by decide) | rfl) : PT X (.Compare a [op] [b] pos) (tB t) := by
 intro pins s σ H Q I hw
 refine wpAny_isTrue_Compare1 (thn (h pins s σ H _ I hw) λ v s1 h1 => thn h1 λ u s2 h2 => thn h2 λ c s3 q_ => ?_) h1
 obtain ⟨x, H1, I1, r1, q1⟩ := q_
 obtain ⟨d, rfl, q⟩ := q1
 cases r1
 exact wpAny_truthy_bool ⟨H1, I1, q⟩
variable {tA tB' : TT} {rest : List Expr}
def tOr (t u : TT) : TT := λ σ H Q => t σ H λ c H1 => if c = true then Q true H1 else u σ H1 Q
def tNot (t : TT) : TT := λ σ H Q => t σ H λ c H1 => Q (!c) H1
theorem pw_or1 (ha : PT X a tA) : PW X (.BoolOp .Or [a] pos) tA := by
 intro wh pins s σ H Q I h
 refine isTrue_or (thn (ha pins s σ H Q I h) λ c s1 e => ?_)
 cases c with
 | false => exact isTrue_or_nil e
 | true => exact e
theorem pw_or (ha : PT X a tA) (hb : PW X (.BoolOp .Or (b :: rest) pos) tB') : PW X (.BoolOp .Or (a :: b :: rest) pos) (tOr tA tB') := by
 intro wh pins s σ H Q I h
 refine isTrue_or (thn (ha pins s σ H _ I h) λ c s1 q_ => ?_)
 obtain ⟨H1, I1, q1⟩ := q_
 cases c with
 | true => exact ⟨H1, I1, q1⟩
 | false => exact hb wh pins s1 σ H1 Q I1 q1
theorem pt_not (ha : PT X a tA) : PT X (.UnaryOp .Not a pos) (tNot tA) := by
 intro pins s σ H Q I h
 exact isTrue_not (ha pins s σ H (λ c H1 => Q (!c) H1) I h)
def tAndV (ta tb : TE) : TE := λ σ H Q => ta σ H λ x H1 => ∃ c, x = .bl c /\ if c = true then tb σ H1 Q else Q (.bl false) H1
def tNotV (ta : TE) : TE := λ σ H Q => ta σ H λ x H1 => ∃ c, x = .bl c /\ Q (.bl (!c)) H1
theorem pe_one {op} {t : TE} (h : PE X a t) : PE X (.BoolOp op [a] pos) t := λ pins s σ H Q I hw => BoolOp_one (h pins s σ H Q I hw)
theorem pe_and (ha : PE X a ta) (hb : PE X (.BoolOp .And (b :: rest) pos) tb) : PE X (.BoolOp .And (a :: b :: rest) pos) (tAndV ta tb) := by
 intro pins s σ H Q I h
 refine BoolOp_and (thn (ha pins s σ H _ I h) λ v s1 q_ => ?_)
 obtain ⟨x, H1, I1, r1, q1⟩ := q_
 obtain ⟨c, rfl, q1⟩ := q1
 cases r1
 refine wpAny_truthy_bool ?_
 cases c with
 | true => exact hb pins s1 σ H1 Q I1 q1
 | false => exact ⟨.bl false, H1, I1, rfl, q1⟩
theorem pe_not (ha : PE X a ta) : PE X (.UnaryOp .Not a pos) (tNotV ta) := by
 intro pins s σ H Q I h
 refine UnaryOp_ (thn (ha pins s σ H _ I h) λ v s1 q_ => ?_)
 obtain ⟨x, H1, I1, r1, q1⟩ := q_
 obtain ⟨c, rfl, q1⟩ := q1
 cases r1
 exact not_of (wpAny_truthy_bool ⟨.bl (!c), H1, I1, rfl, q1⟩)
end
def SqL (K : Fg) (H : Hp) (a : Addr) (xs : List V) : Prop :=
 Rd H a (.lst xs) \/
  ∃ (o : Obj) (its : Array Value) (n : Nat), K.lookup a = some o /\ o.cls = .type "list" /\ o.dict = none /\ o.data = .seq its n /\ its.size <= sizeLine /\ Vals xs its.toList
def SqT (K : Fg) (H : Hp) (a : Addr) (xs : List V) : Prop :=
 Rd H a (.tup xs) \/
  ∃ (o : Obj) (its : Array Value) (n : Nat), K.lookup a = some o /\ o.cls = .type "tuple" /\ o.data = .seq its n /\ its.size <= sizeLine /\ Vals xs its.toList
noncomputable def absV : Value -> Option V
 | .none => some .non
 | .bool b => some (.bl b)
 | .int i _ => some (.int i)
 | .str x _ => some (.str x)
 | .bytes b _ => some (.byt b)
 | .float b _ => some (.flt b)
 | .ref a => some (.ref a)
 | .type n => some (.ty n)
 | _ => none
theorem RelV.abs {x : V} {u : Value} (r : RelV x u) : absV u = some x := by
 cases x with
 | non => cases r; rfl
 | bl _ => cases r; rfl
 | int _ => obtain ⟨t, rfl⟩ := r; rfl
 | str _ => obtain ⟨t, rfl⟩ := r; rfl
 | byt _ => obtain ⟨t, rfl⟩ := r; rfl
 | flt _ => obtain ⟨t, rfl⟩ := r; rfl
 | ref _ => cases r; rfl
 | ty _ => cases r; rfl
theorem RelV.inj {x y : V} {u : Value} (r : RelV x u) (q : RelV y u) : x = y := zV (r.abs.symm.trans q.abs)
theorem Vals.inj {xs ys : List V} {us : List Value} (h : Vals xs us) (k : Vals ys us) : xs = ys := by
 induction h generalizing ys with
 | nil => cases k; rfl
 | cons r t ih => cases k with
  | cons r' t' => rw [r.inj r', ih t']
section
variable {X : Cx} {pins : List (Addr × Obj)} {σ : St} {H : Hp} {s : Shared} {a : Addr} {xs ys : List V}
theorem SqL.of {K : Fg} (h : H a = some (.lst xs)) : SqL K H a xs := .inl (.inl h)
theorem SqT.of {K : Fg} (h : H a = some (.tup xs)) : SqT K H a xs := .inl (.inl h)
theorem Inv.list (I : Inv X pins σ H s) (h : SqL X.K H a xs) : ∃ its : List Value, Vals xs its /\ PlainL s.heap a its.toArray /\ xs.length <= sizeLine := by
 rcases h with h | ⟨o, its, n, hk, hc, hd, hs, hz, r⟩
 · obtain ⟨z, its, n, r, e⟩ := h.ok I.hok
   exact ⟨its, r, ⟨_, n, e, rfl, rfl, rfl⟩, z⟩
 · refine ⟨its.toList, r, ⟨o, n, I.kIn a o hk, hc, hd, by simpa using hs⟩, ?_⟩
   have e := r.length
   simp only [Qf] at e
   omega
theorem Inv.tuple (I : Inv X pins σ H s) (h : SqT X.K H a xs) : ∃ its : List Value, Vals xs its /\ IsTup s.heap a its.toArray /\ xs.length <= sizeLine := by
 rcases h with h | ⟨o, its, n, hk, hc, hs, hz, r⟩
 · obtain ⟨z, its, r, p, _⟩ := h.ok I.hok
   exact ⟨its, r, p, z⟩
 · refine ⟨its.toList, r, ⟨o, I.kIn a o hk, hc, n, by simpa using hs⟩, ?_⟩
   have e := r.length
   simp only [Qf] at e
   omega
theorem Inv.list_inj (I : Inv X pins σ H s) (h : SqL X.K H a xs) (h' : SqL X.K H a ys) : xs = ys := by
 obtain ⟨its, r, ⟨o, n, e, _, _, d⟩, _⟩ := I.list h
 obtain ⟨its', r', ⟨o', n', e', _, _, d'⟩, _⟩ := I.list h'
 rw [e] at e'; cases e'
 rw [d] at d'
 injection d' with d1 _
 have : its = its' := by simpa using congrArg Array.toList d1
 subst this
 exact r.inj r'
theorem Inv.tuple_inj (I : Inv X pins σ H s) (h : SqT X.K H a xs) (h' : SqT X.K H a ys) : xs = ys := by
 obtain ⟨its, r, ⟨o, e, _, n, d⟩, _⟩ := I.tuple h
 obtain ⟨its', r', ⟨o', e', _, n', d'⟩, _⟩ := I.tuple h'
 rw [e] at e'; cases e'
 rw [d] at d'
 injection d' with d1 _
 have : its = its' := by simpa using congrArg Array.toList d1
 subst this
 exact r.inj r'
end
abbrev Cx.wish (X : Cx) (E : Value -> Shared -> Prop) : Cx := { X with xe := E }
abbrev Cx.nox (X : Cx) : Cx := X.wish λ _ _ => False
theorem Cx.Ok.wish {X : Cx} (ok : X.Ok) (E : Value -> Shared -> Prop) : (X.wish E).Ok :=
 ⟨ok.mod, ok.kind, ok.glob, ok.blt, ok.above, ok.inj, ok.has, ok.cab, ok.hd, ok.frames, ok.stk, ok.exf, ok.bs, ok.bsz, ok.noex, ok.exfs, ok.funs, ok.frf⟩
theorem Cx.Ok.unwish {X : Cx} {E : Value -> Shared -> Prop} (ok : (X.wish E).Ok) : X.Ok :=
 ⟨ok.mod, ok.kind, ok.glob, ok.blt, ok.above, ok.inj, ok.has, ok.cab, ok.hd, ok.frames, ok.stk, ok.exf, ok.bs, ok.bsz, ok.noex, ok.exfs, ok.funs, ok.frf⟩
section
variable {X : Cx} {pins : List (Addr × Obj)} {σ : St} {H : Hp} {s : Shared} {E : Value -> Shared -> Prop}
theorem Inv.wish (I : Inv X pins σ H s) (E : Value -> Shared -> Prop) : Inv (X.wish E) pins σ H s := ⟨I.ok.wish E, I.os, I.bare, I.base, I.loc, I.cell, I.free, I.freeC, I.pin, I.hok, I.len⟩
theorem Inv.unwish (I : Inv (X.wish E) pins σ H s) : Inv X pins σ H s := ⟨I.ok.unwish, I.os, I.bare, I.base, I.loc, I.cell, I.free, I.freeC, I.pin, I.hok, I.len⟩
theorem SP.unwish {D : Ends} {f : Flow} {s' : Shared} (h : SP (X.wish E) pins D f s') : SP X pins D f s' := by
 cases f with
 | next => obtain ⟨σ', H', I, q⟩ := h; exact ⟨σ', H', I.unwish, q⟩
 | brk => obtain ⟨σ', H', I, q⟩ := h; exact ⟨σ', H', I.unwish, q⟩
 | cont => obtain ⟨σ', H', I, q⟩ := h; exact ⟨σ', H', I.unwish, q⟩
 | ret u => obtain ⟨v, σ', H', I, r, q⟩ := h; exact ⟨v, σ', H', I.unwish, r, q⟩
theorem PSs.nox {st : List Stmt} {t : TS} (h : PSs X.nox st t) : PSs X st t := λ pins s σ H D I hw =>
 wpAny_mono (h pins s σ H D (I.wish _) hw) (λ _ _ q => q.unwish) λ _ _ z => False.elim z
end
section
variable {X : Cx} {st : Stmt} {rest : List Stmt} {t u : TS} {e : Expr} {te : TE} {pos : Pos}
def tNext : TS := λ D σ H => D.nx σ H
def tSeq (t u : TS) : TS := λ D σ H => t { D with nx := u D } σ H
theorem pss_nil : PSs X [] tNext := λ _ _ σ H _ I h => wpAny_execs_nil ⟨σ, H, I, h⟩
theorem pss_cons (h1 : PS X st t) (h2 : PSs X rest u) : PSs X (st :: rest) (tSeq t u) := by
 intro pins s σ H D I h
 refine wpAny_execs_cons (thn (h1 pins s σ H { D with nx := u D } I h) λ f s1 q => ?_)
 cases f with
 | next =>
  obtain ⟨σ', H', I', q⟩ := q
  exact h2 pins s1 σ' H' D I' q
 | ret v => exact q
 | brk => exact q
 | cont => exact q
theorem pss_one (h1 : PS X st t) : PSs X [st] t := by
 intro pins s σ H D I h
 refine wpAny_execs_cons (thn (h1 pins s σ H D I h) λ f s1 q => ?_)
 cases f with
 | next => exact wpAny_execs_nil q
 | ret v => exact q
 | brk => exact q
 | cont => exact q
theorem Inv.quiet {pins : List (Addr × Obj)} {σ : St} {H : Hp} {s : Shared} (I : Inv X pins σ H s) : interactive X.env = false := by simp [interactive, I.ok.kind]
def tDrop (te : TE) : TS := λ D σ H => te σ H λ _ H1 => D.nx σ H1
theorem ps_expr (he : PE X e te) (hs : swapsWith e none pos.line X.env = pure false := by rfl) : PS X (.Expr e pos) (tDrop te) := by
 intro pins s σ H D I h
 exact wpAny_Expr_any (thn (he pins s σ H _ I h) λ v s1 q_ => by obtain ⟨x, H1, I1, r1, q1⟩ := q_; exact ⟨σ, H1, I1, q1⟩) I.quiet hs
def tRet (te : TE) : TS := λ D σ H => te σ H D.rt
theorem ps_ret (he : PE X e te) : PS X (.Return (some e) pos) (tRet te) := by
 intro pins s σ H D I h
 exact wpAny_Return_some (thn (he pins s σ H _ I h) λ v s1 q_ => by obtain ⟨x, H1, I1, r1, q1⟩ := q_; exact ⟨x, σ, H1, I1, r1, q1⟩)
def tIfS (c : TT) (t u : TS) : TS := λ D σ H => c σ H λ b H1 => if b = true then t D σ H1 else u D σ H1
theorem ps_if {c : Expr} {a b : List Stmt} {tc : TT} (hc : PT X c tc) (ha : PSs X a t) (hb : PSs X b u) : PS X (.If c a b pos) (tIfS tc t u) := by
 intro pins s σ H D I h
 refine wpAny_If (thn (hc pins s σ H _ I h) λ d s1 q_ => ?_)
 obtain ⟨H1, I1, q1⟩ := q_
 cases d with
 | true => exact ha pins s1 σ H1 D I1 q1
 | false => exact hb pins s1 σ H1 D I1 q1
def tNever : TS := λ _ _ _ => False
theorem ps_never : PS X st tNever := λ _ _ _ _ _ _ h => h.elim
end
noncomputable abbrev TG := V -> St -> Hp -> (St -> Hp -> Prop) -> Prop
noncomputable abbrev TGs := List V -> St -> Hp -> (St -> Hp -> Prop) -> Prop
def PG (X : Cx) (target : Expr) (t : TG) : Prop :=
 ∀ (pins : List (Addr × Obj)) (s : Shared) (σ : St) (H : Hp) (v : V) (u : Value) (Q : St -> Hp -> Prop), Inv X pins σ H s -> RelV v u -> t v σ H Q ->
  wpAny (model X.prog X.w) X.A (assign target X.env u) (λ _ s' => ∃ σ' H', Inv X pins σ' H' s' /\ Q σ' H') X.xe s
def PGs (X : Cx) (ts : List Expr) (t : TGs) : Prop :=
 ∀ (pins : List (Addr × Obj)) (s : Shared) (σ : St) (H : Hp) (vs : List V) (us : List Value) (Q : St -> Hp -> Prop), Inv X pins σ H s -> Vals vs us -> t vs σ H Q ->
  wpAny (model X.prog X.w) X.A (assignInOrder ((assignEach ts X.env).map (·.2)) us) (λ _ s' => ∃ σ' H', Inv X pins σ' H' s' /\ Q σ' H') X.xe s
noncomputable abbrev TIp := V -> V -> Hp -> VK -> Prop
def PIp (X : Cx) (op : Operator) (t : TIp) : Prop :=
 ∀ (pins : List (Addr × Obj)) (s : Shared) (σ : St) (H : Hp) (x y : V) (v u : Value) (Q : VK), Inv X pins σ H s -> RelV x v -> RelV y u -> t x y H Q ->
  wpAny (model X.prog X.w) X.A (inplaceOp op v u) (EP X pins σ Q) X.xe s
section
variable {X : Cx} {pos : Pos}
def gName (i : Nat) : TG := λ v σ H Q => Q (σ.set i (some v)) H
theorem pg_name {i : Nat} {x : Str} (hN : X.N.Nodup) (hi : X.N[i]? = some x) (hx : Loc X.env.scope x) (hf : X.fn x = true \/ X.env.scope.names.lookup x = some .local := by first | exact .inl rfl | exact .inr rfl | assumption) : PG X (.Name x pos) (gName i) := by
 intro pins s σ H v u Q I r h
 exact wpAny_assign_Name (store_ok I hN hi hx r (λ s' I' => ⟨_, H, I', h⟩) hf)
def gNil : TGs := λ vs σ H Q => vs = [] /\ Q σ H
def gCons (t : TG) (u : TGs) : TGs := λ vs σ H Q => ∃ v r, vs = v :: r /\ t v σ H λ σ' H' => u r σ' H' Q
theorem pgs_nil : PGs X [] gNil := by
 intro pins s σ H vs us Q I r h
 obtain ⟨e, h⟩ := h
 subst e
 cases r
 exact assignInOrder_nil ⟨σ, H, I, h⟩
theorem pgs_cons {e : Expr} {es : List Expr} {t : TG} {u : TGs} (h1 : PG X e t) (h2 : PGs X es u)
 (hs : (assignEach (e :: es) X.env).map (·.2) = assign e X.env :: (assignEach es X.env).map (·.2) := by rfl) : PGs X (e :: es) (gCons t u) := by
 intro pins s σ H vs us Q I r h
 obtain ⟨v, vr, e1, h⟩ := h
 subst e1
 cases r with
 | cons r rr =>
  rw [hs]
  refine assignInOrder_cons (thn (h1 pins s σ H _ _ _ I r h) λ _ s1 q_ => ?_)
  obtain ⟨σ1, H1, I1, q1⟩ := q_
  exact h2 pins s1 σ1 H1 _ _ Q I1 rr q1
def gTup (K : Fg) (n : Nat) (t : TGs) : TG := λ v σ H Q => ∃ a xs, v = .ref a /\ SqT K H a xs /\ xs.length = n /\ t xs σ H Q
theorem pg_tup {es : List Expr} {k : Nat} {t : TGs} {n : Nat} (hc : X.calm = true) (h : PGs X es t)
 (hn : (assignEach es X.env).length = n := by rfl) (hst : (assignEach es X.env).findIdx? (·.1) = none := by rfl) : PG X (.Tuple es k pos) (gTup X.K n t) := by
 intro pins s σ H v u Q I r hw
 obtain ⟨a, xs, e1, hq, hl, hw⟩ := hw
 subst e1
 cases r
 obtain ⟨its, rv, ht, hz⟩ := I.tuple hq
 refine assign_Tuple_tuple (I.ok.hd hc) ht (by simp [hn, <- hl, rv.length]) hst λ h' hx => ?_
 have I1 : Inv X pins σ H { s with heap := h' } := I.kept (t' := s.toks) λ b o e => hx b o (nNl (hLs e)) e
 exact h pins _ σ H xs _ Q I1 (by simpa using rv) hw
def tAsg (te : TE) (g : TG) : TS := λ D σ H => te σ H λ x H1 => g x σ H1 D.nx
theorem ps_set {i : Nat} {x : Str} {e : Expr} {te : TE} {pos' : Pos} (hN : X.N.Nodup) (hi : X.N[i]? = some x) (hx : Loc X.env.scope x) (he : PE X e te) (hs : swapsWith e (some (.Name x pos')) pos.line X.env = pure false := by rfl) (hf : X.fn x = true \/ X.env.scope.names.lookup x = some .local := by first | exact .inl rfl | exact .inr rfl | assumption) :
 PS X (.Assign [.Name x pos'] e pos) (tAsg te (gName i)) := by
 intro pins s σ H D I h
 refine wpAny_Assign_Name (thn (he pins s σ H _ I h) λ v s1 q_ => ?_) hs
 obtain ⟨y, H1, I1, r1, q1⟩ := q_
 exact store_ok I1 hN hi hx r1 (λ s2 I2 => ⟨_, H1, I2, q1⟩) hf
def tAug (i : Nat) (te : TE) (ti : TIp) : TS := λ D σ H => ∃ x, σ[i]? = some (some x) /\ te σ H λ y H1 => ti x y H1 λ z H2 => D.nx (σ.set i (some z)) H2
theorem ps_aug {i : Nat} {x : Str} {e : Expr} {te : TE} {op : Operator} {ti : TIp} {pos' : Pos} (hN : X.N.Nodup) (hi : X.N[i]? = some x) (hx : Loc X.env.scope x) (he : PE X e te) (ho : PIp X op ti) (hf : X.fn x = true \/ X.env.scope.names.lookup x = some .local := by first | exact .inl rfl | exact .inr rfl | assumption) :
 PS X (.AugAssign (.Name x pos') op e pos) (tAug i te ti) := by
 intro pins s σ H D I h
 obtain ⟨v, e1, h⟩ := h
 obtain ⟨m, hn, hl⟩ := I.loc
 have vis : Vis X.env.scope x := by rcases hx with k | k; exact .inl k; exact .inr (.inl k)
 obtain ⟨u, r, l⟩ := hl i x v hi e1 vis
 refine wpAny_AugAssign_Name ?_
 have go : wpAny (model X.prog X.w) X.A (eval e X.env) (λ w s₂ => wpAny (model X.prog X.w) X.A (inplaceOp op u w) (λ r s₃ => wpAny (model X.prog X.w) X.A (storeName X.env x r) (λ _ => SP X pins D .next) X.xe s₃) X.xe s₂) X.xe s := by
  refine thn (he pins s σ H _ I h) λ w s1 q_ => ?_
  obtain ⟨y, H1, I1, r1, q1⟩ := q_
  refine thn (ho pins s1 σ H1 v y u w _ I1 r r1 q1) λ z s2 q_ => ?_
  obtain ⟨zv, H2, I2, r2, q2⟩ := q_
  exact store_ok I2 hN hi hx r2 (λ s3 I3 => ⟨_, H2, I3, q2⟩) hf
 rcases l with ⟨hk, hm⟩ | ⟨hk, c, hc, hcell⟩
 · exact wpAny_loadName_local I.ok.kind hk hn hm go
 · rcases hk with hk | hk
   · exact wpAny_loadName_cell I.ok.kind hk hc hcell go
   · rcases hx with k | k
     · have : X.env.scope.names.lookup x = some .free := hk
       rw [k] at this; cases this
     · have : X.env.scope.names.lookup x = some .free := hk
       rw [k] at this; cases this
end
section
variable {X : Cx} {pos : Pos}
end
structure It where
 go : Nat -> Hp -> Prop
 yld : Nat -> Hp -> V -> Hp -> Prop
 stop : Nat -> Hp -> Prop
def FpOk (X : Cx) (pins : List (Addr × Obj)) (H : Hp) (b : Addr) : Prop :=
 H b = none /\ b ≠ X.env.locals /\ b ∉ X.fs /\ (b ∈ X.ex \/ X.s₀.heap.objs.size <= b) /\ (∀ x c, X.env.cells.lookup x = some c -> c ≠ b) /\ ∀ p ∈ X.pn ++ pins, p.1 ≠ b
theorem Inv.fpOk {X : Cx} {pins : List (Addr × Obj)} {σ : St} {H H' : Hp} {s : Shared} {b : Addr} (I : Inv X pins σ H s) (hb : s.heap.objs.size <= b) (hn : H' b = none) : FpOk X pins H' b := by
 refine ⟨hn, nNg (nLl I.lt hb), I.nofs hb, .inr (Qb I.sz hb), λ x c e z => ?_, λ p hp z => ?_⟩
 · obtain ⟨v, q⟩ := I.cell x c e
   exact absurd (nLl q.lt (by rw [z]; exact hb)) (zT _)
 · exact absurd (nLl (hLs (I.pin p hp).1) (by rw [z]; exact hb)) (zT _)
structure Turn (P : Program) (w : World) (K : Fg) (tg : Expr) (J : It) (fp : List Addr) (it : Addr) (tn : Nat -> Heap -> Prop) : Prop where
 mem : it ∈ fp
 obj : ∀ i h, tn i h -> ∀ b ∈ fp, ∃ o, h.get? b = some o /\ ∀ v, o.data ≠ .cell v
 keep : ∀ i h h', tn i h -> (∀ b ∈ fp, ∀ o, h.get? b = some o -> h'.get? b = some o) -> tn i h'
 item : ∀ (X : Cx), X.prog = P -> X.w = w -> X.K = K -> X.calm = true -> ∀ (i : Nat) (pins : List (Addr × Obj)) (s : Shared) (σ : St) (H : Hp) (E : Value -> Shared -> Prop), Inv X pins σ H s -> (∀ b ∈ fp, FpOk X pins H b) -> tn i s.heap -> J.go i H ->
  wpAny (model P w) X.A (pyNext (.ref it)) (λ r s1 => ∃ u, r = some u /\
   wpAny (model P w) X.A (letOwnedTupleGo tg (.ref it) u) (λ _ s2 => ∃ x H', Inv X pins σ H' s2 /\ RelV x u /\ J.yld i H x H' /\ tn (i + 1) s2.heap /\ ∀ b ∈ fp, H' b = none) E s1) E s
 done : ∀ (X : Cx), X.prog = P -> X.w = w -> X.K = K -> X.calm = true -> ∀ (i : Nat) (pins : List (Addr × Obj)) (s : Shared) (σ : St) (H : Hp) (E : Value -> Shared -> Prop), Inv X pins σ H s -> (∀ b ∈ fp, FpOk X pins H b) -> tn i s.heap -> J.stop i H ->
  wpAny (model P w) X.A (pyNext (.ref it)) (λ r s1 => r = none /\ Inv X pins σ H s1) E s
 self : ∀ (A : Around) (i : Nat) (s : Shared) (Q : Value -> Shared -> Prop) (E : Value -> Shared -> Prop), tn i s.heap -> Q (.ref it) s -> wpAny (model P w) A (pyIter (.ref it)) Q E s
noncomputable abbrev TI := St -> Hp -> (It -> Hp -> Prop) -> Prop
def PIE (X : Cx) (pins : List (Addr × Obj)) (σ : St) (tg : Expr) (R : It -> Hp -> Prop) (itv : Value) (s2 : Shared) : Prop :=
 ∃ (it : Addr) (fp : List Addr) (tn : Nat -> Heap -> Prop) (J : It) (H' : Hp), itv = .ref it /\ Inv X pins σ H' s2 /\ Turn X.prog X.w X.K tg J fp it tn /\ tn 0 s2.heap /\ (∀ b ∈ fp, FpOk X pins H' b) /\ R J H'
def PI (X : Cx) (tg iter : Expr) (wi : TI) : Prop :=
 ∀ (pins : List (Addr × Obj)) (s : Shared) (σ : St) (H : Hp) (R : It -> Hp -> Prop), Inv X pins σ H s -> wi σ H R ->
  wpAny (model X.prog X.w) X.A (eval iter X.env) (λ v s1 => wpAny (model X.prog X.w) X.A (pyIter v) (PIE X pins σ tg R) X.xe s1) X.xe s
theorem go_of {M : Model} {A : Around} {E : Value -> Shared -> Prop} {s : Shared} {tg : Expr} {it : Addr} {u : Value} {o : Obj} {n : String} {vs : Array Value} {Q : Unit -> Shared -> Prop} (ho : s.heap.get? it = some o) (hc : o.cls = .type n) (hd : o.data = .fields vs)
 (hn : ["enumerate", "zip", "dict_itemiterator", "dict_reverseitemiterator", "odict_iterator", "itertools.zip_longest", "itertools.pairwise"].contains n = false) (hQ : Q () s) : wpAny M A (letOwnedTupleGo tg (.ref it) u) Q E s := by
 unfold letOwnedTupleGo
 cases tg <;> first
  | exact wP hQ
  | (cases u <;> first
   | exact wP hQ
   | (refine wB (wpAny_load ho ?_)
      rw [hc, hd]
      show wpAny M A (if (["enumerate", "zip", "dict_itemiterator", "dict_reverseitemiterator", "odict_iterator", "itertools.zip_longest", "itertools.pairwise"].contains n && vs[0]? == some (rawInt _)) = true then _ else _) Q E s
      rw [if_neg (by intro h; rw [hn, Bool.false_and] at h; cases h)]
      exact wP hQ))
def Itl (K : Fg) (a : Addr) : It :=
 ⟨λ i H => ∃ xs x, SqL K H a xs /\ xs[i]? = some x, λ i H x H' => H' = H /\ ∀ xs, SqL K H a xs -> xs[i]? = some x, λ i H => ∃ xs, SqL K H a xs /\ xs.length <= i⟩
def Itt (K : Fg) (a : Addr) : It :=
 ⟨λ i H => ∃ xs x, SqT K H a xs /\ xs[i]? = some x, λ i H x H' => H' = H /\ ∀ xs, SqT K H a xs -> xs[i]? = some x, λ i H => ∃ xs, SqT K H a xs /\ xs.length <= i⟩
def Itr (lo : Int) (n : Nat) : It := ⟨λ i _ => i < n, λ i H x H' => H' = H /\ x = .int (lo + i), λ i _ => n <= i⟩
theorem turn_list {P : Program} {w : World} {K : Fg} {tg : Expr} (a it : Addr) : Turn P w K tg (Itl K a) [it] it (λ i h => h.IsListIter it a i) where
 mem := by simp
 obj := λ i h st b hb => by
  have e : b = it := by simpa using hb
  subst e
  obtain ⟨o, e, c, d⟩ := st
  exact ⟨o, e, λ v z => by rw [d] at z; cases z⟩
 keep := λ i h h' st k => st.at λ o e => k it (by simp) o e
 item := by
  intro X hP hw hK hc i pins s σ H E I hf st hg
  subst hP hw hK
  obtain ⟨xs, x, hq, hx⟩ := hg
  obtain ⟨its, rv, p, hz⟩ := I.list hq
  obtain ⟨u, hu, ru⟩ := rv.get hx
  obtain ⟨f0, f1, f2, f3, f4, f5⟩ := hf it (by simp)
  refine wpAny_pyNext_list_item st p.isList (x := u) (by simpa using hu) λ h' st' sb => ?_
  have I1 : Inv X pins σ H { s with heap := h' } := I.turned (t' := s.toks) (λ b o hb e => (sb.2 b hb).trans e) f0 f1 f3 f4 f5
  obtain ⟨o, e, c, d⟩ := id st'
  exact ⟨u, rfl, go_of (s := { s with heap := h' }) e c d (by decide) ⟨x, H, I1, ru, ⟨rfl, λ ys hy => by rw [I.list_inj hy hq]; exact hx⟩, st', λ b hb => (hf b hb).1⟩⟩
 done := by
  intro X hP hw hK hc i pins s σ H E I hf st hg
  subst hP hw hK
  obtain ⟨xs, hq, hx⟩ := hg
  obtain ⟨its, rv, p, hz⟩ := I.list hq
  obtain ⟨f0, f1, f2, f3, f4, f5⟩ := hf it (by simp)
  have hl := rv.length
  exact wpAny_pyNext_list_end (I.ok.hd hc) st p.isList (by simp; omega) λ h' eb => ⟨rfl, I.turned (t' := s.toks) (λ b o hb e => eb b o hb e) f0 f1 f3 f4 f5⟩
 self := λ _ _ _ _ _ st h => wpAny_pyIter_listiter st h
theorem turn_tuple {P : Program} {w : World} {K : Fg} {tg : Expr} (a it : Addr) : Turn P w K tg (Itt K a) [it] it (λ i h => h.IsTupleIter it a i) where
 mem := by simp
 obj := λ i h st b hb => by
  have e : b = it := by simpa using hb
  subst e
  obtain ⟨o, e, c, d⟩ := st
  exact ⟨o, e, λ v z => by rw [d] at z; cases z⟩
 keep := λ i h h' st k => st.at λ o e => k it (by simp) o e
 item := by
  intro X hP hw hK hc i pins s σ H E I hf st hg
  subst hP hw hK
  obtain ⟨xs, x, hq, hx⟩ := hg
  obtain ⟨its, rv, p, hz⟩ := I.tuple hq
  obtain ⟨u, hu, ru⟩ := rv.get hx
  obtain ⟨f0, f1, f2, f3, f4, f5⟩ := hf it (by simp)
  refine wpAny_pyNext_tuple_item st (show s.heap.IsTuple a its.toArray from p) (x := u) (by simpa using hu) λ h' st' sb => ?_
  have I1 : Inv X pins σ H { s with heap := h' } := I.turned (t' := s.toks) (λ b o hb e => (sb.2 b hb).trans e) f0 f1 f3 f4 f5
  obtain ⟨o, e, c, d⟩ := id st'
  exact ⟨u, rfl, go_of (s := { s with heap := h' }) e c d (by decide) ⟨x, H, I1, ru, ⟨rfl, λ ys hy => by rw [I.tuple_inj hy hq]; exact hx⟩, st', λ b hb => (hf b hb).1⟩⟩
 done := by
  intro X hP hw hK hc i pins s σ H E I hf st hg
  subst hP hw hK
  obtain ⟨xs, hq, hx⟩ := hg
  obtain ⟨its, rv, p, hz⟩ := I.tuple hq
  obtain ⟨f0, f1, f2, f3, f4, f5⟩ := hf it (by simp)
  have hl := rv.length
  exact wpAny_pyNext_tuple_end (I.ok.hd hc) st (show s.heap.IsTuple a its.toArray from p) (by simp; omega) λ h' eb => ⟨rfl, I.turned (t' := s.toks) (λ b o hb e => eb b o hb e) f0 f1 f3 f4 f5⟩
 self := λ _ _ _ _ _ st h => wpAny_pyIter_tupleiter st h
theorem turn_range {P : Program} {w : World} {K : Fg} {tg : Expr} (it : Addr) (lo : Int) (n : Nat) : Turn P w K tg (Itr lo n) [it] it (λ i h => IsRangeIter h it (lo + (i : Nat) * 1) ((n : Int) - (i : Nat)) 1) where
 mem := by simp
 obj := λ i h st b hb => by
  have e : b = it := by simpa using hb
  subst e
  exact ⟨_, st, λ v z => by
   have z' : Data.fields _ = Data.cell v := z
   cases z'⟩
 keep := λ i h h' st k => k it (by simp) _ st
 item := by
  intro X hP hw hK hc i pins s σ H E I hf st hg
  subst hP hw hK
  obtain ⟨f0, f1, f2, f3, f4, f5⟩ := hf it (by simp)
  have W := Walks.range (prog := X.prog) (w := X.w) (I.ok.hd hc) it lo 1 n
  refine W.item i s _ _ hg st λ v h' tk hv st' kk => ?_
  obtain ⟨t, rfl⟩ := hv
  have I1 : Inv X pins σ H { s with heap := h', toks := tk } := I.turned (λ b o hb e => kk b o (by simpa using hb) e) f0 f1 f3 f4 f5
  refine ⟨_, rfl, go_of (s := { s with heap := h', toks := tk }) (n := "range_iterator") st' rfl rfl (by decide) ⟨.int (lo + i), H, I1, ⟨t, ?_⟩, ⟨rfl, rfl⟩, st', λ b hb => (hf b hb).1⟩⟩
  rw [Int.mul_one]
 done := by
  intro X hP hw hK hc i pins s σ H E I hf st hg
  subst hP hw hK
  obtain ⟨f0, f1, f2, f3, f4, f5⟩ := hf it (by simp)
  exact wpAny_pyNext_range_end (I.ok.hd hc) st (by have : n <= i := hg; omega) λ h' eb => ⟨rfl, I.turned (t' := s.toks) (λ b o hb e => eb b o hb e) f0 f1 f3 f4 f5⟩
 self := λ _ _ _ _ _ st h => wpAny_pyIter_rangeiter st h
section
variable {X : Cx} {tg : Expr}
theorem range_it {pins : List (Addr × Obj)} {σ : St} {H : Hp} {s : Shared} {R : It -> Hp -> Prop} {E : Value -> Shared -> Prop} {lo hi : Int} {t u v : Tok} {tk : Nat} (I : Inv X pins σ H s) (h1 : -(2 ^ 62) <= lo) (h2 : lo < 2 ^ 62) (h3 : -(2 ^ 62) <= hi) (h4 : hi < 2 ^ 62)
 (q : R (Itr lo (hi - lo).toNat) H) : wpAny (model X.prog X.w) X.A (pyIter (.ref s.heap.objs.size)) (PIE X pins σ tg R) E { s with heap := s.heap.push { cls := .type "range", data := .fields #[.int lo t, .int hi u, .int 1 v] }, toks := tk } := by
 refine wpAny_pyIter_range (IsRange.new ..) (small_one h1 h2 h3 h4) ?_
 have I1 : Inv X pins σ H { s with heap := s.heap.push { cls := .type "range", data := .fields #[.int lo t, .int hi u, .int 1 v] }, toks := tk } := I.kept λ b o e => hPo _ e
 refine ⟨(s.heap.push { cls := .type "range", data := .fields #[.int lo t, .int hi u, .int 1 v] }).objs.size, [(s.heap.push { cls := .type "range", data := .fields #[.int lo t, .int hi u, .int 1 v] }).objs.size], _, _, H, rfl,
  I1.kept (t' := tk) λ b o e => hPo _ e, turn_range _ lo (hi - lo).toNat, ?_, λ b hb => ?_, q⟩
 · have e1 : lo + ((0 : Nat) : Int) * 1 = lo := by simp
   have e2 : (((hi - lo).toNat : Nat) : Int) - ((0 : Nat) : Int) = Builtin.Range.rangeSize lo hi 1 := by rw [rangeSize_one]; split <;> omega
   show IsRangeIter _ _ (lo + ((0 : Nat) : Int) * 1) ((((hi - lo).toNat : Nat) : Int) - ((0 : Nat) : Int)) 1
   rw [e1, e2]
   exact hPs _ rfl
 · have e : b = (s.heap.push { cls := .type "range", data := .fields #[.int lo t, .int hi u, .int 1 v] }).objs.size := by simpa using hb
   subst e
   exact I1.fpOk (Q1 _) (I1.hok.fresh (Q1 _))
def iRng1 (ta : TA) : TI := λ σ H R => ta σ H λ vs H1 => ∃ j : Int, vs = [.int j] /\ -(2 ^ 62) <= j /\ j < 2 ^ 62 /\ R (Itr 0 j.toNat) H1
theorem pi_range1 {a : Expr} {ta : TA} {p pos : Pos} (hg : Gl X "range") (hm : X.mg "range" = none) (ha : PA X [a] ta) (hs : starEach [a] X.env = [(false, eval a X.env)] := by rfl) : PI X tg (.Call (.Name "range" p) [a] [] pos) (iRng1 ta) := by
 intro pins s σ H R I h
 refine Call_ (ld_blt I hg hm boot_range (PyProof.Rows.callWith_type1 (thn (ha pos pins s σ H _ I h) λ us s1 q_ => ?_) hs rfl))
 obtain ⟨vs, H1, I1, r1, q1⟩ := q_
 obtain ⟨j, e, q1, q2, q⟩ := q1
 subst e
 cases r1 with
 | cons r rr =>
  cases rr
  obtain ⟨t, rfl⟩ := r
  exact call_range_1 (range_it I1 (by omega) (by omega) q1 q2 (by simpa using q))
def tFor (wi : TI) (g : TG) (tb : TS) : TS := λ D σ H => wi σ H λ J H1 => ∃ W : Nat -> Nat -> St -> Hp -> Prop, (∃ m, W 0 m σ H1) /\ ∀ i m σ H, W i m σ H ->
 (J.stop i H /\ D.nx σ H) \/ (J.go i H /\ ∃ N : St -> Hp -> Prop, (∀ σ' H', N σ' H' -> ∃ m', m' < m /\ W (i + 1) m' σ' H') /\ ∀ x H', J.yld i H x H' -> g x σ H' λ σ2 H2 => tb { D with nx := N, ct := N, bk := D.nx } σ2 H2)
noncomputable def pinsAt (fp : List Addr) (h : Heap) : List (Addr × Obj) := fp.filterMap λ b => (h.get? b).map λ o => (b, o)
theorem mem_pinsAt {fp : List Addr} {h : Heap} {b : Addr} {o : Obj} (hb : b ∈ fp) (e : h.get? b = some o) : (b, o) ∈ pinsAt fp h := List.mem_filterMap.mpr ⟨b, hb, by rw [e]; rfl⟩
theorem of_pinsAt {fp : List Addr} {h : Heap} {p : Addr × Obj} (hp : p ∈ pinsAt fp h) : p.1 ∈ fp /\ h.get? p.1 = some p.2 := by
 obtain ⟨b, hb, e⟩ := List.mem_filterMap.mp hp
 cases q : h.get? b with
 | none => rw [q] at e; cases e
 | some o =>
  rw [q] at e
  have e' : (b, o) = p := zV e
  subst e'
  exact ⟨hb, q⟩
theorem Inv.pinned {pins : List (Addr × Obj)} {σ : St} {H : Hp} {s : Shared} {fp : List Addr} (I : Inv X pins σ H s) (hf : ∀ b ∈ fp, FpOk X pins H b) (ho : ∀ b ∈ fp, ∃ o, s.heap.get? b = some o /\ ∀ v, o.data ≠ .cell v) : Inv X (pins ++ pinsAt fp s.heap) σ H s :=
 I.pins_of λ p hp => (Q25.mp hp).elim (λ z => I.pin p (Qd _ z)) λ z => by
  obtain ⟨hb, e⟩ := of_pinsAt z
  obtain ⟨f0, f1, f2, _⟩ := hf p.1 hb
  obtain ⟨o, e', d⟩ := ho p.1 hb
  rw [e] at e'; cases e'
  exact ⟨e, f0, f1, f2, d⟩
theorem Inv.unpinned {pins pl : List (Addr × Obj)} {σ : St} {H : Hp} {s : Shared} (I : Inv X (pins ++ pl) σ H s) : Inv X pins σ H s := I.pins_of λ p hp => I.pin p (Qd _ (List.mem_append_left _ hp))
theorem ps_for {iter : Expr} {body : List Stmt} {wi : TI} {g : TG} {tb : TS} {pos : Pos} (hp : PassesOwn (model X.prog X.w) X.A X.env X.xe) (hc : X.calm = true) (hi : PI X tg iter wi) (hg : PG X tg g) (hb : PSs X body tb)
 (hs : ∀ x, foldedSetIterable iter X.env x = pure x := by intro _; rfl) : PS X (.For tg iter body [] pos) (tFor wi g tb) := by
 intro pins s σ H D I h
 refine wpAny_For (thn (hi pins s σ H _ I h) λ v s1 h1 => thn h1 λ itv s2 h2 => ?_) hs
 obtain ⟨it, fp, tn, J, H2, e, I2, T, st2, f2, W, ⟨m0, w0⟩, turn⟩ := h2
 subst e
 have stat : ∀ {H' : Hp}, (∀ b ∈ fp, H' b = none) -> ∀ b ∈ fp, FpOk X pins H' b := λ hn b hb => ⟨hn b hb, (f2 b hb).2⟩
 refine codeAny_forLoop_any (λ n s' => ∃ i σ' H', Inv X pins σ' H' s' /\ tn i s'.heap /\ (∀ b ∈ fp, H' b = none) /\ W i n σ' H') ?_ m0 ⟨0, σ, H2, I2, st2, λ b hb => (f2 b hb).1, w0⟩
 rintro n s3 ⟨i, σ3, H3, I3, st3, fr3, w3⟩
 rcases turn i n σ3 H3 w3 with ⟨stop, qn⟩ | ⟨go, N, hN, step⟩
 · refine wpAny_passesOwn hp (thn (T.done X rfl rfl rfl hc i pins s3 σ3 H3 X.xe I3 (stat fr3) st3 stop) λ r s4 q_ => ?_)
   obtain ⟨hr, I4⟩ := q_
   subst hr
   exact wpAny_execs_nil ⟨σ3, H3, I4, qn⟩
 · refine wpAny_passesOwn hp (thn (T.item X rfl rfl rfl hc i pins s3 σ3 H3 X.xe I3 (stat fr3) st3 go) λ r s4 q_ => ?_)
   obtain ⟨u, hr, h4⟩ := q_
   subst hr
   refine wpAny_passesOwn hp (thn h4 λ _ s5 q_ => ?_)
   obtain ⟨x, H5, I5, r5, y5, st5, fr5⟩ := q_
   have I5' := I5.pinned (stat fr5) (T.obj _ _ st5)
   refine wpAny_passesOwn hp (thn (hg _ s5 σ3 H5 x u _ I5' r5 (step x H5 y5)) λ _ s6 q_ => ?_)
   obtain ⟨σ6, H6, I6, q6⟩ := q_
   refine wpAny_passesOwn hp (thn (hb _ s6 σ6 H6 _ I6 q6) λ f s7 q7 => ?_)
   have again : ∀ {σ7 : St} {H7 : Hp}, Inv X (pins ++ pinsAt fp s5.heap) σ7 H7 s7 -> N σ7 H7 -> ∃ m, m < n /\ ∃ i σ' H', Inv X pins σ' H' s7 /\ tn i s7.heap /\ (∀ b ∈ fp, H' b = none) /\ W i m σ' H' := λ {σ7 H7} I7 n7 => by
    obtain ⟨m', hm, w7⟩ := hN σ7 H7 n7
    refine ⟨m', hm, i + 1, σ7, H7, I7.unpinned, T.keep _ _ _ st5 λ b hb o e => (I7.pin (b, o) (Qd _ (Qd _ (mem_pinsAt hb e)))).1, λ b hb => ?_, w7⟩
    obtain ⟨o, e, d⟩ := T.obj _ _ st5 b hb
    exact (I7.pin (b, o) (Qd _ (Qd _ (mem_pinsAt hb e)))).2.1
   cases f with
   | next => obtain ⟨σ7, H7, I7, n7⟩ := q7; exact again I7 n7
   | cont => obtain ⟨σ7, H7, I7, n7⟩ := q7; exact again I7 n7
   | brk => obtain ⟨σ7, H7, I7, q7⟩ := q7; exact ⟨σ7, H7, I7.unpinned, q7⟩
   | ret v => obtain ⟨x7, σ7, H7, I7, r7, q7⟩ := q7; exact ⟨x7, σ7, H7, I7.unpinned, r7, q7⟩
end
noncomputable abbrev R2 := V -> V -> Hp -> VK -> Prop
def OpR (X : Cx) (f : Value -> Value -> Sem Value) (r : R2) : Prop :=
 ∀ (pins : List (Addr × Obj)) (s : Shared) (σ : St) (H : Hp) (x y : V) (v u : Value) (Q : VK), Inv X pins σ H s -> RelV x v -> RelV y u -> r x y H Q ->
  wpAny (model X.prog X.w) X.A (f v u) (EP X pins σ Q) X.xe s
def UnR (X : Cx) (f : Value -> Sem Value) (r : V -> Hp -> VK -> Prop) : Prop :=
 ∀ (pins : List (Addr × Obj)) (s : Shared) (σ : St) (H : Hp) (x : V) (v : Value) (Q : VK), Inv X pins σ H s -> RelV x v -> r x H Q ->
  wpAny (model X.prog X.w) X.A (f v) (EP X pins σ Q) X.xe s
def CallR (X : Cx) (f : Value) (r : List V -> Hp -> VK -> Prop) : Prop :=
 ∀ (pins : List (Addr × Obj)) (s : Shared) (σ : St) (H : Hp) (xs : List V) (us : List Value) (Q : VK), Inv X pins σ H s -> Vals xs us -> r xs H Q ->
  wpAny (model X.prog X.w) X.A (call f us) (EP X pins σ Q) X.xe s
def TruR (X : Cx) (r : V -> Hp -> (Bool -> Hp -> Prop) -> Prop) : Prop :=
 ∀ (pins : List (Addr × Obj)) (s : Shared) (σ : St) (H : Hp) (x : V) (v : Value) (Q : Bool -> Hp -> Prop), Inv X pins σ H s -> RelV x v -> r x H Q ->
  wpAny (model X.prog X.w) X.A (truthy v) (TP X pins σ Q) X.xe s
def tOp (r : R2) (ta tb : TE) : TE := λ σ H Q => ta σ H λ x H1 => tb σ H1 λ y H2 => r x y H2 Q
def tUn (r : V -> Hp -> VK -> Prop) (ta : TE) : TE := λ σ H Q => ta σ H λ x H1 => r x H1 Q
def rI (C : Int -> Int -> Prop) (g : Int -> Int -> V) : R2 := λ x y H Q => ∃ i j, x = .int i /\ y = .int j /\ C i j /\ Q (g i j) H
def rI0 (g : Int -> Int -> V) : R2 := λ x y H Q => ∃ i j, x = .int i /\ y = .int j /\ Q (g i j) H
def rU (g : Int -> V) : V -> Hp -> VK -> Prop := λ x H Q => ∃ i, x = .int i /\ Q (g i) H
section
variable {X : Cx} {a b c : Expr} {ta tb tc : TE} {pos : Pos}
theorem binT (ha : PE X a ta) (hb : PE X b tb) {pins : List (Addr × Obj)} {s : Shared} {σ : St} {H : Hp} {R : V -> V -> Hp -> Prop} (I : Inv X pins σ H s)
 (h : ta σ H λ x H1 => tb σ H1 λ y H2 => R x y H2) {Q : Value -> Shared -> Prop} {f : Value -> Value -> Sem Value}
 (hf : ∀ v u s2 x y H2, Inv X pins σ H2 s2 -> RelV x v -> RelV y u -> R x y H2 -> wpAny (model X.prog X.w) X.A (f v u) Q X.xe s2) :
 wpAny (model X.prog X.w) X.A (eval a X.env) (λ v s₁ => wpAny (model X.prog X.w) X.A (eval b X.env) (λ u s₂ => wpAny (model X.prog X.w) X.A (f v u) Q X.xe s₂) X.xe s₁) X.xe s := by
 refine thn (ha pins s σ H _ I h) λ v s1 q_ => ?_
 obtain ⟨x, H1, I1, r1, q1⟩ := q_
 refine thn (hb pins s1 σ H1 _ I1 q1) λ u s2 q_ => ?_
 obtain ⟨y, H2, I2, r2, q2⟩ := q_
 exact hf v u s2 x y H2 I2 r1 r2 q2
theorem pe_op {op : Operator} {r : R2} (ho : OpR X (binaryOp op) r) (ha : PE X a ta) (hb : PE X b tb) : PE X (.BinOp a op b pos) (tOp r ta tb) := by
 intro pins s σ H Q I h
 exact wpAny_BinOp (binT ha hb I h λ v u s2 x y H2 I2 rx ry q => ho pins s2 σ H2 x y v u Q I2 rx ry q)
theorem pe_un {op : UnaryOp} {r : V -> Hp -> VK -> Prop} (ho : UnR X (unaryOp op) r) (ha : PE X a ta) : PE X (.UnaryOp op a pos) (tUn r ta) := by
 intro pins s σ H Q I h
 exact UnaryOp_ (thn (ha pins s σ H _ I h) λ v s1 q_ => by obtain ⟨x, H1, I1, r1, q1⟩ := q_; exact ho pins s1 σ H1 x v Q I1 r1 q1)
theorem opI {f : Value -> Value -> Sem Value} {C : Int -> Int -> Prop} {g : Int -> Int -> Int}
 (rule : ∀ (i j : Int) (t u : Tok) (s : Shared) (Q : Value -> Shared -> Prop) (E : Value -> Shared -> Prop), C i j -> Q (.int (g i j) s.toks) { s with toks := s.toks + 1 } -> wpAny (model X.prog X.w) X.A (f (.int i t) (.int j u)) Q E s) :
 OpR X f (rI C λ i j => .int (g i j)) := by
 intro pins s σ H x y v u Q I rx ry h
 obtain ⟨i, j, rfl, rfl, hc, q⟩ := h
 obtain ⟨t, rfl⟩ := rx
 obtain ⟨t', rfl⟩ := ry
 exact rule i j t t' s _ _ hc ⟨.int (g i j), H, I.tok _, ⟨_, rfl⟩, q⟩
theorem opI0 {f : Value -> Value -> Sem Value} {g : Int -> Int -> Int}
 (rule : ∀ (i j : Int) (t u : Tok) (s : Shared) (Q : Value -> Shared -> Prop) (E : Value -> Shared -> Prop), Q (.int (g i j) s.toks) { s with toks := s.toks + 1 } -> wpAny (model X.prog X.w) X.A (f (.int i t) (.int j u)) Q E s) :
 OpR X f (rI0 λ i j => .int (g i j)) := by
 intro pins s σ H x y v u Q I rx ry h
 obtain ⟨i, j, rfl, rfl, q⟩ := h
 obtain ⟨t, rfl⟩ := rx
 obtain ⟨t', rfl⟩ := ry
 exact rule i j t t' s _ _ ⟨.int (g i j), H, I.tok _, ⟨_, rfl⟩, q⟩
theorem opB0 {f : Value -> Value -> Sem Value} {g : Int -> Int -> Bool}
 (rule : ∀ (i j : Int) (t u : Tok) (s : Shared) (Q : Value -> Shared -> Prop) (E : Value -> Shared -> Prop), Q (.bool (g i j)) s -> wpAny (model X.prog X.w) X.A (f (.int i t) (.int j u)) Q E s) :
 OpR X f (rI0 λ i j => .bl (g i j)) := by
 intro pins s σ H x y v u Q I rx ry h
 obtain ⟨i, j, rfl, rfl, q⟩ := h
 obtain ⟨t, rfl⟩ := rx
 obtain ⟨t', rfl⟩ := ry
 exact rule i j t t' s _ _ ⟨.bl (g i j), H, I, rfl, q⟩
def CMul (i j : Int) : Prop := (-(2 ^ 64) < i /\ i < 2 ^ 64) \/ (-(2 ^ 64) < j /\ j < 2 ^ 64)
theorem CMul.ok {i j : Int} (h : CMul i j) : IntMulOk i j := by
 rcases h with ⟨h1, h2⟩ | ⟨h1, h2⟩
 · exact .of_left (intBits_le_64 h1 h2)
 · exact .of_right (intBits_le_64 h1 h2)
theorem op_add : OpR X (binaryOp .Add) (rI0 λ i j => .int (i + j)) := opI0 λ _ _ _ _ _ _ _ q => add_int q
theorem op_sub : OpR X (binaryOp .Sub) (rI0 λ i j => .int (i - j)) := opI0 λ _ _ _ _ _ _ _ q => sub_int q
theorem op_mul : OpR X (binaryOp .Mult) (rI CMul λ i j => .int (i * j)) := opI λ _ _ _ _ _ _ _ hc q => mul_int q hc.ok
theorem op_mod : OpR X (binaryOp .Mod) (rI (λ _ j => 0 < j) λ i j => .int (i % j)) := opI λ i j _ _ _ _ _ hc q => by
 have h1 : (0 : Int) < j := hc
 exact mod_int' (by omega) (by rw [Int.fmod_eq_emod_of_nonneg i (by omega)]; exact q)
theorem iop_add : OpR X (inplaceOp .Add) (rI0 λ i j => .int (i + j)) := opI0 λ _ _ _ _ _ _ _ q => iadd_int q
theorem iop_mul : OpR X (inplaceOp .Mult) (rI CMul λ i j => .int (i * j)) := opI λ _ _ _ _ _ _ _ hc q => imul_int q hc.ok
theorem unI {f : Value -> Sem Value} {g : Int -> Int}
 (rule : ∀ (i : Int) (t : Tok) (s : Shared) (Q : Value -> Shared -> Prop) (E : Value -> Shared -> Prop), Q (.int (g i) s.toks) { s with toks := s.toks + 1 } -> wpAny (model X.prog X.w) X.A (f (.int i t)) Q E s) :
 UnR X f (rU λ i => .int (g i)) := by
 intro pins s σ H x v Q I rx h
 obtain ⟨i, rfl, q⟩ := h
 obtain ⟨t, rfl⟩ := rx
 exact rule i t s _ _ ⟨.int (g i), H, I.tok _, ⟨_, rfl⟩, q⟩
theorem un_neg : UnR X (unaryOp .USub) (rU λ i => .int (-i)) := unI λ _ _ _ _ _ q => neg_int q
end
section
variable {X : Cx} {a b c : Expr} {ta tb tc : TE} {pos : Pos}
theorem op_lt : OpR X (compareOp .Lt) (rI0 λ i j => .bl (decide (i < j))) := opB0 λ _ _ _ _ _ _ _ q => lt_int q
theorem op_le : OpR X (compareOp .LtE) (rI0 λ i j => .bl (decide (i <= j))) := opB0 λ _ _ _ _ _ _ _ q => le_int q
theorem op_gt : OpR X (compareOp .Gt) (rI0 λ i j => .bl (decide (j < i))) := opB0 λ _ _ _ _ _ _ _ q => gt_int q
theorem OpR.or {f : Value -> Value -> Sem Value} {r r' : R2} (h : OpR X f r) (h' : OpR X f r') : OpR X f (λ x y H Q => r x y H Q \/ r' x y H Q) := by
 intro pins s σ H x y v u Q I rx ry q
 rcases q with q | q
 · exact h pins s σ H x y v u Q I rx ry q
 · exact h' pins s σ H x y v u Q I rx ry q
theorem nomark (b : Expr) {op : CmpOp} (h : op ≠ .In := by decide) (h2 : op ≠ .NotIn := by decide) : behindInMarks op b = false := by
 have e1 : (op == CmpOp.In) = false := by cases op <;> first | rfl | exact absurd rfl h
 have e2 : (op == CmpOp.NotIn) = false := by cases op <;> first | rfl | exact absurd rfl h2
 cases b <;> simp [behindInMarks, e1, e2]
theorem pe_cmpR {op : CmpOp} {r : R2} (ho : OpR X (compareOp op) r) (ha : PE X a ta) (hb : PE X b tb) (hm : behindInMarks op b = false) : PE X (.Compare a [op] [b] pos) (tOp r ta tb) := by
 intro pins s σ H Q I h
 exact wpAny_Compare1 (binT ha hb I h λ v u s2 x y H2 I2 rx ry q => ho pins s2 σ H2 x y v u Q I2 rx ry q) hm
def tTest (t : TE) : TT := λ σ H Q => t σ H λ x H' => ∃ k, x = .bl k /\ Q k H'
theorem pt_cmpR {op : CmpOp} {r : R2} (ho : OpR X (compareOp op) r) (ha : PE X a ta) (hb : PE X b tb) (hm : behindInMarks op b = false) : PT X (.Compare a [op] [b] pos) (tTest (tOp r ta tb)) := by
 intro pins s σ H Q I h
 refine wpAny_isTrue_Compare1 (thn (ha pins s σ H _ I h) λ v s1 ⟨x, H1, I1, r1, q1⟩ => thn (hb pins s1 σ H1 _ I1 q1) λ u s2 ⟨y, H2, I2, r2, q2⟩ =>
  thn (ho pins s2 σ H2 x y v u _ I2 r1 r2 q2) λ c s3 ⟨z, H3, I3, r3, k, e, q3⟩ => ?_) hm
 subst e
 cases r3
 exact wpAny_truthy_bool ⟨H3, I3, q3⟩
def tChain (r r' : R2) (ta tb tc : TE) : TE := λ σ H Q => ta σ H λ x H1 => tb σ H1 λ y H2 => r x y H2 λ z H3 => ∃ k, z = .bl k /\
 (if k = true then tc σ H3 λ w' H4 => r' y w' H4 Q else Q (.bl false) H3)
theorem pe_chain {op op' : CmpOp} {r r' : R2} (ho : OpR X (compareOp op) r) (ho' : OpR X (compareOp op') r') (ha : PE X a ta) (hb : PE X b tb) (hc : PE X c tc)
 (hm : lastMarks [op, op'] [b, c] = false := by with_unfolding_all rfl) : PE X (.Compare a [op, op'] [b, c] pos) (tChain r r' ta tb tc) := by
 intro pins s σ H Q I h
 refine Compare_chain (thn (ha pins s σ H _ I h) λ v s1 ⟨x, H1, I1, r1, q1⟩ => chain_link (thn (hb pins s1 σ H1 _ I1 q1) λ u s2 ⟨y, H2, I2, r2, q2⟩ =>
  thn (ho pins s2 σ H2 x y v u _ I2 r1 r2 q2) λ d s3 ⟨z, H3, I3, r3, k, e, q3⟩ => ?_)) hm
 subst e
 cases r3
 refine wpAny_truthy_bool ?_
 cases k with
 | false => exact ite_ff ⟨.bl false, H3, I3, rfl, q3⟩
 | true => exact ite_tt (chain_last (thn (hc pins s3 σ H3 _ I3 q3) λ w' s4 q_ => by obtain ⟨z', H4, I4, r4, q4⟩ := q_; exact ho' pins s4 σ H4 y z' u w' Q I4 r2 r4 q4))
def TruV (K : Fg) (x : V) (H : Hp) (k : Bool) : Prop :=
 match x with
 | .non => k = false
 | .bl b => k = b
 | .int i => k = (i != 0)
 | .str y => y.length <= sizeLine /\ k = ((y.length : Int) != 0)
 | .byt y => y.size <= sizeLine /\ k = ((y.size : Int) != 0)
 | .ref p => (∃ xs, SqL K H p xs /\ k = !xs.isEmpty) \/ (∃ xs, SqT K H p xs /\ k = !xs.isEmpty) \/ ∃ kvs, H p = some (.dK kvs) /\ k = !kvs.isEmpty
 | _ => False
theorem isEmpty_kv {κ : Type} {kvs : List (κ × V)} {vs : List (κ × Value)} (r : KV kvs vs) : (!vs.isEmpty) = !kvs.isEmpty := by
 cases r <;> rfl
theorem isEmpty_of {xs : List V} {its : List Value} (r : Vals xs its) : (!its.toArray.isEmpty) = !xs.isEmpty := by
 cases r <;> simp
theorem line63 : (sizeLine : Nat) < 2 ^ 63 := by rw [sizeLine_eq]; decide
theorem tru_ok : TruR X (λ x H Q => ∃ k, TruV X.K x H k /\ Q k H) := by
 intro pins s σ H x v Q I rx h
 obtain ⟨k, e, q⟩ := h
 have hl := line63
 have hs : sizeLine = 16777216 := sizeLine_eq
 cases x with
 | non =>
  cases rx
  have e' : k = false := e
  subst e'
  exact truthy_none ⟨H, I, q⟩
 | bl b =>
  cases rx
  have e' : k = b := e
  subst e'
  exact wpAny_truthy_bool ⟨H, I, q⟩
 | int i =>
  obtain ⟨t, rfl⟩ := rx
  have e' : k = (i != 0) := e
  subst e'
  exact PySem.P.truthy_int ⟨H, I, q⟩
 | str y =>
  obtain ⟨t, rfl⟩ := rx
  obtain ⟨hy, e'⟩ : y.length <= sizeLine /\ k = ((y.length : Int) != 0) := e
  subst e'
  exact PySem.P.truthy_str (by omega) ⟨H, I.tok _, q⟩
 | byt y =>
  obtain ⟨t, rfl⟩ := rx
  obtain ⟨hy, e'⟩ : y.size <= sizeLine /\ k = ((y.size : Int) != 0) := e
  subst e'
  exact PySem.W.truthy_bytes (by omega) ⟨H, I.tok _, q⟩
 | ref p =>
  cases rx
  have e' : (∃ xs, SqL X.K H p xs /\ k = !xs.isEmpty) \/ (∃ xs, SqT X.K H p xs /\ k = !xs.isEmpty) \/ ∃ kvs, H p = some (.dK kvs) /\ k = !kvs.isEmpty := e
  rcases e' with ⟨xs, hx, e'⟩ | ⟨xs, hx, e'⟩ | ⟨kvs, hx, e'⟩
  · subst e'
    obtain ⟨its, r, pl, hz⟩ := I.list hx
    have hlen := r.length
    exact wpAny_truthy_list pl.isList (by simp only [zM]; omega) ⟨H, I.tok _, by rw [isEmpty_of r]; exact q⟩
  · subst e'
    obtain ⟨its, r, pl, hz⟩ := I.tuple hx
    have hlen := r.length
    exact truthy_tuple pl (by simp only [zM]; omega) ⟨H, I.tok _, by rw [isEmpty_of r]; exact q⟩
  · subst e'
    obtain ⟨hz, hS, vs, r, m⟩ : kvs.length <= sizeLine /\ (p == sysModules) = false /\ ∃ vs, KV kvs vs /\ s.heap.DictOf (mixKind X.prog X.w) p vs := I.hok p _ hx
    have hlen : kvs.length = vs.length := Paired.length r
    exact wpAny_truthy_dict hS m (by omega) ⟨H, I.tok _, by rw [isEmpty_kv r]; exact q⟩
 | _ => exact (show False from e).elim
theorem pt_truth (ha : PE X a ta) (he : ∀ whole, isTrue a X.env whole = (do let v <- whole; standAt a.pos; holding [v] (truthy v))) :
 PT X a (λ σ H Q => ta σ H λ x H' => ∃ k, TruV X.K x H' k /\ Q k H') := by
 intro pins s σ H Q I h
 exact isTrue_plain (thn (ha pins s σ H _ I h) λ v s1 q_ => by obtain ⟨x, H1, I1, r1, q1⟩ := q_; exact tru_ok pins s1 σ H1 x v Q I1 r1 q1) (he _)
theorem op_add_str : OpR X (binaryOp .Add) (λ x y H Q => ∃ i j, x = .str i /\ y = .str j /\ i.length + j.length <= sizeLine /\ Q (.str (i ++ j)) H) := by
 intro pins s σ H x y v u Q I rx ry h
 obtain ⟨i, j, rfl, rfl, hz, q⟩ := h
 obtain ⟨t, rfl⟩ := rx
 obtain ⟨t', rfl⟩ := ry
 exact add_str (λ t' tk => ⟨.str (i ++ j), H, I.tok _, ⟨_, rfl⟩, q⟩) hz
theorem vals1 {x : V} {us : List Value} (r : Vals [x] us) : ∃ u, us = [u] /\ RelV x u := by
 cases r with
 | cons r1 r2 => cases r2; exact ⟨_, rfl, r1⟩
def LenV (K : Fg) (x : V) (H : Hp) (n : Nat) : Prop :=
 match x with
 | .str y => y.length <= sizeLine /\ n = y.length
 | .byt y => y.size <= sizeLine /\ n = y.size
 | .ref p => (∃ xs, SqL K H p xs /\ n = xs.length) \/ ∃ xs, SqT K H p xs /\ n = xs.length
 | _ => False
theorem call_len : CallR X (.builtin "len") (λ xs H Q => ∃ x n, xs = [x] /\ LenV X.K x H n /\ Q (.int n) H) := by
 intro pins s σ H xs us Q I r h
 obtain ⟨x, n, rfl, e, q⟩ := h
 obtain ⟨u, rfl, rx⟩ := vals1 r
 have hl := line63
 have hs : sizeLine = 16777216 := sizeLine_eq
 cases x with
 | str y =>
  obtain ⟨t, rfl⟩ := rx
  obtain ⟨hy, e'⟩ : y.length <= sizeLine /\ n = y.length := e
  subst e'
  exact len_str (by omega) ⟨.int _, H, I.tok _, ⟨_, rfl⟩, q⟩
 | byt y =>
  obtain ⟨t, rfl⟩ := rx
  obtain ⟨hy, e'⟩ : y.size <= sizeLine /\ n = y.size := e
  subst e'
  exact PySem.W.len_bytes (by omega) ⟨.int _, H, I.tok _, ⟨_, rfl⟩, q⟩
 | ref p =>
  cases rx
  have e' : (∃ xs, SqL X.K H p xs /\ n = xs.length) \/ ∃ xs, SqT X.K H p xs /\ n = xs.length := e
  rcases e' with ⟨xs, hx, e'⟩ | ⟨xs, hx, e'⟩
  · subst e'
    obtain ⟨its, r', pl, hz⟩ := I.list hx
    have hlen := r'.length
    exact Calls.call_len_list pl.isList (by simp only [zM]; omega) ⟨.int xs.length, H, I.tok _, ⟨_, by simp only [zM]; rw [hlen]⟩, q⟩
  · subst e'
    obtain ⟨its, r', pl, hz⟩ := I.tuple hx
    have hlen := r'.length
    exact len_tuple pl (by simp only [zM]; omega) ⟨.int xs.length, H, I.tok _, ⟨_, by simp only [zM]; rw [hlen]⟩, q⟩
 | _ => exact (show False from e).elim
end
structure ObjM (h : Heap) (x dx C : Addr) (mA : Str -> Option Value) : Prop where
 obj : h.get? x = some (PySem.W.instObj C dx)
 ns : h.Ns1 dx mA
 ne : dx ≠ x
theorem lookIn_ns {h : Heap} {dx : Addr} {mA : Str -> Option Value} (n : h.Ns1 dx mA) : ∃ od, h.get? dx = some od /\ ∀ name, PySem.W.lookIn name od = some (mA name) := by
 obtain ⟨o, es, ep, ho, hd, hk, _, hm⟩ := n
 refine ⟨o, ho, λ name => ?_⟩
 have e := hm name
 unfold nsFind findBy at e
 rw [<- Array.find?_toList] at e
 unfold PySem.W.lookIn
 rw [hd]
 dsimp only
 split
 · rename_i y q
   rw [q] at e
   exact congrArg some e
 · rename_i q
   rw [q] at e
   have a : es.toList.any (·.refKey) = false := by
    rw [List.any_eq_false]
    intro y hy
    obtain ⟨z, t, hkey⟩ := hk y (Array.mem_toList_iff.mp hy)
    simp [DictEntry.refKey, hkey]
   have a' : ¬ es.toList.any (·.refKey) = true := by rw [a]; exact Q8
   rw [if_neg a']
   exact congrArg some e
theorem ObjM.look {h : Heap} {x dx C : Addr} {mA : Str -> Option Value} (I : ObjM h x dx C mA) : ∃ od, PySem.W.InstAt h x (PySem.W.instObj C dx) C (some od) /\ ∀ name, PySem.W.lookIn name od = some (mA name) :=
 let ⟨od, ho, hl⟩ := lookIn_ns I.ns
 ⟨od, ⟨I.obj, rfl, rfl, ho⟩, hl⟩
section
variable {prog : Program} {w : World} {A : Around} {E : Value -> Shared -> Prop} {s : Shared} {K : Fg} {x dx C f : Addr} {mA : Str -> Option Value} {name : Str} {v : Value}
end
theorem RelO.some_of {v : V} {o : Option Value} (r : RelO (some v) o) : ∃ u, o = some u /\ RelV v u := by
 cases o with
 | none => exact (show False from r).elim
 | some u => exact ⟨u, rfl, r⟩
section
variable {P : Program} {w : World} {H H' : Hp} {h h' : Heap} {a C dx : Addr} {fs fs' : List (Str × V)}
theorem ins_get (hok : HOk P w H h) (e : H a = some (.ins C dx fs)) : ∃ mA, ObjM h a dx C mA /\ (∀ f, RelO (fs.lookup f) (mA f)) /\ PySem.Within mA (fs.map (·.1)) /\ fs.length <= 1000 /\ H dx = some (.own a) := by
 obtain ⟨d, z, ne, ob, mA, n, r, q⟩ := (show ObjOk P w H h a (.ins C dx fs) from hok a _ e)
 exact ⟨mA, ⟨ob, n, ne⟩, r, q, z, d⟩
end
structure Cls (K : Fg) (C : Addr) : Prop where
 pg : PySem.W.plainGet K C Str.empty = true
 hd : PySem.W.hasDictIn K C = true
 po : PySem.W.plainOver K C = true
 sa : PySem.W.findIn K (.ref C) "__setattr__" = some (some (.builtin "object.__setattr__"))
theorem Cls.get {K : Fg} {C : Addr} (c : Cls K C) (f : Str) : PySem.W.plainGet K C f = true := c.pg
section
variable {X : Cx} {pins : List (Addr × Obj)} {σ : St} {H : Hp} {s : Shared} {a C dx : Addr} {fs : List (Str × V)} {f : Str} {v : V} {A : Around} {E : Value -> Shared -> Prop}
end
section
variable {X : Cx} {o e value : Expr} {f : Str} {pos pos' tpos : Pos} {ta tv : TE}
end
section
variable {X : Cx} {pins : List (Addr × Obj)} {σ : St} {H : Hp} {s : Shared} {A : Around} {E : Value -> Shared -> Prop} {Q : Value -> Shared -> Prop} {c : Value} {b : Bool}
inductive TyOf (K : Fg) (H : Hp) : V -> Value -> Prop where
 | non : TyOf K H .non (.type "NoneType")
 | bl (x : Bool) : TyOf K H (.bl x) (.type "bool")
 | int (i : Int) : TyOf K H (.int i) (.type "int")
 | str (x : Str) : TyOf K H (.str x) (.type "str")
 | flt (x : UInt64) : TyOf K H (.flt x) (.type "float")
 | lst {a : Addr} {xs : List V} (e : H a = some (.lst xs)) : TyOf K H (.ref a) (.type "list")
 | frz {a : Addr} {o : Obj} {xs : List V} (e : H a = some (.frz o (.lst xs))) : TyOf K H (.ref a) (.type "list")
 | tup {a : Addr} {xs : List V} (e : H a = some (.tup xs)) : TyOf K H (.ref a) (.type "tuple")
 | dK {a : Addr} {kvs : List (Key × V)} (e : H a = some (.dK kvs)) : TyOf K H (.ref a) (.type "dict")
 | dT {a : Addr} {kvs : List (List Key × V)} (e : H a = some (.dT kvs)) : TyOf K H (.ref a) (.type "dict")
 | ins {a C dx : Addr} {fs : List (Str × V)} (e : H a = some (.ins C dx fs)) (cl : Cls K C) (ha : PySem.W.findIn K (.ref C) "__class__" = some (some (.builtin "object.__class__")))
  (hn : PySem.W.specialIn K (.builtin "object.__class__") "__get__" = some (some (.builtin "getset_descriptor.__get__"))) (htk : PySem.W.takesIn K (.builtin "object.__class__") = some true)
  (hm : PySem.W.mroIn K C (.type "object") = some true) : TyOf K H (.ref a) (.ref C)
theorem isinst_ok {x : V} {u t : Value} (I : Inv X pins σ H s) (rx : RelV x u) (ty : TyOf X.K H x t) (e : PySem.W.kitOne X.K t c = some b) (h : ∀ tk, Q (.bool b) { s with toks := tk }) :
 wpAny (model X.prog X.w) A (call (.builtin "isinstance") [u, c]) Q E s := by
 cases ty with
 | non => cases (show u = Value.none from rx); exact PySem.W.kia_one PySem.W.kitx_none I.kIn True.intro e (λ z => nomatch z) h
 | bl y => cases (show u = Value.bool y from rx); exact PySem.W.kia_one PySem.W.kitx_bool I.kIn True.intro e (λ z => nomatch z) h
 | int i => obtain ⟨t, q⟩ := (show ∃ t, u = Value.int i t from rx); cases q; exact PySem.W.kia_one PySem.W.kitx_int I.kIn True.intro e (λ z => nomatch z) h
 | str y => obtain ⟨t, q⟩ := (show ∃ t, u = Value.str y t from rx); cases q; exact PySem.W.kia_one PySem.W.kitx_str I.kIn True.intro e (λ z => nomatch z) h
 | flt y => obtain ⟨t, q⟩ := (show ∃ t, u = Value.float y t from rx); cases q; exact PySem.W.kia_one PySem.W.kitx_float I.kIn True.intro e (λ z => nomatch z) h
 | @lst a xs ea =>
  cases (show u = Value.ref a from rx)
  obtain ⟨_, _, n, _, h1⟩ := (show ObjOk X.prog X.w H s.heap a (.lst xs) from I.hok a _ ea)
  exact PySem.W.kia_one PySem.W.kitx_list I.kIn ⟨_, h1, rfl⟩ e (λ z => nomatch z) h
 | @frz a ob xs ea =>
  cases (show u = Value.ref a from rx)
  obtain ⟨_, _, _, n, _, h1⟩ := (show ObjOk X.prog X.w H s.heap a (.frz ob (.lst xs)) from I.hok a _ ea)
  exact PySem.W.kia_one PySem.W.kitx_list I.kIn ⟨_, h1, rfl⟩ e (λ z => nomatch z) h
 | @tup a xs ea =>
  cases (show u = Value.ref a from rx)
  obtain ⟨_, _, _, p, _⟩ := (show ObjOk X.prog X.w H s.heap a (.tup xs) from I.hok a _ ea)
  obtain ⟨o, h1, h2, _⟩ := p
  exact PySem.W.kia_one PySem.W.kitx_tuple I.kIn ⟨o, h1, h2⟩ e (λ z => nomatch z) h
 | @dK a kvs ea =>
  cases (show u = Value.ref a from rx)
  obtain ⟨_, _, vs, _, p⟩ := (show ObjOk X.prog X.w H s.heap a (.dK kvs) from I.hok a _ ea)
  obtain ⟨o, es, ep, h1, h2, _⟩ := p
  exact PySem.W.kia_one PySem.W.kitx_dict I.kIn ⟨o, h1, h2.1⟩ e (λ z => nomatch z) h
 | @dT a kvs ea =>
  cases (show u = Value.ref a from rx)
  obtain ⟨_, _, xs, _, o, es, ep, h1, h2, _⟩ := (show ObjOk X.prog X.w H s.heap a (.dT kvs) from I.hok a _ ea)
  exact PySem.W.kia_one PySem.W.kitx_dict I.kIn ⟨o, h1, h2.1⟩ e (λ z => nomatch z) h
 | @ins a C dx fs ea cl ha hn htk hm =>
  cases (show u = Value.ref a from rx)
  obtain ⟨mA, O, _⟩ := ins_get I.hok ea
  obtain ⟨od, J, _⟩ := O.look
  exact PySem.W.kia_one (PySem.W.kitx_own (cl.get _) cl.hd ha hn htk hm) I.kIn J e (λ z => nomatch z) h
end
structure Room (k : Nat) (A : Around) : Prop where
 hd : A.handled = none
 dp : A.depth + 3 * k + 5 < recursionLimit
 un : A.units + 16 * k + 200 < cLine
theorem Room.mono {j k : Nat} {A : Around} (r : Room k A) (h : j <= k) : Room j A := ⟨r.hd, by have := r.dp; omega, by have := r.un; omega⟩
theorem Room.deeper {k : Nat} {A : Around} (r : Room (k + 1) A) (env : Env) : Room k (A.deeper env) :=
 ⟨r.hd, by have := r.dp; show A.depth + 1 + 3 * k + 5 < _; omega, by have := r.un; show A.units + 3 + 16 * k + 200 < _; omega⟩
theorem Room.in1 {k : Nat} {A : Around} (r : Room (k + 1) A) : Room k A.in1 :=
 ⟨r.hd, by have := r.dp; show A.depth + 3 * k + 5 < _; omega, by have := r.un; show A.units + 1 + 16 * k + 200 < _; omega⟩
theorem Room.depth {k : Nat} {A : Around} (r : Room k A) : A.depth < recursionLimit := by have := r.dp; omega
theorem Room.units {k : Nat} {A : Around} (r : Room k A) : A.units + 64 < cLine := by have := r.un; omega
def tNil : TA := λ _ H Q => Q [] H
def tCons (ta : TE) (tr : TA) : TA := λ σ H Q => ta σ H λ x H1 => tr σ H1 λ xs H2 => Q (x :: xs) H2
section
variable {X : Cx} {e : Expr} {es : List Expr} {te : TE} {t : TA} {pos : Pos}
theorem pa_nil : PA X [] tNil := λ _ _ _ _ H Q I h => Calls.spliced_nil ⟨[], H, I, .nil, h⟩
theorem pa_cons (ha : PE X e te) (hr : PA X es t) (hs : starEach (e :: es) X.env = (false, eval e X.env) :: starEach es X.env := by rfl) : PA X (e :: es) (tCons te t) := by
 intro pos pins s σ H Q I h
 rw [hs]
 show wpAny _ _ (spliced ((false, eval e X.env) :: backTo pos (starEach es X.env))) _ _ s
 refine Calls.spliced_cons (thn (ha pins s σ H _ I h) λ u s1 q_ => ?_)
 obtain ⟨x, H1, I1, r1, q1⟩ := q_
 exact thn (hr pos pins s1 σ H1 _ I1 q1) λ us s2 q_ => by obtain ⟨xs, H2, I2, r2, q2⟩ := q_; exact ⟨x :: xs, H2, I2, .cons r1 r2, q2⟩
def tTup (t : TA) : TE := λ σ H Q => t σ H λ xs H1 => xs.length <= sizeLine /\ ∀ p, H1 p = none -> Q (.ref p) (upd H1 p (.tup xs))
def tLst (t : TA) : TE := λ σ H Q => t σ H λ xs H1 => xs.length <= sizeLine /\ ∀ p, H1 p = none -> Q (.ref p) (upd H1 p (.lst xs))
theorem pe_tup {x1} (h : PA X es t) : PE X (.Tuple es x1 pos) (tTup t) := by
 intro pins s σ H Q I hq
 refine wpAny_Tuple_spliced (thn (h pos pins s σ H _ I hq) λ us s1 ⟨xs, H1, I1, r, z, q⟩ => ⟨by rw [<- r.length]; exact z, ?_⟩)
 have hf : H1 s1.heap.objs.size = none := I1.hok.fresh (Q1 _)
 refine ⟨.ref s1.heap.objs.size, upd H1 s1.heap.objs.size (.tup xs), I1.laid (t' := s1.toks) (λ b u e => hPo _ e) (Q1 _) ?_, rfl, q _ hf⟩
 exact ⟨z, us, r, ⟨_, hPs _ rfl, rfl, _, rfl⟩, _, hPs _ rfl, rfl⟩
theorem pe_lst (h : PA X es t) : PE X (.List es pos) (tLst t) := by
 intro pins s σ H Q I hq
 refine wpAny_List_spliced (thn (h pos pins s σ H _ I hq) λ us s1 ⟨xs, H1, I1, r, z, q⟩ => ⟨by rw [<- r.length]; exact z, ?_⟩)
 have hf : H1 s1.heap.objs.size = none := I1.hok.fresh (Q1 _)
 refine ⟨.ref s1.heap.objs.size, upd H1 s1.heap.objs.size (.lst xs), I1.laid (t' := s1.toks) (λ b u e => hPo _ e) (Q1 _) ?_, rfl, q _ hf⟩
 exact ⟨z, us, 0, r, hPs _ rfl⟩
end
noncomputable abbrev Sp := List V -> Hp -> VK -> XK -> Prop
noncomputable abbrev CXT := List Env -> Hp -> Shared -> XK -> Value -> Shared -> Prop
structure Env0 (P : Program) (w : World) (K : Fg) (mg : Str -> Option Value) (base : Heap) (A : Around) (outer : List Env) (s : Shared) (H : Hp) : Prop where
 frames : A.frames = some outer
 mod : Mod K mg base
 bs : ∀ b o, base.get? b = some o -> s.heap.get? b = some o /\ H b = none
 bsz : base.objs.size <= s.heap.objs.size
 funs : s.heap.FunFrames base outer
 frf : ∀ b ∈ frs outer, H b = none
 hok : HOk P w H s.heap
 bare : AllBare s.gens
def CE (outer : List Env) (P : Program) (w : World) (H : Hp) (s : Shared) (Q : VK) (u : Value) (s' : Shared) : Prop :=
 ∃ v H', s'.os = s.os /\ AllBare s'.gens /\ Un (frs outer) [] H H' s.heap s'.heap /\ HOk P w H' s'.heap /\ RelV v u /\ Q v H'
def CR (CX : CXT) (outer : List Env) (P : Program) (w : World) (H : Hp) (s : Shared) (Q : VK) (E : XK) (r : Result) (s' : Shared) : Prop :=
 match r with
 | .ok (.ret u) => CE outer P w H s Q u s'
 | .ok _ => False
 | .error e => CX outer H s E e s'
structure FnOk (P : Program) (w : World) (K : Fg) (mg : Str -> Option Value) (base : Heap) (CX : CXT) (k : Nat) (f : Addr) (fd : FuncData) (ps : List Str) (sp : Sp) : Prop where
 len : ∀ vs H Q E, sp vs H Q E -> vs.length = ps.length
 run : ∀ (A : Around) (outer : List Env) (s : Shared) (H : Hp) (args : Args) (us : List Value) (vs : List V) (Q : VK) (E : XK), Room k A -> Env0 P w K mg base A outer s H -> BindsTo s fd args (ps.zip us) -> Vals vs us -> sp vs H Q E ->
  codeAny (model P w) A (.call (.ref f) args) (CR CX outer P w H s Q E) s
section
variable {X : Cx} {pins : List (Addr × Obj)} {σ : St} {H : Hp} {s s' : Shared}
theorem Inv.env0 (I : Inv X pins σ H s) : Env0 X.prog X.w X.K X.mg X.base X.A X.stack s H :=
 ⟨I.ok.frames, I.ok.mod, I.bs, Qb I.ok.bsz I.sz, I.stack, I.stkFree, I.hok, I.bare⟩
theorem Inv.after {Q : VK} {u : Value} (I : Inv X pins σ H s) (h : CE X.stack X.prog X.w H s Q u s') : EP X pins σ Q u s' := by
 obtain ⟨v, H', os, bare, un, hok, r, q⟩ := h
 obtain ⟨hh, g, d, t, os'⟩ := s'
 obtain rfl : os' = s.os := os
 exact ⟨v, H', I.call (h' := hh) (g' := g) (d' := d) (t' := t) (ch := []) un hok bare (λ b z => absurd z (by simp)), r, q⟩
end
def tCall (sp : Sp) (dvs : List V) (E : XK) (t : TA) : TE := λ σ H Q => t σ H λ vs H1 => sp (vs ++ dvs) H1 Q E
def Binds (K : Fg) (fd : FuncData) (ps : List Str) (ds : List Value) : Prop :=
 ∀ (s : Shared) (us : List Value), K.In s.heap -> (us ++ ds).length = ps.length -> BindsTo s fd ⟨us, []⟩ (ps.zip (us ++ ds))
theorem Binds.all {K : Fg} {fd : FuncData} {ps : List Str} (h : ∀ us : List Value, us.length = ps.length -> bindArgs fd ⟨us, []⟩ = pure (ps.zip us)) : Binds K fd ps [] := λ s us _ hl => by
 rw [Q5] at hl ⊢
 exact .of_eq (h us hl)
def Passes (CX : CXT) (X : Cx) (E : XK) : Prop := ∀ (pins : List (Addr × Obj)) (σ : St) (H : Hp) (s : Shared) (e : Value) (s' : Shared), Inv X pins σ H s -> CX X.stack H s E e s' -> X.xe e s'
section
variable {X : Cx} {CX : CXT} {k : Nat} {f C : Addr} {fd : FuncData} {ps : List Str} {sp : Sp} {dvs : List V} {ds : List Value} {E : XK} {x m : Str} {p pos apos : Pos} {e o : Expr} {es : List Expr} {ta : TE} {t : TA}
theorem run_fn {pins : List (Addr × Obj)} {σ : St} {H : Hp} {s : Shared} {Q : VK} {us : List Value} {vs : List V} (F : FnOk X.prog X.w X.K X.mg X.base CX k f fd ps sp) (hr : Room k X.A) (hb : Binds X.K fd ps ds) (hd : Vals dvs ds) (hx : Passes CX X E)
 (I : Inv X pins σ H s) (r : Vals vs us) (h : sp (vs ++ dvs) H Q E) : wpAny (model X.prog X.w) X.A (call (.ref f) us) (EP X pins σ Q) X.xe s := by
 have r2 : Vals (vs ++ dvs) (us ++ ds) := r.append hd
 have hl : (us ++ ds).length = ps.length := by rw [<- r2.length]; exact F.len _ _ _ _ h
 refine wpAny_call (codeAny_mono (F.run X.A X.stack s H ⟨us, []⟩ (us ++ ds) (vs ++ dvs) Q E hr I.env0 (hb s us I.kIn hl) r2 h) λ r s' hq => ?_)
 cases r with
 | error e => exact hx pins σ H s e s' I hq
 | ok fl =>
  cases fl with
  | ret u => exact I.after hq
  | next => exact False.elim hq
  | brk => exact False.elim hq
  | cont => exact False.elim hq
theorem pe_call (F : FnOk X.prog X.w X.K X.mg X.base CX k f fd ps sp) (hr : Room k X.A) (hg : Gl X x) (hm : X.mg x = some (.ref f)) (hk : PySem.W.keepIn X.K (.ref f) = true) (hb : Binds X.K fd ps ds) (hd : Vals dvs ds) (hx : Passes CX X E)
 (ha : PA X (e :: es) t) (hdb : (x == ("__debug__" : Str)) = false := by decide) (he : starEach (e :: es) X.env = (false, eval e X.env) :: starEach es X.env := by rfl) (hpl : (backTo pos (starEach es X.env)).any (·.1) = false := by rfl) :
 PE X (.Call (.Name x p) (e :: es) [] pos) (tCall sp dvs E t) := by
 intro pins s σ H Q I h
 refine wpAny_Call_Name_kw (ld_glob I hg hm ?_ hdb)
 refine PySem.W.callWith_K (h₀ := X.base) I.ok.mod.kin hk (thn (ha pos pins s σ H _ I h) λ us s1 ⟨vs, H1, I1, r, q⟩ => ⟨I1.kIn, ?_⟩) he hpl
 exact run_fn F hr hb hd hx I1 r q
end
section
variable {X : Cx} {CX : CXT} {k : Nat} {f C : Addr} {fd : FuncData} {ps ks : List Str} {sp : Sp} {E : XK} {x m : Str} {p pos apos kpos : Pos} {e o : Expr} {es : List Expr} {kws : List Keyword} {te ta : TE} {t tk : TA} {nm : Option Str}
variable {g : List Value -> List Value -> List Value} {gV : List V -> List V -> List V}
end
structure FnScope (N P : List Str) (sc : Scope) : Prop where
 kind : sc.kind = .function
 co : sc.isCoroutine = false
 gen : sc.isGenerator = false
 nd : N.Nodup
 pre : N.take P.length = P
 par : ∀ x ∈ P, sc.names.lookup x = some .local \/ sc.names.lookup x = some .cell
 nofree : ∀ y ∈ sc.names, y.2 ≠ .free
theorem bindL_out {kindOf : Str -> Option NameKind} {x : Str} : ∀ {binds : List (Str × Value)} {m : Str -> Option Value}, (∀ v, (x, v) ∉ binds) -> bindL kindOf binds m x = m x
 | [], _, _ => rfl
 | (n, v) :: r, m, h => by
  unfold bindL
  rw [bindL_out λ w hw => h w (lMc _ hw)]
  split
  · have : x ≠ n := by rintro rfl; exact h v lMs
    simp [this]
  · rfl
theorem bindC_out {kindOf : Str -> Option NameKind} {x : Str} : ∀ {binds : List (Str × Value)} {m : Str -> Option Value}, (∀ v, (x, v) ∉ binds) -> bindC kindOf binds m x = m x
 | [], _, _ => rfl
 | (n, v) :: r, m, h => by
  unfold bindC
  rw [bindC_out λ w hw => h w (lMc _ hw)]
  split
  · rfl
  · have : x ≠ n := by rintro rfl; exact h v lMs
    simp [this]
theorem bindL_get {kindOf : Str -> Option NameKind} {x : Str} {v : Value} : ∀ {P : List Str} {vs : List Value} {i : Nat} {m : Str -> Option Value}, P.Nodup -> P[i]? = some x -> vs[i]? = some v -> kindOf x = some .local ->
 bindL kindOf (P.zip vs) m x = some v
 | [], _, _, _, _, h, _, _ => by simp at h
 | _ :: _, [], _, _, _, _, h, _ => by simp at h
 | p :: P, w :: vs, 0, m, nd, h1, h2, hk => by
  simp at h1 h2; subst h1; subst h2
  show bindL kindOf ((p, w) :: P.zip vs) m p = _
  unfold bindL
  rw [bindL_out λ v hv => (Q14.mp nd).1 (List.of_mem_zip hv).1, if_pos hk]
  simp
 | p :: P, w :: vs, i + 1, m, nd, h1, h2, hk => by
  show bindL kindOf ((p, w) :: P.zip vs) m x = _
  unfold bindL
  exact bindL_get (i := i) (Q14.mp nd).2 (by simpa using h1) (by simpa using h2) hk
theorem bindC_get {kindOf : Str -> Option NameKind} {x : Str} {v : Value} : ∀ {P : List Str} {vs : List Value} {i : Nat} {m : Str -> Option Value}, P.Nodup -> P[i]? = some x -> vs[i]? = some v -> kindOf x ≠ some .local ->
 bindC kindOf (P.zip vs) m x = some v
 | [], _, _, _, _, h, _, _ => by simp at h
 | _ :: _, [], _, _, _, _, h, _ => by simp at h
 | p :: P, w :: vs, 0, m, nd, h1, h2, hk => by
  simp at h1 h2; subst h1; subst h2
  show bindC kindOf ((p, w) :: P.zip vs) m p = _
  unfold bindC
  rw [bindC_out λ v hv => (Q14.mp nd).1 (List.of_mem_zip hv).1, if_neg hk]
  simp
 | p :: P, w :: vs, i + 1, m, nd, h1, h2, hk => by
  show bindC kindOf ((p, w) :: P.zip vs) m x = _
  unfold bindC
  exact bindC_get (i := i) (Q14.mp nd).2 (by simpa using h1) (by simpa using h2) hk
def start (N : List Str) (vs : List V) : St := vs.map some ++ List.replicate (N.length - vs.length) none
noncomputable def cxOf (CX : CXT) (P : Program) (w : World) (K : Fg) (mg : Str -> Option Value) (base : Heap) (N : List Str) (qual : Str) (scope : Scope) (f : Addr) (cd : Value) (A : Around) (outer : List Env) (s : Shared) (H : Hp) (E : XK) : Cx where
 prog := P
 w := w
 K := K
 mg := mg
 base := base
 A := A.deeper (envOfC qual scope s.heap.objs.size f cd)
 N := N
 s₀ := s
 H₀ := H
 env := envOfC qual scope s.heap.objs.size f cd
 outer := outer
 stack := envOfC qual scope s.heap.objs.size f cd :: outer
 ex := []
 calm := true
 fn := λ _ => true
 pn := []
 xe := λ e s' => wpAny (model P w) (A.deeper (envOfC qual scope s.heap.objs.size f cd)) (leaving (envOfC qual scope s.heap.objs.size f cd) e) (λ _ s'' => CX outer H s E e s'') (λ e' s'' => CX outer H s E e' s'') s'
theorem cell_has {sc : Scope} {n : Nat} {x : Str} (h : sc.names.lookup x = some .cell) : ∃ c, (cellsFrom n sc.names []).lookup x = some c := by
 have q := PySem.W.cellsFrom_some sc.names n [] (.inl h)
 exact Option.isSome_iff_exists.mp q
theorem inv_start {CX : CXT} {P : Program} {w : World} {K : Fg} {mg : Str -> Option Value} {base : Heap} {N ps : List Str} {qual : Str} {scope : Scope} {f : Addr} {cd : Value} {A : Around} {outer : List Env} {s s1 : Shared} {H : Hp} {E : XK} {us : List Value} {vs : List V}
 (S : FnScope N ps scope) (hd : A.handled = none) (e0 : Env0 P w K mg base A outer s H) (hl : vs.length = ps.length) (r : Vals vs us)
 (x : InCallC s s.heap.objs.size (bindL (envOfC qual scope s.heap.objs.size f cd).kindOf (ps.zip us) λ _ => none) (cellsFrom (s.heap.objs.size + 1) scope.names []) (bindC (envOfC qual scope s.heap.objs.size f cd).kindOf (ps.zip us) λ _ => none) s1) :
 Inv (cxOf CX P w K mg base N qual scope f cd A outer s H E) [] (start N vs) H s1 := by
 have hpl : ps.length <= N.length := by have := congrArg List.length S.pre; rw [Q24] at this; omega
 obtain ⟨h1, tk, rfl, hk⟩ := x.done
 have noA : ∀ b : Addr, b ∉ (cxOf CX P w K mg base N qual scope f cd A outer s H E).ex := λ b z => absurd (show b ∈ ([] : List Addr) from z) (by simp)
 refine ⟨⟨e0.mod, S.kind, rfl, rfl, Q1 _, λ y z c h1 h2 => ?_, λ y hy => ?_, λ y c _ h => ?_, λ _ => hd, Around.frames_deeper e0.frames, .inr ⟨rfl, rfl⟩, λ b z => absurd z (noA b), e0.bs, e0.bsz, λ b _ _ => noA b, λ b z => absurd z (noA b), e0.funs, e0.frf⟩,
  rfl, e0.bare, Un.kept hk, ⟨_, x.toInCall.ns, λ i y v h1 h2 h3 => ?_⟩, λ y c h => ⟨_, x.cell y c h⟩, e0.hok.fresh (Q1 _), λ y c h => ?_, λ p hp => absurd (show p ∈ ([] : List (Addr × Obj)) from hp) (by simp), e0.hok.kept hk, ?_⟩
 · exact name_of_addr x.apart (PySem.mem_of_lookup h1) (PySem.mem_of_lookup h2)
 · have hy : scope.names.lookup y = some .cell \/ scope.names.lookup y = some .free := hy
   rcases hy with hy | hy
   · exact cell_has hy
   · exact absurd rfl (S.nofree _ (PySem.mem_of_lookup hy))
 · exact nLe (x.above y c (PySem.mem_of_lookup h))
 · have hi : i < vs.length := by
    unfold start at h2
    by_cases hi : i < vs.length
    · exact hi
    · rw [Q7 (by simpa using hi)] at h2
      rw [Qa] at h2
      split at h2 <;> cases h2
   have ha : vs[i]? = some v := by
    unfold start at h2
    rw [Q6 (by simpa using hi), zK] at h2
    cases e : vs[i]? with
    | none => rw [e] at h2; cases h2
    | some a => rw [e] at h2; cases h2; rfl
   obtain ⟨u, hu, rv⟩ := r.get ha
   have hp : ps[i]? = some y := by
    rw [<- S.pre, List.getElem?_take_of_lt (by omega)]; exact h1
   have ndP : ps.Nodup := by rw [<- S.pre]; exact S.nd.sublist (List.take_sublist _ _)
   refine ⟨u, rv, ?_⟩
   rcases S.par y (Q1e hp) with k | k
   · exact .inl ⟨k, bindL_get ndP hp hu k⟩
   · obtain ⟨c, e⟩ := cell_has (n := s.heap.objs.size + 1) k
     refine .inr ⟨.inl k, c, e, ?_⟩
     have q := x.cell y c e
     rw [bindC_get ndP hp hu (by show scope.names.lookup y ≠ _; rw [k]; decide)] at q
     exact q
 · exact e0.hok.fresh (nLe (x.above y c (PySem.mem_of_lookup h)))
 · unfold start
   show _ = N.length
   rw [zQ, zJ, Q1a]
   omega
theorem fn_of {CX : CXT} {P : Program} {w : World} {K : Fg} {mg : Str -> Option Value} {base : Heap} {k : Nat} {f : Addr} {name qual : Str} {params : Arguments} {body : List Stmt} {scope : Scope} {dV kV doc pm cdv ct oc : Value} {an od : Option Addr}
 {osl : Array (Option Value)} {N ps : List Str} {sp : Sp} (lk : K.lookup f = some ⟨oc, od, .func (PySem.W.fnOf name qual params body scope dV kV doc pm an cdv ct), osl⟩) (hcd : PySem.W.codeIn K cdv qual = true) (S : FnScope N ps scope)
 (len : ∀ vs H Q E, sp vs H Q E -> vs.length = ps.length)
 (hbody : ∀ (A : Around) (outer : List Env) (s : Shared) (H : Hp) (vs : List V) (Q : VK) (E : XK), Room k (A.deeper (envOfC qual scope s.heap.objs.size f cdv)) -> sp vs H Q E ->
  ∃ t, PSs (cxOf CX P w K mg base N qual scope f cdv A outer s H E) body t /\ t { nx := λ _ H' => Q .non H', rt := Q } (start N vs) H) :
 FnOk P w K mg base CX (k + 1) f (PySem.W.fnOf name qual params body scope dV kV doc pm an cdv ct) ps sp := by
 refine ⟨len, λ A outer s H args us vs Q E hr e0 hb r hsp => ?_⟩
 have hl := len _ _ _ _ hsp
 have KX : K.In s.heap := e0.mod.kin.keeps λ b o e => (e0.bs b o e).1
 have lim : s.heap.NoLimit := e0.mod.nolimit.keeps λ b o e => (e0.bs b o e).1
 have hkind : ∀ y ∈ ps.zip us, scope.names.lookup y.1 = some .local \/ (scope.names.lookup y.1 = some .cell /\ ((cellsFrom (s.heap.objs.size + 1) scope.names []).lookup y.1).isSome = true) := λ ⟨n, v⟩ hy => by
  rcases S.par n (List.of_mem_zip hy).1 with q | q
  · exact .inl q
  · exact .inr ⟨q, PySem.W.cellsFrom_some _ _ _ (.inl q)⟩
 refine codeAny_call_function hr.depth (KX _ _ lk) rfl S.co S.gen rfl (PySem.W.codeRec_of KX hcd) (hb _ _ _ _ ?_)
 refine wpAny_newFunctionEnv_cells S.kind hkind λ env he s1 x => ?_
 subst he
 refine ⟨lim.keeps x.toInCall.keep, codeAny_func ?_⟩
 obtain ⟨t, ht, hq⟩ := hbody A outer s H vs Q E (hr.deeper _) hsp
 have I : Inv (cxOf CX P w K mg base N qual scope f cdv A outer s H E) [] (start N vs) H s1 := inv_start S hr.hd e0 hl r x
 refine wpAny_mono (ht [] s1 (start N vs) H _ I hq) (λ fl s' hs => ?_) λ e s' hs => hs
 have fin : ∀ {σ' : St} {H' : Hp} {v : V} {u : Value}, Inv (cxOf CX P w K mg base N qual scope f cdv A outer s H E) [] σ' H' s' -> RelV v u -> Q v H' -> CE outer P w H s Q u s' :=
  λ {σ' H' v u} J rv q => ⟨v, H', J.os, J.bare, J.base, J.hok, rv, q⟩
 cases fl with
 | ret u =>
  obtain ⟨v, σ', H', J, rv, q⟩ := hs
  exact fin J rv q
 | next =>
  obtain ⟨σ', H', J, q⟩ := hs
  exact fin (v := V.non) (u := Value.none) J rfl q
 | brk =>
  obtain ⟨_, _, _, q⟩ := hs
  exact False.elim q
 | cont =>
  obtain ⟨_, _, _, q⟩ := hs
  exact False.elim q
section
variable {X : Cx} {x : Str} {p pos : Pos} {e : Expr} {es : List Expr} {t : TA} {id T : String} {r : List V -> Hp -> VK -> Prop}
def tCB (r : List V -> Hp -> VK -> Prop) (t : TA) : TE := λ σ H Q => t σ H λ vs H1 => r vs H1 Q
theorem pe_callB (hc : CallR X (.builtin id) r) (hg : Gl X x) (hm : X.mg x = none) (hv : bootBuiltins x = some (.builtin id)) (ha : PA X (e :: es) t) (hn : x ≠ "__name__" := by decide) (hdb : (x == ("__debug__" : Str)) = false := by decide)
 (he : starEach (e :: es) X.env = (false, eval e X.env) :: starEach es X.env := by rfl) (hpl : (backTo pos (starEach es X.env)).any (·.1) = false := by rfl) : PE X (.Call (.Name x p) (e :: es) [] pos) (tCB r t) := by
 intro pins s σ H Q I h
 refine wpAny_Call_Name_kw (ld_blt I hg hm hv ?_ hn hdb)
 exact PyProof.Rows.callWith_builtin1 (thn (ha pos pins s σ H _ I h) λ us s1 q_ => by obtain ⟨vs, H1, I1, r1, q1⟩ := q_; exact hc pins s1 σ H1 vs us Q I1 r1 q1) he hpl
theorem pe_callTy (hc : CallR X (.type T) r) (hg : Gl X x) (hm : X.mg x = none) (hv : bootBuiltins x = some (.type T)) (ha : PA X (e :: es) t) (hn : x ≠ "__name__" := by decide) (hdb : (x == ("__debug__" : Str)) = false := by decide)
 (he : starEach (e :: es) X.env = (false, eval e X.env) :: starEach es X.env := by rfl) (hpl : (backTo pos (starEach es X.env)).any (·.1) = false := by rfl) : PE X (.Call (.Name x p) (e :: es) [] pos) (tCB r t) := by
 intro pins s σ H Q I h
 refine wpAny_Call_Name_kw (ld_blt I hg hm hv ?_ hn hdb)
 exact PyProof.Rows.callWith_type1 (thn (ha pos pins s σ H _ I h) λ us s1 q_ => by obtain ⟨vs, H1, I1, r1, q1⟩ := q_; exact hc pins s1 σ H1 vs us Q I1 r1 q1) he hpl
end
end L2
namespace HT
open PySem PyProof.Rows
section
open PySem.SeqAt
open PySem.AutoSeq1 (wpAny_loadPart')
open PySem.MeetsSeq PySem.MeetsSeq2 PySem.MeetsSeq3
end
section
variable {prog : Program} {w : World} {A : Around} {E : Value -> Shared -> Prop} {s : Shared}
theorem cat_tup {t b : Addr} {vs ws : List Value} {Q : Value -> Shared -> Prop} (ht : IsTup s.heap t vs.toArray) (hb : IsTup s.heap b ws.toArray) (hv : vs ≠ [])
 (h1 : ws = [] -> Q (.ref t) s) (h2 : ws ≠ [] -> Q (.ref s.heap.objs.size) { s with heap := s.heap.push { cls := .type "tuple", data := .seq (vs ++ ws).toArray } })
 (hsz : vs.length + ws.length <= sizeLine) : wpAny (model prog w) A (binaryOp .Add (.ref t) (.ref b)) Q E s := by
 obtain ⟨⟨cls, dd, data, sl⟩, ho, hc, n, hd⟩ := id ht
 obtain ⟨⟨cls2, dd2, data2, sl2⟩, ho2, hc2, n2, hd2⟩ := id hb
 simp only at hc hd hc2 hd2
 subst hc hd hc2 hd2
 have e : vs.toArray ++ ws.toArray = (vs ++ ws).toArray := by simp
 by_cases hw : ws = []
 · exact concat_meets ⟨_, ho, rfl⟩ ⟨_, ho2, rfl⟩ noFill_tuple_add seq_tuple_add PySem.F.slot_tuple_add PySem.F.entry_tuple_add (PySem.F.args_tuple_add_2 _ _)
    (tuple_addW1 t b vs.toArray ws.toArray n n2 dd dd2 sl sl2 (by simpa using hv) (by simp [hw])) ⟨ho, ho2, h1 hw⟩
 · refine concat_meets ⟨_, ho, rfl⟩ ⟨_, ho2, rfl⟩ noFill_tuple_add seq_tuple_add PySem.F.slot_tuple_add PySem.F.entry_tuple_add (PySem.F.args_tuple_add_2 _ _)
    (tuple_addW2 t b vs.toArray ws.toArray n n2 dd dd2 sl sl2 (by simpa using hv) (by simpa using hw) (by rw [zM, zM]; exact hsz)) ⟨ho, ho2, ?_⟩
   rw [e]
   exact h2 hw
end
end HT
namespace L2
open PySem PySem.Spec PyProof.Rows
noncomputable abbrev TO := St -> Hp -> (Option Int -> Hp -> Prop) -> Prop
section
variable {X : Cx} {e : Expr} {te : TE} {lo hi : Option Expr} {tl th : TO} {pos p2 : Pos}
def rCatT (K : Fg) : R2 := λ x y H Q => ∃ a b xs ys, x = .ref a /\ y = .ref b /\ SqT K H a xs /\ SqT K H b ys /\ xs ≠ [] /\ xs.length + ys.length <= sizeLine /\
 (ys = [] -> Q (.ref a) H) /\ (ys ≠ [] -> ∀ p, H p = none -> Q (.ref p) (upd H p (.tup (xs ++ ys))))
theorem Vals.nil_iff {xs : List V} {us : List Value} (r : Vals xs us) : us = [] ↔ xs = [] := by
 cases r with
 | nil => simp
 | cons _ _ => simp
theorem op_catT : OpR X (binaryOp .Add) (rCatT X.K) := by
 intro pins s σ H x y v u Q I rx ry h
 obtain ⟨a, b, xs, ys, rfl, rfl, ha, hb, hx, hz, q1, q2⟩ := h
 cases rx
 cases ry
 obtain ⟨its, r1, p1, _⟩ := I.tuple ha
 obtain ⟨its2, r2, p2, _⟩ := I.tuple hb
 refine HT.cat_tup p1 p2 (λ z => hx (r1.nil_iff.mp z)) (λ z => ⟨.ref a, H, I, rfl, q1 (r2.nil_iff.mp z)⟩) (λ z => ?_) (by rw [<- r1.length, <- r2.length]; exact hz)
 refine ⟨.ref s.heap.objs.size, _, I.laid (t' := s.toks) (o := .tup (xs ++ ys)) (λ b ob q => hPo _ q) (Q1 _) ?_, rfl, q2 (λ w => z (r2.nil_iff.mpr w)) _ (I.hok.fresh (Q1 _))⟩
 exact ⟨by rw [zQ]; exact hz, _, r1.append r2, IsTup.new _ _, _, hPs _ rfl, rfl⟩
end
noncomputable def ixN (n : Nat) (i : Int) : Option Nat := if 0 <= i then (if i < n then some i.toNat else none) else if -(n : Int) <= i then some (i + n).toNat else none
noncomputable def atI {α : Type} (xs : List α) (i : Int) : Option α := (ixN xs.length i).bind λ j => xs[j]?
theorem ixN_seq {n : Nat} {i : Int} {j : Nat} (h : ixN n i = some j) : seqIndex? i n = some j /\ j < n /\ -(n : Int) <= i /\ i < n := by
 unfold ixN at h
 by_cases h0 : 0 <= i
 · rw [if_pos h0] at h
   by_cases h1 : i < n
   · rw [if_pos h1] at h
     have e : i.toNat = j := zV h
     exact ⟨by rw [seqIndex_of h0 h1, e], by omega, by omega, h1⟩
   · rw [if_neg h1] at h; cases h
 · rw [if_neg h0] at h
   by_cases h1 : -(n : Int) <= i
   · rw [if_pos h1] at h
     have e : (i + n).toNat = j := zV h
     exact ⟨by rw [seqIndex_neg (by omega) h1, e], by omega, h1, by omega⟩
   · rw [if_neg h1] at h; cases h
theorem atI_get {α : Type} {xs : List α} {i : Int} {v : α} (h : atI xs i = some v) : ∃ j, seqIndex? i xs.length = some j /\ xs[j]? = some v /\ j < xs.length /\ -(xs.length : Int) <= i /\ i < xs.length := by
 unfold atI at h
 cases e : ixN xs.length i with
 | none => rw [e] at h; cases h
 | some j =>
  rw [e] at h
  obtain ⟨h1, h2, h3, h4⟩ := ixN_seq e
  exact ⟨j, h1, h, h2, h3, h4⟩
theorem atI_nat {α : Type} {xs : List α} {j : Nat} {v : α} (h : xs[j]? = some v) : atI xs (j : Int) = some v := by
 have hj : j < xs.length := (Q10.mp h).1
 have e : ixN xs.length (j : Int) = some j := by
  unfold ixN
  rw [if_pos (by omega), if_pos (by omega)]; simp
 unfold atI; rw [e]; exact h
def PlainIx (b : Expr) : Prop := ∀ o i, subscripted b false o i = operate [o, i] (getItem o i)
def IxR (X : Cx) (r : R2) : Prop :=
 ∀ (value slice : Expr) (pins : List (Addr × Obj)) (s : Shared) (σ : St) (H : Hp) (x y : V) (v u : Value) (Q : VK), Inv X pins σ H s -> RelV x v -> RelV y u -> r x y H Q ->
  subscripted slice false v u = operate [v, u] (getItem v u) -> wpAny (model X.prog X.w) X.A (subscriptTail value slice v u) (EP X pins σ Q) X.xe s
def MtR (X : Cx) (id : String) (r : V -> List V -> Hp -> VK -> Prop) : Prop :=
 ∀ (pins : List (Addr × Obj)) (s : Shared) (σ : St) (H : Hp) (x : V) (xs : List V) (v : Value) (us : List Value) (Q : VK), Inv X pins σ H s -> RelV x v -> Vals xs us -> r x xs H Q ->
  wpAny (model X.prog X.w) X.A (call (.builtin id) (v :: us)) (EP X pins σ Q) X.xe s
section
variable {X : Cx} {a b : Expr} {ta tb : TE} {pos : Pos}
theorem IxR.or {r r' : R2} (h : IxR X r) (h' : IxR X r') : IxR X (λ x y H Q => r x y H Q \/ r' x y H Q) := by
 intro value slice pins s σ H x y v u Q I rx ry q hs
 rcases q with q | q
 · exact h value slice pins s σ H x y v u Q I rx ry q hs
 · exact h' value slice pins s σ H x y v u Q I rx ry q hs
theorem pe_ix {r : R2} (hr : IxR X r) (ha : PE X a ta) (hb : PE X b tb) (hs : PlainIx b) : PE X (.Subscript a b pos) (tOp r ta tb) := by
 intro pins s σ H Q I h
 exact Subscript_ (binT ha hb I h λ v u s2 x y H2 I2 rx ry q => hr a b pins s2 σ H2 x y v u Q I2 rx ry q (hs _ _))
def rIxL (K : Fg) : R2 := λ x y H Q => ∃ p xs i v, x = .ref p /\ y = .int i /\ SqL K H p xs /\ atI xs i = some v /\ Q v H
def rIxT (K : Fg) : R2 := λ x y H Q => ∃ p xs i v, x = .ref p /\ y = .int i /\ SqT K H p xs /\ atI xs i = some v /\ Q v H
def rIxS : R2 := λ x y H Q => ∃ z i c, x = .str z /\ y = .int i /\ z.length <= sizeLine /\ atI z.cps.toList i = some c /\ Q (.str ⟨#[c]⟩) H
theorem ix_list : IxR X (rIxL X.K) := by
 intro value slice pins s σ H x y v u Q I rx ry h hs
 obtain ⟨p, xs, i, z, rfl, rfl, hq, he, q⟩ := h
 cases rx
 obtain ⟨t, rfl⟩ := ry
 obtain ⟨its, r, pl, hz⟩ := I.list hq
 obtain ⟨j, h1, h2, h3, h4, h5⟩ := atI_get he
 obtain ⟨w, ew, rw'⟩ := r.get h2
 have hl := r.length
 have hn := line63
 have fin : EP X pins σ Q w s := ⟨z, H, I, rw', q⟩
 by_cases h0 : 0 <= i
 · have hj : i.toNat = j := by
    rw [seqIndex_of h0 h5] at h1
    exact zV h1
   exact item_listR pl.isList h0 (by omega) (by rw [hj]; simpa using ew) fin hs
 · have hj : (i + (its.toArray.size : Int)).toNat = j := by
    rw [seqIndex_neg (by omega) h4] at h1
    rw [zM, <- hl]
    exact zV h1
   exact subscriptTail_builtinR (x := w) pl.isList.typeIs slot_list_getitem.lookup
    (wpAny_getItem_list_neg (Q := λ r s' => r = w /\ EP X pins σ Q r s') pl.isList (by omega) (by rw [zM] <;> omega) (by omega) (by rw [hj]; simpa using ew) ⟨rfl, fin⟩) hs
theorem ix_tup : IxR X (rIxT X.K) := by
 intro value slice pins s σ H x y v u Q I rx ry h hs
 obtain ⟨p, xs, i, z, rfl, rfl, hq, he, q⟩ := h
 cases rx
 obtain ⟨t, rfl⟩ := ry
 obtain ⟨its, r, pl, hz⟩ := I.tuple hq
 obtain ⟨j, h1, h2, h3, h4, h5⟩ := atI_get he
 obtain ⟨w, ew, rw'⟩ := r.get h2
 have hl := r.length
 have hn := line63
 have fin : EP X pins σ Q w s := ⟨z, H, I, rw', q⟩
 exact subscriptTail_builtinR (x := w) pl.typeIs slot_tuple_getitem.lookup
  (getItem_tuple (j := j) (Q := λ r s' => r = w /\ EP X pins σ Q r s') pl (by omega) (by omega) (by rw [zM, <- hl]; exact h1) (by simpa using ew) ⟨rfl, fin⟩) hs
theorem ix_str : IxR X rIxS := by
 intro value slice pins s σ H x y v u Q I rx ry h hs
 obtain ⟨z, i, c, rfl, rfl, hz, he, q⟩ := h
 obtain ⟨t, rfl⟩ := rx
 obtain ⟨t', rfl⟩ := ry
 obtain ⟨j, h1, h2, h3, h4, h5⟩ := atI_get he
 have hl : z.cps.toList.length = z.length := by simp [Str.length]
 rw [hl] at h1 h4 h5
 have hn := line63
 exact tail_any (typeIs_str s z t) slot_str_getitem.lookup (getItem_str (c := c) (by
  have e1 : decide (i < -(2 ^ 63 : Int)) = false := decide_eq_false (by omega)
  have e2 : decide (i >= 2 ^ 63) = false := decide_eq_false (by omega)
  rw [e1, e2, Bool.or_false]) (by rw [h1]; simpa using h2) ⟨.str ⟨#[c]⟩, H, I.tok _, ⟨_, rfl⟩, q⟩) hs
def rIx (K : Fg) : R2 := λ x y H Q => rIxL K x y H Q \/ rIxT K x y H Q \/ rIxS x y H Q
theorem ix_seq : IxR X (rIx X.K) := ix_list.or (ix_tup.or ix_str)
noncomputable def flatV : V -> Bool
 | .non => true
 | .bl _ => true
 | .int _ => true
 | .str _ => true
 | _ => false
noncomputable def eqV : V -> V -> Bool
 | .non, .non => true
 | .bl a, .bl b => a == b
 | .bl a, .int b => (if a then 1 else 0) == b
 | .int a, .bl b => a == (if b then 1 else 0)
 | .int a, .int b => a == b
 | .str a, .str b => a == b
 | _, _ => false
theorem eqAt_V {A : Around} {s : Shared} {y x : V} {u v : Value} (ry : RelV y u) (rx : RelV x v) (fy : flatV y = true) (fx : flatV x = true) : SeqAt.EqAt A s u v (eqV y x) := by
 cases y with
 | non =>
  cases ry
  cases x with
  | non => cases rx; exact SeqAt.EqAt.same _
  | bl b => cases rx; exact SeqAt.EqAt.none_bool b
  | int b => obtain ⟨t, rfl⟩ := rx; exact SeqAt.EqAt.none_int b t
  | str b => obtain ⟨t, rfl⟩ := rx; exact SeqAt.EqAt.none_str b t
  | _ => exact absurd (show false = true from fx) Q8
 | bl a =>
  cases ry
  cases x with
  | non => cases rx; exact SeqAt.EqAt.bool_none a
  | bl b => cases rx; exact SeqAt.EqAt.bool_bool a b
  | int b => obtain ⟨t, rfl⟩ := rx; exact SeqAt.EqAt.bool_int a b t
  | str b => obtain ⟨t, rfl⟩ := rx; exact SeqAt.EqAt.bool_str a b t
  | _ => exact absurd (show false = true from fx) Q8
 | int a =>
  obtain ⟨t', rfl⟩ := ry
  cases x with
  | non => cases rx; exact SeqAt.EqAt.int_none a t'
  | bl b => cases rx; exact SeqAt.EqAt.int_bool a t' b
  | int b => obtain ⟨t, rfl⟩ := rx; exact SeqAt.EqAt.int_int a t' b t
  | str b => obtain ⟨t, rfl⟩ := rx; exact SeqAt.EqAt.int_str a t' b t
  | _ => exact absurd (show false = true from fx) Q8
 | str a =>
  obtain ⟨t', rfl⟩ := ry
  cases x with
  | non => cases rx; exact SeqAt.EqAt.str_none a t'
  | bl b => cases rx; exact SeqAt.EqAt.str_bool a t' b
  | int b => obtain ⟨t, rfl⟩ := rx; exact SeqAt.EqAt.str_int a t' b t
  | str b => obtain ⟨t, rfl⟩ := rx; exact SeqAt.EqAt.str_str a t' b t
  | _ => exact absurd (show false = true from fx) Q8
 | _ => exact absurd (show false = true from fy) Q8
noncomputable def eqU (x : V) (u : Value) : Bool := match u with
 | .none => eqV .non x
 | .bool b => eqV (.bl b) x
 | .int i _ => eqV (.int i) x
 | .str z _ => eqV (.str z) x
 | _ => false
theorem eqU_of {x y : V} {u : Value} (r : RelV y u) (f : flatV y = true) : eqU x u = eqV y x := by
 cases y with
 | non => cases r; rfl
 | bl b => cases r; rfl
 | int i => obtain ⟨t, rfl⟩ := r; rfl
 | str z => obtain ⟨t, rfl⟩ := r; rfl
 | _ => exact absurd (show false = true from f) Q8
theorem any_eqU {x : V} {xs : List V} {us : List Value} (h : Vals xs us) (f : xs.all flatV = true) : us.any (eqU x) = xs.any λ y => eqV y x := by
 induction h with
 | nil => rfl
 | cons r t ih =>
  rw [List.all_cons, Q4] at f
  rw [List.any_cons, List.any_cons, eqU_of r f.1, ih f.2]
theorem mem_eqAt {A : Around} {s : Shared} {x : V} {v : Value} (rx : RelV x v) (fx : flatV x = true) {xs : List V} {us : List Value} (h : Vals xs us) (f : xs.all flatV = true) : ∀ u ∈ us, SeqAt.EqAt A s u v (eqU x u) := by
 induction h with
 | nil => exact λ u hu => by cases hu
 | cons r t ih =>
  intro u' hu
  rw [List.all_cons, Q4] at f
  rcases Q2.mp hu with rfl | hu
  · rw [eqU_of r f.1]; exact eqAt_V r rx f.1 fx
  · exact ih f.2 u' hu
noncomputable def inV (x : V) (xs : List V) : Bool := xs.any λ y => eqV y x
def rIn (K : Fg) (neg : Bool) : R2 := λ x y H Q => ∃ p xs, y = .ref p /\ (SqL K H p xs \/ SqT K H p xs) /\ flatV x = true /\ xs.all flatV = true /\ Q (.bl (if neg then !inV x xs else inV x xs)) H
theorem op_in_seq : OpR X (compareOp .In) (rIn X.K false) := by
 intro pins s σ H x y v u Q I rx ry h
 obtain ⟨p, xs, rfl, hq, fx, fs, q⟩ := h
 cases ry
 rcases hq with hq | hq
 · obtain ⟨its, r, pl, hz⟩ := I.list hq
   refine SeqAt.in_listAt (eqU x) pl.isList (λ w hw => mem_eqAt rx fx r fs w (by simpa using hw)) ⟨.bl _, H, I, rfl, ?_⟩
   rw [show its.toArray.any (eqU x) = its.any (eqU x) by simp, any_eqU r fs]
   exact q
 · obtain ⟨its, r, pl, hz⟩ := I.tuple hq
   refine SeqAt.in_tupleAt (eqU x) pl (λ w hw => mem_eqAt rx fx r fs w (by simpa using hw)) ⟨.bl _, H, I, rfl, ?_⟩
   rw [show its.toArray.any (eqU x) = its.any (eqU x) by simp, any_eqU r fs]
   exact q
theorem call_list_of : CallR X (.type "list") (λ xs H Q => ∃ p ys, xs = [.ref p] /\ (SqL X.K H p ys \/ SqT X.K H p ys) /\ ∀ l, H l = none -> Q (.ref l) (upd H l (.lst ys))) := by
 intro pins s σ H xs us Q I r h
 obtain ⟨p, ys, rfl, hq, q⟩ := h
 obtain ⟨u, rfl, rx⟩ := vals1 r
 cases rx
 have fin : ∀ (its : List Value), Vals ys its -> ys.length <= sizeLine -> ∀ (h' : Heap) (c' : Nat), (∀ b o', s.heap.get? b = some o' -> h'.get? b = some o') ->
  h'.get? s.heap.objs.size = some { cls := .type "list", dict := none, data := .seq its.toArray c', slots := #[] } -> EP X pins σ Q (.ref s.heap.objs.size) { s with heap := h' } := λ its r' hz h' c' kp e =>
  ⟨.ref s.heap.objs.size, _, I.laid (t' := s.toks) kp (Q1 _) (show ObjOk X.prog X.w _ h' _ (.lst ys) from ⟨hz, its, c', r', e⟩), rfl, q _ (I.hok.fresh (Q1 _))⟩
 rcases hq with hq | hq
 · obtain ⟨its, r', pl, hz⟩ := I.list hq
   have hlen := r'.length
   obtain ⟨o, ho, hc, n, hd⟩ := pl.isList
   exact call_list_seq p (.inl rfl) ho hc hd (λ h' c' kp e => fin its r' hz h' c' kp e) (by simp only [zM] <;> omega)
 · obtain ⟨its, r', pl, hz⟩ := I.tuple hq
   have hlen := r'.length
   obtain ⟨o, ho, hc, n, hd⟩ := pl
   exact call_list_seq p (.inr rfl) ho hc hd (λ h' c' kp e => fin its r' hz h' c' kp e) (by simp only [zM] <;> omega)
theorem call_tuple_of : CallR X (.type "tuple") (λ xs H Q => ∃ p ys, xs = [.ref p] /\ ((SqL X.K H p ys /\ ∀ l, H l = none -> Q (.ref l) (upd H l (.tup ys))) \/ (SqT X.K H p ys /\ Q (.ref p) H))) := by
 intro pins s σ H xs us Q I r h
 obtain ⟨p, ys, rfl, h⟩ := h
 obtain ⟨u, rfl, rx⟩ := vals1 r
 cases rx
 rcases h with ⟨hq, q⟩ | ⟨hq, q⟩
 · obtain ⟨its, r', pl, hz⟩ := I.list hq
   have hlen := r'.length
   refine call_tuple_list pl.isList (λ h' kp => ?_) (by simp only [zM] <;> omega)
   have I1 : Inv X pins σ H { s with heap := h' } := I.kept (t' := s.toks) kp
   have I2 : Inv X pins σ (upd H h'.objs.size (.tup ys)) { s with heap := h'.push { cls := .type "tuple", data := .seq its.toArray } } :=
    I1.laid (t' := s.toks) (λ b o e => hPo _ e) (Q1 _) (show ObjOk X.prog X.w _ _ _ (.tup ys) from ⟨hz, its, r', IsTup.new _ _, _, hPs _ rfl, rfl⟩)
   exact ⟨.ref h'.objs.size, _, I2, rfl, q _ (I1.hok.fresh (Q1 _))⟩
 · obtain ⟨its, r', pl, hz⟩ := I.tuple hq
   exact call_tuple_same pl ⟨.ref p, H, I, rfl, q⟩
def tyV (K : Fg) (T : String) (x : V) (H : Hp) : Prop := match x with
 | .str _ => T = "str"
 | .int _ => T = "int"
 | .ref p => (T = "list" /\ ∃ xs, SqL K H p xs) \/ (T = "tuple" /\ ∃ o, K.lookup p = some o /\ o.cls = .type "tuple" /\ o.dict = none) \/
  (T = "dict" /\ ((∃ kvs, H p = some (.dK kvs)) \/ ∃ kvs, H p = some (.dT kvs))) \/ (T = "set" /\ ∃ S n, H p = some (.set S n))
 | _ => False
theorem tyV_is {pins : List (Addr × Obj)} {σ : St} {H : Hp} {s : Shared} {T : String} {x : V} {v : Value} (I : Inv X pins σ H s) (r : RelV x v) (ty : tyV X.K T x H) :
 s.TypeIs v T /\ ∀ a, v = .ref a -> ∃ ob, s.heap.get? a = some ob /\ ob.dict = none := by
 cases x with
 | str z =>
  obtain ⟨t, rfl⟩ := r
  cases (show T = "str" from ty)
  exact ⟨typeIs_str s z t, λ _ e => nomatch e⟩
 | int i =>
  obtain ⟨t, rfl⟩ := r
  cases (show T = "int" from ty)
  exact ⟨typeIs_int s i t, λ _ e => nomatch e⟩
 | ref p =>
  cases r
  rcases ty with ⟨rfl, xs, hq⟩ | ⟨rfl, o, hk, hc, hd⟩ | ⟨rfl, hk⟩ | ⟨rfl, S, n, hk⟩
  · obtain ⟨its, _, pl, _⟩ := I.list hq
    refine ⟨pl.isList.typeIs, λ a e => ?_⟩
    cases e
    obtain ⟨o, n, e, c, hd, _⟩ := pl
    exact ⟨o, e, hd⟩
  · refine ⟨⟨o, I.kIn p o hk, hc⟩, λ a e => ?_⟩
    cases e
    exact ⟨o, I.kIn _ o hk, hd⟩
  · have z : ∃ o, s.heap.get? p = some o /\ o.ExactDict := by
     rcases hk with ⟨kvs, hk⟩ | ⟨kvs, hk⟩
     · obtain ⟨_, _, _, _, o, _, _, e, ex, _⟩ := I.hok p _ hk
       exact ⟨o, e, ex⟩
     · obtain ⟨_, _, _, _, o, _, _, e, ex, _⟩ := I.hok p _ hk
       exact ⟨o, e, ex⟩
    obtain ⟨o, e, ex⟩ := z
    refine ⟨⟨o, e, ex.1⟩, λ a e2 => ?_⟩
    cases e2
    exact ⟨o, e, ex.2.1⟩
  · obtain ⟨o, _, _, _, e, ex, _⟩ := I.hok p _ hk
    refine ⟨⟨o, e, ex.1⟩, λ a e2 => ?_⟩
    cases e2
    exact ⟨o, e, ex.2.1⟩
 | _ => exact False.elim ty
def tBM0 (K : Fg) (T : String) (r : V -> List V -> Hp -> VK -> Prop) (to : TE) : TE := λ σ H Q => to σ H λ x H1 => tyV K T x H1 /\ r x [] H1 Q
def tBM (K : Fg) (T : String) (r : V -> List V -> Hp -> VK -> Prop) (to : TE) (t : TA) : TE := λ σ H Q => to σ H λ x H1 => tyV K T x H1 /\ t σ H1 λ xs H2 => r x xs H2 Q
variable {o e : Expr} {es : List Expr} {to : TE} {t : TA} {name : Str} {apos cpos : Pos} {T id : String} {r : V -> List V -> Hp -> VK -> Prop}
theorem pe_bm0 (pa : PlainAttrs T) (slot : Slot T name id) (hty : typeOf (.builtin id) = pure (.type "method_descriptor")) (hm : MtR X id r) (ho : PE X o to)
 (hbase : attributeBase o name X.env (eval o X.env) = eval o X.env := by rfl) (hline : (apos.endLine == cpos.line) = true := by rfl) : PE X (.Call (.Attribute o name apos) [] [] cpos) (tBM0 X.K T r to) := by
 intro pins s σ H Q I h
 refine wpAny_Call_method0_late hbase hline (thn (ho pins s σ H _ I h) λ v s1 q_ => ?_)
 obtain ⟨x, H1, I1, r1, ty, q1⟩ := q_
 obtain ⟨h1, h2⟩ := tyV_is I1 r1 ty
 exact ⟨T, id, pa, slot, hty, h1, h2, Calls.callWith_builtin rfl (PySem.evalArgs_none (hm pins s1 σ H1 x [] v [] Q I1 r1 .nil q1))⟩
theorem pe_bm (pa : PlainAttrs T) (slot : Slot T name id) (hty : typeOf (.builtin id) = pure (.type "method_descriptor")) (hm : MtR X id r) (ho : PE X o to) (ha : PA X (e :: es) t)
 (hbase : attributeBase o name X.env (eval o X.env) = eval o X.env := by rfl)
 (hfew : ((backTo cpos (starEach (e :: es) X.env)).all (λ x => !x.1) && (backToKw cpos (keywordEach [] X.env)).all (λ x => x.1.isSome)
  && decide ((e :: es).length + ([] : List Keyword).length + (if ([] : List Keyword).isEmpty then 0 else 1) < 30)) = true := by rfl)
 (hline : (apos.endLine == cpos.line) = true := by rfl) (hs : starEach (e :: es) X.env = (false, eval e X.env) :: starEach es X.env := by rfl) (hplain : (backTo cpos (starEach es X.env)).any (·.1) = false := by rfl) :
 PE X (.Call (.Attribute o name apos) (e :: es) [] cpos) (tBM X.K T r to t) := by
 intro pins s σ H Q I h
 refine wpAny_Call_method_late hbase hfew hline rfl (thn (ho pins s σ H _ I h) λ v s1 q_ => ?_)
 obtain ⟨x, H1, I1, r1, ty, q1⟩ := q_
 obtain ⟨h1, h2⟩ := tyV_is I1 r1 ty
 refine ⟨T, id, pa, slot, hty, h1, h2, ?_⟩
 have hA := ha cpos pins s1 σ H1 _ I1 q1
 rw [hs] at hA ⊢
 refine Calls.callWith_builtin (by show (false || (backTo cpos (starEach es X.env)).any (·.1)) = false; rw [hplain] <;> rfl) (Calls.evalArgs_plain ?_)
 exact thn hA λ us s2 q_ => by obtain ⟨vs, H2, I2, r2, q2⟩ := q_; exact hm pins s2 σ H2 x vs v us Q I2 r1 r2 q2
end
def MtM (X : Cx) (id : String) (r : V -> List V -> Hp -> VK -> Prop) : Prop :=
 ∀ (pins : List (Addr × Obj)) (s : Shared) (σ : St) (H : Hp) (x : V) (xs : List V) (v : Value) (us : List Value) (Q : VK), Inv X pins σ H s -> RelV x v -> Vals xs us -> r x xs H Q ->
  wpAny (model X.prog X.w) X.A (call (.builtin id) (v :: us)) (EP X pins σ Q) X.xe s
theorem Vals.one : ∀ {x : V} {us : List Value}, Vals [x] us -> ∃ u, us = [u] /\ RelV x u
 | _, _, h => by cases h with | cons r t => cases t; exact ⟨_, rfl, r⟩
theorem Vals.two : ∀ {x y : V} {us : List Value}, Vals [x, y] us -> ∃ u v, us = [u, v] /\ RelV x u /\ RelV y v
 | _, _, _, h => by
  cases h with
  | cons r t =>
   obtain ⟨v, e, q⟩ := Vals.one t
   subst e
   exact ⟨_, _, rfl, r, q⟩
section
variable {X : Cx} {pins : List (Addr × Obj)} {σ : St} {H : Hp} {s : Shared} {l b : Addr} {xs ys zs : List V}
theorem Inv.lset {its its' : List Value} {n : Nat} {f : Array Value -> Array Value} {t' : Nat} (I : Inv X pins σ H s) (hH : H l = some (.lst xs))
 (e : s.heap.get? l = some { cls := .type "list", data := .seq its.toArray n }) (hf : f its.toArray = its'.toArray) (hv : Vals ys its') (hz : ys.length <= sizeLine) :
 Inv X pins σ (upd H l (.lst ys)) { s with heap := s.heap.update l (Obj.mapSeq f), toks := t' } := by
 have q := PySem.IsL.update e f
 rw [hf] at q
 refine I.write (x := l) (e := l) (by rw [hH]; exact trivial) (.inl rfl) (λ b' u hb hu => (hUo s.heap (Obj.mapSeq f) (Ne.symm hb)).trans hu) ⟨_, q⟩ ?_
 exact ⟨hz, its', _, hv, q⟩
theorem Inv.lnew {its : List Value} {t' : Nat} (I : Inv X pins σ H s) (hv : Vals ys its) (hz : ys.length <= sizeLine) :
 Inv X pins σ (upd H s.heap.objs.size (.lst ys)) { s with heap := s.heap.push { cls := .type "list", data := .seq its.toArray }, toks := t' } :=
 I.laid (λ _ _ q => hPo _ q) (Q1 _) ⟨hz, its, 0, hv, hPs _ rfl⟩
theorem Inv.fresh (I : Inv X pins σ H s) : H s.heap.objs.size = none := I.hok.fresh (Q1 _)
theorem Inv.lstM (I : Inv X pins σ H s) (hH : H l = some (.lst xs)) : xs.length <= sizeLine /\ ∃ (its : List Value) (n : Nat), Vals xs its /\ xs.length = its.length /\ s.heap.get? l = some { cls := .type "list", data := .seq its.toArray n } := by
 obtain ⟨z, its, n, r, e⟩ := I.hok l _ hH
 exact ⟨z, its, n, r, r.length, e⟩
theorem notLongL {n : Nat} (h : n <= sizeLine) : Builtin.List.listTooLong n = false := by
 unfold Builtin.List.listTooLong
 exact decide_eq_false (by omega)
end
section
variable {X : Cx}
def rAppend : V -> List V -> Hp -> VK -> Prop := λ x vs H Q => ∃ l xs y, x = .ref l /\ vs = [y] /\ H l = some (.lst xs) /\ xs.length < sizeLine /\ Q .non (upd H l (.lst (xs ++ [y])))
theorem mt_append : MtM X "list.append" rAppend := by
 intro pins s σ H x vs v us Q I rx rv h
 obtain ⟨l, xs, y, rfl, rfl, hH, hz, q⟩ := h
 cases rx
 obtain ⟨u, rfl, ru⟩ := rv.one
 obtain ⟨z, its, n, r, hl, e⟩ := I.lstM hH
 refine call_meets F.slot_list_append ⟨_, e, rfl⟩ F.entry_list_append (F.args_list_append_2 _ _) (PySem.list_append l its.toArray n u (by rw [zM]; omega)) ⟨e, ?_⟩
 refine ⟨.non, _, I.lset (its' := its ++ [u]) hH e (by simp) (r.append (.cons ru .nil)) ?_, rfl, q⟩
 rw [zQ, Q29]
 omega
def rExtend : V -> List V -> Hp -> VK -> Prop := λ x vs H Q => ∃ l b xs zs, x = .ref l /\ vs = [.ref b] /\ H l = some (.lst xs) /\ H b = some (.lst zs) /\ xs.length + zs.length <= sizeLine /\ Q .non (upd H l (.lst (xs ++ zs)))
theorem mt_extend : MtM X "list.extend" rExtend := by
 intro pins s σ H x vs v us Q I rx rv h
 obtain ⟨l, b, xs, zs, rfl, rfl, hH, hB, hz, q⟩ := h
 cases rx
 obtain ⟨u, rfl, ru⟩ := rv.one
 cases ru
 obtain ⟨z, its, n, r, hl, e⟩ := I.lstM hH
 obtain ⟨z2, its2, n2, r2, hl2, e2⟩ := I.lstM hB
 have hsz : its.toArray.size + its2.toArray.size <= sizeLine := by rw [zM, zM]; omega
 have hlong : ¬ (!its.toArray.isEmpty && Builtin.List.listTooLong (its.toArray.size + its2.toArray.size)) = true := by
  rw [notLongL hsz, Bool.and_false]
  exact Q8
 refine call_meets F.slot_list_extend ⟨_, e, rfl⟩ F.entry_list_extend (F.args_list_extend_2 _ _)
  (AutoSeq1.list_extend_list_list_0 l its.toArray n b its2.toArray n2 hlong (by rw [zM]; omega) (by omega)) ⟨e, e2, ?_⟩
 refine ⟨.non, _, I.lset (its' := its ++ its2) hH e (by simp) (r.append r2) ?_, rfl, q⟩
 rw [zQ]
 omega
def rCat : R2 := λ x y H Q => ∃ l b xs zs, x = .ref l /\ y = .ref b /\ H l = some (.lst xs) /\ H b = some (.lst zs) /\ xs.length + zs.length <= sizeLine /\ ∀ p, H p = none -> Q (.ref p) (upd H p (.lst (xs ++ zs)))
theorem op_cat : OpR X (binaryOp .Add) rCat := by
 intro pins s σ H x y v u Q I rx ry h
 obtain ⟨l, b, xs, zs, rfl, rfl, hH, hB, hz, q⟩ := h
 cases rx
 cases ry
 obtain ⟨z, its, n, r, hl, e⟩ := I.lstM hH
 obtain ⟨z2, its2, n2, r2, hl2, e2⟩ := I.lstM hB
 refine PySem.P.add_list e e2 ?_ (by rw [zM, zM]; omega)
 have ea : its.toArray ++ its2.toArray = (its ++ its2).toArray := by simp
 rw [ea]
 exact ⟨.ref _, _, I.lnew (t' := s.toks) (r.append r2) (by rw [zQ]; omega), rfl, q _ I.fresh⟩
end
section
variable {prog : Program} {w : World} {A : Around} {E : Value -> Shared -> Prop} {s : Shared}
end
section
variable {X : Cx}
end
end L2
namespace Att
open PySem PySem.W PySem.Calls PyProof.Rows
theorem ints_of_wellAll {P : Params} {h : Heap} : ∀ (ns : List Int) (vs : List Value), WellAll P h vs (ns.map WData.int) -> IntsAre vs ns := by
 intro ns
 induction ns with
 | nil =>
  intro vs w
  rw [zL] at w
  cases w
  exact .nil
 | cons n ns ih =>
  intro vs w
  rw [zI] at w
  cases w with
  | cons a b =>
   cases a
   exact .cons _ _ (ih _ b)
theorem script_of {l : OpenLaw} {n : Nat} (hn : l.most = some n) {P : Params} {h : Heap} {args : List WData} {vals : List Value}
 (hpre : l.row.toRowW.claim.pre args = true) (hwl : WellAll P h vals args) :
 ∃ a vs ns, vals = [Value.ref a] /\ args = [WData.list (ns.map WData.int)] /\ h.get? a = some { cls := .type "list", data := .seq vs.toArray } /\ IntsAre vs ns /\ ns.length <= n := by
 have hsh : WShape.hasAll [] args [.list .int] = true := (pre_splitW hpre).1
 have hc : l.pre.holds [] { args := args } = true := (pre_splitW hpre).2
 obtain ⟨d, r, rfl, h1, h2⟩ := hasAllW_cons hsh
 obtain rfl := hasAllW_nil h2
 obtain ⟨xs, rfl, h3⟩ := hasW_list h1
 obtain ⟨ns, rfl⟩ := items_int h3
 have hlen : ns.length <= n := by
  unfold OpenLaw.pre at hc
  have h4 : (WTm.not (.lt (.lit (.int (n : Int))) (.len (.arg 0)))).holds [] { args := [.list (ns.map .int)] } = true := by
   have h4 := (holds_andW hc).1
   rw [hn] at h4
   exact h4
  have h5 := condW_of h4 (w_not (w_lt w_lit (w_len_list (w_arg rfl))))
  rw [zJ] at h5
  refine Nat.le_of_not_lt λ q => ?_
  have q' : (n : Int) < ((ns.length : Nat) : Int) := by omega
  first
   | (rw [decide_eq_true q'] at h5; exact absurd h5 (by decide))
   | (simp at h5; omega)
 cases hwl with
 | cons w1 w2 =>
  cases w2
  cases w1 with
  | list ho hall => exact ⟨_, _, ns, rfl, rfl, ho, ints_of_wellAll ns _ hall, hlen⟩
theorem post_true (l : OpenLaw) (args : List WData) : l.row.toRowW.claim.post args (.bool true) args = true :=
 postW_of (r := l.row.toRowW) (X := (true == true))
  (show WShape.has [] (.bool true) .bool = true by first | rfl | decide | simp [WShape.has, WShape.arms, WShape.armsAll])
  (show (WTm.eq .res (.lit (.bool true))).value [] { args := args, res := some (.bool true), after := args } = some (.bool (true == true)) from w_eq_bool (w_res rfl) w_lit) rfl
theorem attach_call {l : OpenLaw} {n : Nat} {q : Program} {loose : List Str} {XP : (Str -> Option Value) -> Heap -> Prop} {YP : World -> Heap -> Prop} {d : DefRec}
 (hn : l.most = some n) (hdf : d.params.defaults = [])
 (call : ∀ (w : World) (s₀ s₁ : Shared) (mg mb : Str -> Option Value) (fa : Addr) (o : Obj) (pm cd doc : Value) (a : Addr) (vs : List Value) (ns : List Int),
  Ground q loose [] XP w s₀ mg mb s₁.heap -> YP w s₁.heap ->
  s₁.heap.get? fa = some o -> o.data = .func (docDef d.name d.params d.body d.scope pm cd doc) -> s₁.heap.CodeRec cd d.name -> mg d.name = some (.ref fa) ->
  s₁.heap.get? a = some { cls := .type "list", data := .seq vs.toArray } -> IntsAre vs ns -> ns.length <= n -> s₁.gens = #[] ->
  codeAny (model l.prog w) callerA (.call (.ref fa) ⟨[.ref a], []⟩) (λ r s' => r = .ok (.ret (.bool true)) /\ OldK s₁.heap s'.heap /\ s'.os = s₁.os /\ AllBare s'.gens) s₁) :
 WalkO q loose XP YP l.row.toRowW d [] (λ f vs => PySem.call f vs) := by
 intro w s₀ s₁ mg mb G Y fa o pm cd doc dV kV ho hd hcd hD hmg hg args vals as hpre hlay hrd hwl hlo
 obtain rfl : dV = .none := Dflts.none hD hdf
 obtain rfl : kV = .none := Dflts.noKw hD
 obtain ⟨a, vs, ns, rfl, rfl, hobj, hints, hlen⟩ := script_of hn hpre hwl
 refine enter_call (codeAny_mono (call w s₀ s₁ mg mb fa o pm cd doc a vs ns G Y ho (fd_plain hd) hcd hmg hobj hints hlen hg) λ r s' hq => ?_)
 obtain ⟨rfl, h2, h3, h4⟩ := hq
 exact ⟨.inl ⟨.bool true, .bool true, [], rfl, λ _ => rfl, .bool true, post_true l _, λ _ => ⟨List.Pairwise.nil, λ _ hm => (nomatch hm)⟩⟩, h2, h3, h4⟩
section
variable {prog : Program} {w : World} {A : Around} {E : Value -> Shared -> Prop} {s : Shared} {K : Frag}
noncomputable def noObjs (h : Heap) : Heap := { h with objs := #[] }
theorem noObjs_get (h : Heap) (b : Addr) : (noObjs h).get? b = none := by
 cases e : (noObjs h).get? b with
 | none => rfl
 | some o => exact absurd (hLs e) (Nat.not_lt_zero _)
noncomputable def ledger (h : Heap) (L d : Addr) : List (Addr × Obj) := (List.range h.objs.size).filterMap λ a => if a = L \/ a = d then none else (h.get? a).map λ o => (a, o)
theorem mem_ledger {h : Heap} {L d a : Addr} {o : Obj} : (a, o) ∈ ledger h L d ↔ a ≠ L /\ a ≠ d /\ h.get? a = some o := by
 unfold ledger
 rw [List.mem_filterMap]
 constructor
 · rintro ⟨b, _, e⟩
   split at e
   · cases e
   · rename_i hb
     obtain ⟨o', ho, e'⟩ := Q0.mp e
     cases e'
     exact ⟨λ q => hb (.inl q), λ q => hb (.inr q), ho⟩
 · rintro ⟨n1, n2, ho⟩
   refine ⟨a, List.mem_range.mpr (hLs ho), ?_⟩
   rw [if_neg (show ¬ (a = L \/ a = d) from λ q => q.elim n1 n2), ho] <;> rfl
theorem news_ledger {h : Heap} {L d : Addr} {od : Obj} (hne : d ≠ L) (ho : h.get? d = some od) : News (noObjs h) L h ([] ++ (d, od) :: ledger h L d) := by
 rintro ⟨a, o⟩ hp
 rcases Q2.mp hp with e | hp
 · cases e
   exact ⟨ho, hne, noObjs_get _ _⟩
 · obtain ⟨n1, n2, e⟩ := mem_ledger.mp hp
   exact ⟨e, n1, noObjs_get _ _⟩
theorem fr_all {h : Heap} {L : Addr} {m : Str -> Option Value} (n : h.Ns L m) : Fr (noObjs h) L h m :=
 ⟨n, λ b o e => (by rw [noObjs_get] at e; cases e), zU _⟩
end
end Att
namespace L2
open PySem PySem.Spec PyProof.Rows
theorem vals_ints {vs : List Value} {ns : List Int} (h : IntsAre vs ns) : Vals (ns.map V.int) vs := by
 induction h with
 | nil => exact .nil
 | cons n t h ih => exact .cons ⟨t, rfl⟩ ih
noncomputable def defArgs (s : Stmt) : Arguments := match s with
 | .FunctionDef _ a _ _ _ _ _ _ _ _ => a
 | _ => { posonlyargs := [], args := [], vararg := none, kwonlyargs := [], kw_defaults := [], kwarg := none, defaults := [] }
noncomputable def defBody (s : Stmt) : List Stmt := match s with
 | .FunctionDef _ _ b _ _ _ _ _ _ _ => b
 | _ => []
noncomputable def defScope (s : Stmt) : Scope := match s with
 | .FunctionDef _ _ _ _ _ _ sc _ _ _ => sc
 | _ => { kind := .function, names := [], isGenerator := false, isCoroutine := false }
abbrev CX0 : CXT := λ _ _ _ _ _ _ => False
abbrev E0 : XK := λ _ _ _ => False
theorem pass0 {X : Cx} : Passes CX0 X E0 := λ _ _ _ _ _ _ _ h => h.elim
structure Fun (K : Fg) (x qual : Str) (st : Stmt) (f : Addr) (fd : FuncData) : Prop where
 ex : ∃ (oc : Value) (od : Option Addr) (kV doc pm : Value) (an : Option Addr) (cdv ct : Value) (osl : Array (Option Value)),
  fd = PySem.W.fnOf x qual (defArgs st) (defBody st) (defScope st) .none kV doc pm an cdv ct /\ K.lookup f = some ⟨oc, od, .func fd, osl⟩ /\ PySem.W.codeIn K cdv qual = true
 kp : PySem.W.keepIn K (.ref f) = true
section
variable {P : Program} {w : World} {K : Fg} {mg : Str -> Option Value} {base : Heap}
theorem Fun.ok {x qual : Str} {st : Stmt} {f : Addr} {fd : FuncData} {N ps : List Str} {k : Nat} {sp : Sp} (F : Fun K x qual st f fd) (S : FnScope N ps (defScope st)) (len : ∀ vs H Q E, sp vs H Q E -> vs.length = ps.length)
 (hbody : ∀ (cdv : Value) (A : Around) (outer : List Env) (s : Shared) (H : Hp) (vs : List V) (Q : VK) (E : XK), Room k (A.deeper (envOfC qual (defScope st) s.heap.objs.size f cdv)) -> sp vs H Q E ->
  ∃ t, PSs (cxOf CX0 P w K mg base N qual (defScope st) f cdv A outer s H E).nox (defBody st) t /\ t { nx := λ _ H' => Q .non H', rt := Q } (start N vs) H) : FnOk P w K mg base CX0 (k + 1) f fd ps sp := by
 obtain ⟨oc, od, kV, doc, pm, an, cdv, ct, osl, rfl, lk, hcd⟩ := F.ex
 refine fn_of lk hcd S len λ A outer s H vs Q E hr hsp => ?_
 obtain ⟨t, h, q⟩ := hbody cdv A outer s H vs Q E hr hsp
 exact ⟨t, h.nox, q⟩
theorem Fun.binds {x qual : Str} {st : Stmt} {f : Addr} {fd : FuncData} {ps : List Str} (F : Fun K x qual st f fd)
 (h : ∀ (kV doc pm : Value) (an : Option Addr) (cdv ct : Value) (us : List Value), us.length = ps.length -> bindArgs (PySem.W.fnOf x qual (defArgs st) (defBody st) (defScope st) .none kV doc pm an cdv ct) ⟨us, []⟩ = pure (ps.zip us)) : Binds K fd ps [] := by
 obtain ⟨oc, od, kV, doc, pm, an, cdv, ct, osl, rfl, lk, hcd⟩ := F.ex
 exact .all (h kV doc pm an cdv ct)
theorem fun_mk {x qual : Str} {st : Stmt} {f : Addr} {oc : Value} {od an : Option Addr} {osl : Array (Option Value)} {kV doc pm cdv ct : Value} (l : K.lookup f = some ⟨oc, od, .func (PySem.W.fnOf x qual (defArgs st) (defBody st) (defScope st) .none kV doc pm an cdv ct), osl⟩)
 (c : PySem.W.codeIn K cdv qual = true) (k : PySem.W.keepIn K (.ref f) = true) : Fun K x qual st f (PySem.W.fnOf x qual (defArgs st) (defBody st) (defScope st) .none kV doc pm an cdv ct) := ⟨⟨oc, od, kV, doc, pm, an, cdv, ct, osl, rfl, l, c⟩, k⟩
end
theorem hu_of {A : Around} {k : Nat} (hr : Room k A) : A.units + 1 < cLine := Q27 (Nat.add_le_add_left (by decide : 1 <= 64) _) hr.units
theorem small1000 {n : Nat} (h : n <= 1000) : n < sizeLine := Q27 h (by decide)
section
variable {X : Cx}
theorem pv (i : Nat) {x : Str} {pos : Pos} (hN : X.N[i]? = some x := by rfl) (hv : Vis X.env.scope x := by first | exact Or.inl rfl | exact Or.inr (Or.inl rfl) | exact Or.inr (Or.inr rfl)) (hd : (x == ("__debug__" : Str)) = false := by decide)
 (hcd : (x == ("__classdict__" : Str)) = false := by decide) : PE X (.Name x pos) (tVar i) := pe_var hN hv hd hcd
end
theorem iteF {A B : Prop} (h : B) : if false = true then A else B := by
 rw [if_neg Q8]
 exact h
theorem iteT {A B : Prop} (h : A) : if true = true then A else B := by
 rw [if_pos rfl]
 exact h
def Same (H H' : Hp) : Prop := ∀ b o, H b = some o -> H' b = some o
theorem Same.refl (H : Hp) : Same H H := λ _ _ h => h
theorem Same.trans {H H1 H2 : Hp} (a : Same H H1) (b : Same H1 H2) : Same H H2 := λ c o h => b c o (a c o h)
theorem Same.free {H H' : Hp} (e : Same H H') {l : Addr} (h : H' l = Option.none) : H l = Option.none := by
 cases q : H l with
 | none => rfl
 | some o =>
  rw [e l o q] at h
  cases h
theorem Same.seq {K : Fg} {H H' : Hp} {a : Addr} {xs : List V} (e : Same H H') (h : SqL K H a xs) : SqL K H' a xs := by
 rcases h with (h | ⟨o, h⟩) | h
 · exact .inl (.inl (e _ _ h))
 · exact .inl (.inr ⟨o, e _ _ h⟩)
 · exact .inr h
noncomputable def clOf (env : Env) : List (Str × NameKind) -> List (Str × Addr) -> List (Str × Addr)
 | [], acc => acc
 | (n, k) :: r, acc => if k == .free then clOf env r ((n, (env.cells.lookup n).getD 0) :: acc) else clOf env r acc
theorem clos_go {env : Env} : ∀ (names : List (Str × NameKind)) (acc : List (Str × Addr)), (∀ y ∈ names, y.2 = .free -> ∃ c, env.cells.lookup y.1 = some c) ->
 (forIn (m := Sem) names acc λ (x : Str × NameKind) cs => (if (x.2 == .free) = true then do let c <- cellOf env x.1; pure (ForInStep.yield ((x.1, c) :: cs)) else pure (ForInStep.yield cs))) = pure (clOf env names acc)
 | [], acc, _ => rfl
 | (n, k) :: r, acc, h => by
  have hr : ∀ y ∈ r, y.2 = .free -> ∃ c, env.cells.lookup y.1 = some c := λ y hy => h y (lMc _ hy)
  rw [List.forIn_cons]
  by_cases e : k = .free
  · subst e
    obtain ⟨c, hc⟩ := h (n, .free) lMs rfl
    have hc' : env.cells.lookup n = some c := hc
    have e1 : cellOf env n = pure c := by unfold cellOf; rw [hc']
    show ((if (NameKind.free == NameKind.free) = true then _ else _) >>= _) = pure (if (NameKind.free == NameKind.free) = true then _ else _)
    rw [if_pos (by rfl), if_pos (by rfl), e1, hc']
    exact clos_go r _ hr
  · have e' : (k == NameKind.free) = false := by simpa using e
    show ((if (k == NameKind.free) = true then _ else _) >>= _) = pure (if (k == NameKind.free) = true then _ else _)
    rw [e', if_neg (by simp), if_neg (by simp)]
    exact clos_go r _ hr
theorem closureFor_eq {scope : Scope} {env : Env} (h : ∀ y ∈ scope.names, y.2 = .free -> ∃ c, env.cells.lookup y.1 = some c) : closureFor scope env = pure (clOf env scope.names []) := by
 have q := clos_go scope.names [] h
 unfold closureFor
 show (forIn (m := Sem) scope.names [] _ >>= λ r => pure r) = _
 refine Eq.trans ?_ q
 exact bind_pure _
theorem clOf_mem {env : Env} : ∀ {names : List (Str × NameKind)} {acc : List (Str × Addr)} {x : Str} {c : Addr}, (∀ y ∈ names, y.2 = .free -> ∃ c, env.cells.lookup y.1 = some c) -> (x, c) ∈ clOf env names acc -> (x, c) ∈ acc \/ env.cells.lookup x = some c
 | [], acc, x, c, _, m => .inl m
 | (n, k) :: r, acc, x, c, h, m => by
  have hr : ∀ y ∈ r, y.2 = .free -> ∃ c, env.cells.lookup y.1 = some c := λ y hy => h y (lMc _ hy)
  by_cases e : k = .free
  · subst e
    obtain ⟨d, hd⟩ := h (n, .free) lMs rfl
    have hd' : env.cells.lookup n = some d := hd
    have m' : (x, c) ∈ clOf env r ((n, (env.cells.lookup n).getD 0) :: acc) := m
    rcases clOf_mem hr m' with q | q
    · rcases Q2.mp q with q | q
      · rw [hd'] at q
        injection q with q1 q2
        subst q1 q2
        exact .inr hd'
      · exact .inl q
    · exact .inr q
  · have e' : (k == NameKind.free) = false := by simpa using e
    have m' : (x, c) ∈ (if (k == NameKind.free) = true then clOf env r ((n, (env.cells.lookup n).getD 0) :: acc) else clOf env r acc) := m
    rw [e', if_neg (by simp)] at m'
    exact clOf_mem hr m'
theorem clOf_has {env : Env} : ∀ {names : List (Str × NameKind)} {acc : List (Str × Addr)} {x : Str}, ((x, NameKind.free) ∈ names \/ ∃ c, (x, c) ∈ acc) -> ∃ c, (x, c) ∈ clOf env names acc
 | [], acc, x, h => by
  rcases h with h | h
  · simp at h
  · exact h
 | (n, k) :: r, acc, x, h => by
  by_cases e : k = .free
  · subst e
    show ∃ c, (x, c) ∈ clOf env r ((n, (env.cells.lookup n).getD 0) :: acc)
    refine clOf_has ?_
    rcases h with h | ⟨c, h⟩
    · rcases Q2.mp h with h | h
      · injection h with h1 _
        subst h1
        exact .inr ⟨_, lMs⟩
      · exact .inl h
    · exact .inr ⟨c, lMc _ h⟩
  · have e' : (k == NameKind.free) = false := by simpa using e
    show ∃ c, (x, c) ∈ (if (k == NameKind.free) = true then clOf env r ((n, (env.cells.lookup n).getD 0) :: acc) else clOf env r acc)
    rw [e', if_neg (by simp)]
    refine clOf_has ?_
    rcases h with h | h
    · rcases Q2.mp h with h | h
      · injection h with _ h2
        exact absurd h2.symm e
      · exact .inl h
    · exact .inr h
theorem lookup_of_mem {β : Type} : ∀ {l : List (Str × β)} {x : Str} {c : β}, (x, c) ∈ l -> ∃ d, l.lookup x = some d
 | (n, k) :: r, x, c, h => by
  by_cases e : x = n
  · subst e; exact ⟨k, by simp⟩
  · rcases Q2.mp h with q | q
    · injection q with q1 _; exact absurd q1 e
    · obtain ⟨d, hd⟩ := lookup_of_mem q
      exact ⟨d, by rw [Q11]; have : (x == n) = false := by simpa using e
                   rw [this]; exact hd⟩
def PTs (X : Cx) (cs : List Expr) (t : TT) : Prop :=
 ∀ (pins : List (Addr × Obj)) (s : Shared) (σ : St) (H : Hp) (Q : Bool -> Hp -> Prop), Inv X pins σ H s -> t σ H Q ->
  wpAny (model X.prog X.w) X.A (forIn cs true λ c r => if r = true then do let ok <- isTrue c X.env (eval c X.env); pure (ForInStep.yield ok) else pure (ForInStep.yield r)) (TP X pins σ Q) X.xe s
def tYes : TT := λ _ H Q => Q true H
theorem pts_nil {X : Cx} : PTs X [] tYes := λ pins s σ H Q I h => wpAny_tests_nil ⟨H, I, h⟩
theorem pts_one {X : Cx} {c : Expr} {t : TT} (h : PT X c t) : PTs X [c] t := λ pins s σ H Q I q => wpAny_tests_one (h pins s σ H Q I q)
def st0 (n : Nat) (fr : List (Str × Nat)) (σ : St) : St := List.replicate n none ++ fr.map λ p => (σ[p.2]?).join
def tComp (n : Nat) (fr : List (Str × Nat)) (wi : TI) (g : TG) (tc : TT) (te : TE) : TE := λ σ H Q => wi σ H λ J H1 => ∀ acc, H1 acc = none ->
 ∃ W : Nat -> Nat -> St -> Hp -> Prop, (∃ m, W 0 m (st0 n fr σ) (upd H1 acc (.lst []))) /\ ∀ i m σ' H', W i m σ' H' ->
  (J.stop i H' /\ Q (.ref acc) H') \/ (J.go i H' /\ ∃ Nx : St -> Hp -> Prop, (∀ σ2 H2, Nx σ2 H2 -> ∃ m', m' < m /\ W (i + 1) m' σ2 H2) /\
   ∀ x H2, J.yld i H' x H2 -> g x σ' H2 λ σ2 H3 => tc σ2 H3 λ b H4 => if b = true then te σ2 H4 λ y H5 => ∃ ys, H5 acc = some (.lst ys) /\ ys.length < sizeLine /\ Nx σ2 (upd H5 acc (.lst (ys ++ [y]))) else Nx σ2 H4)
section
variable {prog : Program} {w : World} {A : Around} {R : Result -> Shared -> Prop} {s : Shared}
theorem compLoop_go {elt target iter : Expr} {ifs : List Expr} {scope : Scope} {pos : Pos} {it acc : Value} {env : Env} (I : Nat -> Shared -> Prop)
 (turn : ∀ n s, I n s -> wpAny (model prog w) A (pyNext it) (λ r s₁ => match r with
  | none => R (.ok .next) s₁
  | some v => wpAny (model prog w) A (letOwnedTupleGo target it v) (λ _ s₂ => wpAny (model prog w) A (assign target env v) (λ _ s₂ =>
   wpAny (model prog w) A (forIn ifs true λ c r => if r = true then do let ok <- isTrue c env (eval c env); pure (ForInStep.yield ok) else pure (ForInStep.yield r)) (λ ok s₃ =>
    if ok = true then wpAny (model prog w) A (eval elt env) (λ x s₄ =>
     wpAny (model prog w) A (call (.builtin "list.append") [acc, x]) (λ _ s₅ => ∃ m, m < n /\ I m s₅) (λ _ _ => False) s₄) (λ _ _ => False) s₃
    else ∃ m, m < n /\ I m s₃) (λ _ _ => False) s₂) (λ _ _ => False) s₂) (λ _ _ => False) s₁) (λ _ _ => False) s)
 (n : Nat) (h : I n s) :
 codeAny (model prog w) A (.compLoop (.ListComp elt [⟨target, iter, ifs, 0⟩] scope pos) 0 it acc env) R s := by
 refine codeAny_loop rfl I (λ n s hI => ?_) n h
 show wpAny _ A ((compTurn (.ListComp elt [⟨target, iter, ifs, 0⟩] scope pos) 0 it acc env).onRaise (λ x => do noteFrame x env; theTreesLotGoes x)) _ _ s
 refine wpAny_noted ?_
 rw [compTurn_list]
 refine wB (wpAny_standAt (wB (wpAny_mono (turn n s hI) (λ r s₁ h₁ => ?_) λ _ _ h' => h'.elim)))
 cases r with
 | none => exact wP h₁
 | some v =>
  refine wB (wpAny_mono h₁ (λ _ s₂ h₂ => ?_) λ _ _ h' => h'.elim)
  refine wB (wpAny_mono h₂ (λ _ s₂ h₂ => wB (wpAny_mono h₂ (λ ok s₃ h₃ => ?_) λ _ _ h' => h'.elim)) λ _ _ h' => h'.elim)
  cases ok with
  | false => exact wP ⟨rfl, h₃⟩
  | true =>
   exact wB (wB (wpAny_mono h₃ (λ x s₄ h₄ => wB (wpAny_mono h₄ (λ _ s₅ h₅ => wP (wP ⟨rfl, h₅⟩)) λ _ _ h' => h'.elim)) λ _ _ h' => h'.elim))
end
theorem HOk.sameBut {P : Program} {w : World} {H : Hp} {h h' : Heap} {C : Addr} (x : HOk P w H h) (n : H C = none) (sb : Heap.SameBut C h h') : HOk P w H h' := λ a o e =>
 (x a o e).stay (λ b u q z => (sb.2 b (by
  rcases q with q | q
  · subst q; exact ne_of_none e n
  · exact ne_of_none q n)).trans z) (λ _ q => q) (λ _ _ q => q) λ _ _ _ q => q
theorem relab_kind {env : Env} : ∀ {names : List (Str × NameKind)} {x : Str}, names.lookup x = some .free ->
 (((names.map λ (n, k) => if (k == NameKind.free && env.scope.kind == .function && env.kindOf n == some .cell) then (n, NameKind.cell) else (n, k)).lookup x = some .cell) \/
  ((names.map λ (n, k) => if (k == NameKind.free && env.scope.kind == .function && env.kindOf n == some .cell) then (n, NameKind.cell) else (n, k)).lookup x = some .free))
 | [], x, h => by simp at h
 | (n, k) :: r, x, h => by
  have e1 : ((n, k) :: r).map (λ (n, k) => if (k == NameKind.free && env.scope.kind == .function && env.kindOf n == some .cell) = true then (n, NameKind.cell) else (n, k)) =
   (if (k == NameKind.free && env.scope.kind == .function && env.kindOf n == some .cell) = true then (n, NameKind.cell) else (n, k)) :: r.map (λ (n, k) => if (k == NameKind.free && env.scope.kind == .function && env.kindOf n == some .cell) = true then (n, NameKind.cell) else (n, k)) := rfl
  rw [e1]
  cases hx : x == n with
  | true =>
   simp only [Q11, hx] at h
   have hk : k = .free := zV h
   by_cases c : (k == NameKind.free && env.scope.kind == .function && env.kindOf n == some .cell) = true
   · rw [if_pos c]; left; simp [Q11, hx]
   · rw [if_neg c]; right; simp [Q11, hx, hk]
  | false =>
   simp only [Q11, hx] at h
   have q := relab_kind (env := env) h
   by_cases c : (k == NameKind.free && env.scope.kind == .function && env.kindOf n == some .cell) = true
   · rw [if_pos c]; simpa only [Q11, hx] using q
   · rw [if_neg c]; simpa only [Q11, hx] using q
section
variable {X : Cx}
theorem st0_get {n : Nat} {fr : List (Str × Nat)} {own : List Str} {σ : St} {i : Nat} {x : Str} {v : V} (hn : own.length = n) (h1 : (own ++ fr.map (·.1))[i]? = some x) (h2 : (st0 n fr σ)[i]? = some (some v)) :
 ∃ p ∈ fr, p.1 = x /\ σ[p.2]? = some (some v) := by
 unfold st0 at h2
 by_cases hi : i < n
 · rw [Q6 (by simpa using hi), Qa, if_pos hi] at h2
   cases h2
 · rw [Q7 (by simpa using hi)] at h2
   rw [Q7 (by omega)] at h1
   rw [Q1a, zK] at h2
   rw [hn, zK] at h1
   cases e : fr[i - n]? with
   | none => rw [e] at h1; cases h1
   | some p =>
    rw [e] at h1 h2
    refine ⟨p, Q1e e, zV h1, ?_⟩
    have h3 : (σ[p.2]?).join = some v := zV h2
    cases q : σ[p.2]? with
    | none => rw [q] at h3; cases h3
    | some z => rw [q] at h3; exact congrArg some h3
end
open AutoSeq1 (wpAny_loadPart')
section
variable {prog : Program} {w : World} {A : Around} {E : Value -> Shared -> Prop} {s : Shared}
theorem nxT_item {it t : Addr} {i : Nat} {its : Array Value} {x : Value} {Q : Value -> Shared -> Prop} (hit : s.heap.IsTupleIter it t i) (ht : s.heap.IsTuple t its) (hx : its[i]? = some x)
 (k : ∀ h', h'.IsTupleIter it t (i + 1) -> Heap.SameBut it s.heap h' -> Q x { s with heap := h' }) : wpAny (model prog w) A (Builtin.SmallTypes.nextOf (.ref it)) Q E s := by
 have ty := hit.typeIs
 obtain ⟨ob, eo, ec, ed⟩ := hit
 obtain ⟨ot, et, _, n, edt⟩ := ht
 unfold Builtin.SmallTypes.nextOf
 refine wB (wpAny_callSpecial?_slot (name := Str.ofString "__next__") ty F.slot_tuple_iterator_next (wpAny_call_entry F.slot_tuple_iterator_next ty F.entry_tuple_iterator_next ?_ (F.args_tuple_iterator_next_1 _)))
 show wpAny _ _ (field (.ref it) 0 >>= _) _ _ s
 refine wB (wpAny_field eo ed (x := .ref t) rfl ?_)
 show wpAny _ _ (if (Value.ref t == Value.none) = true then _ else _) _ _ s
 rw [if_neg (show ¬ ((Value.ref t == Value.none) = true) from Q8)]
 show wpAny _ _ (field (.ref it) 1 >>= _) _ _ s
 refine wB (wpAny_field eo ed (x := .int i 0) rfl ?_)
 show wpAny _ _ (seqItems? (.ref t) >>= _) _ _ s
 refine wB (wpAny_seqItems et edt ?_)
 simp only [Q2c, hx]
 refine wB (wpAny_setField eo ed (by simp) (wP ⟨x, rfl, wP (k _ ⟨_, hUs _ eo (Obj.isFreed_of_fields (Obj.data_mapFields ed _)), (Obj.cls_mapFields ..).trans ec, ?_⟩ (Heap.SameBut.update ..))⟩))
 rw [Obj.data_mapFields ed]
 simp [rawInt]
theorem nxT_end {it t : Addr} {i : Nat} {its : Array Value} {Q : Value -> Shared -> Prop} (hh : A.handled = none) (hit : s.heap.IsTupleIter it t i) (ht : s.heap.IsTuple t its) (hx : its[i]? = none)
 (k : ∀ h' e, Heap.ExtBut it s.heap h' -> (∃ o, h'.get? e = some o /\ o.cls = .type "StopIteration") -> E (.ref e) { s with heap := h' }) : wpAny (model prog w) A (Builtin.SmallTypes.nextOf (.ref it)) Q E s := by
 have ty := hit.typeIs
 obtain ⟨ob, eo, ec, ed⟩ := hit
 obtain ⟨ot, et, _, n, edt⟩ := ht
 unfold Builtin.SmallTypes.nextOf
 refine wB (wpAny_callSpecial?_slot (name := Str.ofString "__next__") ty F.slot_tuple_iterator_next (wpAny_call_entry F.slot_tuple_iterator_next ty F.entry_tuple_iterator_next ?_ (F.args_tuple_iterator_next_1 _)))
 show wpAny _ _ (field (.ref it) 0 >>= _) _ _ s
 refine wB (wpAny_field eo ed (x := .ref t) rfl ?_)
 show wpAny _ _ (if (Value.ref t == Value.none) = true then _ else _) _ _ s
 rw [if_neg (show ¬ ((Value.ref t == Value.none) = true) from Q8)]
 show wpAny _ _ (field (.ref it) 1 >>= _) _ _ s
 refine wB (wpAny_field eo ed (x := .int i 0) rfl ?_)
 show wpAny _ _ (seqItems? (.ref t) >>= _) _ _ s
 refine wB (wpAny_seqItems et edt ?_)
 simp only [Q2c, hx]
 refine wB (wpAny_rule (wB (wpAny_setField eo ed (by simp) ?_)))
 show wpAny _ _ (newExc (.type "StopIteration") [] >>= _) _ _ _
 refine wB ?_
 simp only [newExc, newTuple]
 refine wB (wpAny_newObj_type ?_ (by size_fits))
 refine wB (m := firstArgMember _ _) (wpAny_of_eq (a := Value.none) (by first | rfl | (simp only [firstArgMember]; rfl)) ?_)
 refine wpAny_newObj_type ?_ (by size_fits)
 simp only [raiseNew]
 refine wB (wpAny_handled ?_)
 first | rw [show A.in1.handled = none from hh] | rw [hh]
 exact wB (wP (wpAny_throw (k _ _ (((Heap.SameBut.update ..).extBut.push _).push _) ⟨_, hPs _ rfl, rfl⟩)))
end
theorem drT {prog : Program} {w : World} {A : Around} (hh : A.handled = none) (it t : Addr) (ne : t ≠ it) (its : Array Value) :
 Draws prog w A it [it, t] its.size (λ i v => its[i]? = some v) (λ i h => h.IsTupleIter it t i /\ h.IsTuple t its) where
 live := λ _ _ st => by obtain ⟨⟨o, e, _⟩, _⟩ := st; exact ⟨o, e⟩
 frame := λ _ _ _ st k => ⟨st.1.at λ o e => k it (by simp) o e, st.2.at λ o e => k t (by simp) o e⟩
 item := λ i s Q E hi st k => nxT_item st.1 st.2 (x := its[i]) (by simp [hi]) λ h' a b => k _ h' s.toks (by simp [hi]) ⟨a, st.2.extBut b.extBut ne⟩ b
 done := λ s Q E st k => nxT_end hh st.1 st.2 (by simp) k
theorem enT_new (l : Addr) (its : Array Value) (n : Nat) (dct : Option Addr) (sl : Array (Option Value)) :
 Meets (Builtin.«enumerate.__new__» ⟨[.type "enumerate", .ref l], []⟩) (λ _ R s => s.heap.get? l = some { cls := .type "tuple", dict := dct, data := .seq its n, slots := sl } /\
  R (.ok (.ret (.ref (s.heap.push { cls := .type "tuple_iterator", data := .fields #[.ref l, .int 0 0] }).objs.size)))
   { s with heap := (s.heap.push { cls := .type "tuple_iterator", data := .fields #[.ref l, .int 0 0] }).push { cls := .type "enumerate", data := .fields #[.none, .bool false, .ref s.heap.objs.size, rawInt 0, .none, .none] } }) :=
 .of_wp λ prog w A R s h => by
  obtain ⟨hp, g, d, tk, os⟩ := s
  obtain ⟨hl, h⟩ := h
  have hsub := sub_enumerate
  have hT : Heap.IsTuple (Shared.heap ⟨hp, g, d, tk, os⟩) l its := ⟨_, hl, rfl, n, rfl⟩
  wp_walk using wpAny_loadPart' hl
  refine wpAny_stack_any λ st => wP ?_
  split
  · rename_i c _ _ _ _ _
    cases (c == Value.type "enumerate") <;> (wp_walk using wpAny_loadPart' hl, wpAny_pyIter_tuple hT; exact ⟨_, rfl, h⟩)
  · wp_walk using wpAny_loadPart' hl, wpAny_pyIter_tuple hT
    exact ⟨_, rfl, h⟩
section
variable {prog : Program} {w : World} {A : Around} {E : Value -> Shared -> Prop} {s : Shared}
theorem call_enT {l : Addr} {its : Array Value} {Q : Value -> Shared -> Prop} (hL : s.heap.IsTuple l its)
 (k : ∀ h', IsEnum h' (s.heap.objs.size + 1) s.heap.objs.size 0 .none -> h'.IsTupleIter s.heap.objs.size l 0 -> h'.objs.size = s.heap.objs.size + 2 -> (∀ b o, s.heap.get? b = some o -> h'.get? b = some o) -> Q (.ref (s.heap.objs.size + 1)) { s with heap := h' }) :
 wpAny (model prog w) A (call (.type "enumerate") [.ref l]) Q E s := by
 obtain ⟨⟨c, dct, dt, sl⟩, hl, hc, n, hd⟩ := hL
 have hc' : c = .type "tuple" := hc
 have hd' : dt = .seq its n := hd
 subst hc' hd'
 refine callType_new F.called_enumerate (by decide) (F.typeCall_enumerate_1 _) (F.newCall_enumerate_1 _) (λ obj => F.args_object_init_2 obj _) F.entry_enumerate_new (enT_new l its n dct sl) ⟨hl, ?_⟩
 generalize hg : s.heap.push { cls := .type "tuple_iterator", data := .fields #[.ref l, .int 0 0] } = g1
 have z1 : g1.objs.size = s.heap.objs.size + 1 := by rw [<- hg]; exact Q19 ..
 have he : IsEnum (g1.push { cls := .type "enumerate", data := .fields #[.none, .bool false, .ref s.heap.objs.size, rawInt 0, .none, .none] }) (s.heap.objs.size + 1) s.heap.objs.size 0 .none := by
  rw [<- z1]; exact hPs _ rfl
 show _ /\ _
 rw [z1]
 refine ⟨⟨_, he, rfl⟩, k _ he ⟨_, hPo _ (by rw [<- hg]; exact hPs _ rfl), rfl, rfl⟩ (by rw [Q19, z1]) λ b o x => hPo _ (by rw [<- hg]; exact hPo _ x)⟩
end
open AutoSeq1 (wpAny_loadPart')
structure ZA (z TI TO i1 i2 : Addr) (f1 f2 : List Addr) : Prop where
 a1 : TI ≠ z
 a2 : TO ≠ z
 a3 : i1 ≠ z
 a4 : i2 ≠ z
 a5 : TO ≠ i1
 a6 : TO ≠ i2
 b1 : z ∉ f1
 b2 : z ∉ f2
 b3 : TO ∉ f1
 b4 : TO ∉ f2
 b5 : i2 ∉ f1
 b6 : i1 ∉ f2
section
variable {prog : Program} {w : World} {A : Around} {E : Value -> Shared -> Prop} {s : Shared}
theorem pair_set {T : Addr} {a b x : Value} {k : Nat} {Q : Unit -> Shared -> Prop} (hT : IsPair s.heap T a b)
 (h : ∀ h', h'.get? T = some { cls := .type "tuple", data := .seq ((#[a, b] : Array Value).setIfInBounds k x) } -> Heap.SameBut T s.heap h' -> Q () { s with heap := h' }) : wpAny (model prog w) A (updateSeq T (·.setIfInBounds k x)) Q E s := wpAny_updateSeq_pair hT h
variable {z TI TO i1 i2 : Addr} {f1 f2 : List Addr} {n1 n2 k : Nat} {P1 P2 : Nat -> Value -> Prop} {S1 S2 : Nat -> Heap -> Prop} {a b : Value}
theorem zipD_item {Q : Value -> Shared -> Prop} (D1 : Draws prog w A i1 f1 n1 P1 S1) (D2 : Draws prog w A i2 f2 n2 P2 S2) (ap : ZA z TI TO i1 i2 f1 f2)
 (hz : IsZip s.heap z TI TO .none) (hTI : IsPair s.heap TI (.ref i1) (.ref i2)) (hTO : IsPair s.heap TO a b) (h1 : S1 k s.heap) (h2 : S2 k s.heap) (l1 : k < n1) (l2 : k < n2)
 (K : ∀ x y h' tk, P1 k x -> P2 k y -> IsZip h' z TI TO (rawInt s.heap.objs.size) -> IsPair h' TO x y -> S1 (k + 1) h' -> S2 (k + 1) h' -> IsPair h' s.heap.objs.size x y -> h'.objs.size = s.heap.objs.size + 1 ->
  (∀ c o, c ≠ z -> c ≠ TO -> c ≠ i1 -> c ≠ i2 -> s.heap.get? c = some o -> h'.get? c = some o) -> Q (.ref s.heap.objs.size) { s with heap := h', toks := tk }) :
 wpAny (model prog w) A (Builtin.«zip.__next__» ⟨[.ref z], []⟩) (λ fin s' => ∃ v, fin = .done (.ret v) /\ Q v s') E s := by
 obtain ⟨hp, g, d, tk0, os⟩ := s
 obtain ⟨o1, e1⟩ := D1.live _ _ h1
 obtain ⟨o2, e2⟩ := D2.live _ _ h2
 show wpAny _ _ (field (.ref z) 2 >>= _) _ _ _
 refine wB (wpAny_field hz rfl (x := .bool false) rfl ?_)
 show wpAny _ _ (field (.ref z) 3 >>= _) _ _ _
 refine wB (wpAny_field hz rfl (x := .ref TI) rfl ?_)
 refine wB (wpAny_seqItems hTI rfl ?_)
 show wpAny _ _ (Builtin.SmallTypes.ownedTupleIsFree (.ref z) >>= _) _ _ _
 refine wB ?_
 unfold Builtin.SmallTypes.ownedTupleIsFree
 refine wB (wpAny_field hz rfl (x := .none) rfl (wP ?_))
 simp only [if_true]
 refine wB (wpAny_rule ?_)
 refine wB (wpAny_field hz rfl (x := .ref TO) rfl ?_)
 refine wB (wpAny_setField_rec hz (by simp) λ g1 z1 c1 => ?_)
 have z1 : IsZip g1 z TI TO .ellipsis := z1
 have c1 : Heap.SameBut z hp g1 := c1
 refine wB ?_
 simp only [List.zipIdx_cons, List.zipIdx_nil, List.forIn_cons, List.forIn_nil]
 refine wB (wB (wpAny_onRaise ?_))
 show wpAny _ _ (Builtin.SmallTypes.nextOf (.ref i1) >>= _) _ _ _
 refine wB (D1.item k _ _ _ l1 (D1.frame _ _ _ h1 λ q hq o e => (c1.2 q λ y => ap.b1 (y ▸ hq)).trans e) λ x g2 t2 px s2 c2 => wP ?_)
 have c2 : Heap.SameBut i1 g1 g2 := c2
 have p2 : IsPair g2 TO a b := (c2.2 _ ap.a5).trans ((c1.2 _ ap.a2).trans hTO)
 refine wB (wpAny_seqItems p2 rfl ?_)
 refine wB (pair_set p2 λ g3 p3 c3 => ?_)
 have p3 : IsPair g3 TO x b := p3
 have c3 : Heap.SameBut TO g2 g3 := c3
 refine wB (wpAny_letGo (wP ?_))
 refine wB (wB (wpAny_onRaise ?_))
 show wpAny _ _ (Builtin.SmallTypes.nextOf (.ref i2) >>= _) _ _ _
 have m2 : S2 k g3 := D2.frame _ _ _ h2 λ q hq o e => (c3.2 q λ y => ap.b4 (y ▸ hq)).trans ((c2.2 q λ y => ap.b6 (y ▸ hq)).trans ((c1.2 q λ y => ap.b2 (y ▸ hq)).trans e))
 refine wB (D2.item k _ _ _ l2 m2 λ y g4 t4 py s4 c4 => wP ?_)
 have c4 : Heap.SameBut i2 g3 g4 := c4
 have p4 : IsPair g4 TO x b := (c4.2 _ ap.a6).trans p3
 refine wB (wpAny_seqItems p4 rfl ?_)
 refine wB (pair_set p4 λ g5 p5 c5 => ?_)
 have p5 : IsPair g5 TO x y := p5
 have c5 : Heap.SameBut TO g4 g5 := c5
 refine wB (wpAny_letGo (wP (wP ?_)))
 refine wB (wpAny_seqItems p5 rfl ?_)
 refine wB (wpAny_newTuple ?_)
 have zz : g5.objs.size = hp.objs.size := by rw [c5.1, c4.1, c3.1, c2.1, c1.1]
 have z5 : IsZip g5 z TI TO .ellipsis := (c5.2 _ ap.a2.symm).trans ((c4.2 _ ap.a4.symm).trans ((c3.2 _ ap.a2.symm).trans ((c2.2 _ ap.a3.symm).trans z1)))
 have k5 : ∀ c o, c ≠ z -> c ≠ TO -> c ≠ i1 -> c ≠ i2 -> hp.get? c = some o -> g5.get? c = some o := λ c o n1 n2 n3 n4 e => (c5.2 _ n2).trans ((c4.2 _ n4).trans ((c3.2 _ n2).trans ((c2.2 _ n3).trans ((c1.2 _ n1).trans e))))
 have w1 : S1 (k + 1) g5 := D1.frame _ _ _ s2 λ q hq o e => (c5.2 q λ y => ap.b3 (y ▸ hq)).trans ((c4.2 q λ y => ap.b5 (y ▸ hq)).trans ((c3.2 q λ y => ap.b3 (y ▸ hq)).trans e))
 have w2 : S2 (k + 1) g5 := D2.frame _ _ _ s4 λ q hq o e => (c5.2 q λ y => ap.b4 (y ▸ hq)).trans e
 have zl : z < g5.objs.size := hLs z5
 show wpAny _ _ (Builtin.SmallTypes.ownedTupleHandOut (.ref z) (.ref g5.objs.size) >>= _) _ _ _
 refine wB ?_
 unfold Builtin.SmallTypes.ownedTupleHandOut
 have z6 : IsZip (g5.push { cls := .type "tuple", data := .seq #[x, y] }) z TI TO .ellipsis := hPo _ z5
 refine wB (wpAny_setField_rec z6 (by simp) λ g7 z7 c7 => ?_)
 have z7 : IsZip g7 z TI TO (rawInt g5.objs.size) := z7
 have c7 : Heap.SameBut z (g5.push { cls := .type "tuple", data := .seq #[x, y] }) g7 := c7
 refine wpAny_setField_rec z7 (by simp) λ g8 z8 c8 => ?_
 have z8 : IsZip g8 z TI TO (rawInt g5.objs.size) := z8
 have c8 : Heap.SameBut z g7 g8 := c8
 have up : ∀ c o, c ≠ z -> g5.get? c = some o -> g8.get? c = some o := λ c o n e => (c8.2 _ n).trans ((c7.2 _ n).trans (hPo _ e))
 have t8 : IsPair g8 g5.objs.size x y := (c8.2 _ (nNg zl)).trans ((c7.2 _ (nNg zl)).trans (hPs _ rfl))
 have l8 : g8.objs.size = g5.objs.size + 1 := by rw [c8.1, c7.1, Q19]
 rw [zz] at z8 t8 l8
 refine wP ⟨_, rfl, ?_⟩
 show Q (.ref g5.objs.size) _
 rw [zz]
 exact K x y g8 _ px py z8 (up _ _ ap.a2 p5) (D1.frame _ _ _ w1 λ q hq o e => up q o (λ y => ap.b1 (y ▸ hq)) e) (D2.frame _ _ _ w2 λ q hq o e => up q o (λ y => ap.b2 (y ▸ hq)) e) t8 l8 λ c o n1 n2 n3 n4 e => up c o n1 (k5 c o n1 n2 n3 n4 e)
theorem zipD_end {Q : Fin -> Shared -> Prop} (D1 : Draws prog w A i1 f1 n1 P1 S1) (ap : ZA z TI TO i1 i2 f1 f2)
 (hz : IsZip s.heap z TI TO .none) (hTI : IsPair s.heap TI (.ref i1) (.ref i2)) (hTO : IsPair s.heap TO a b) (h1 : S1 n1 s.heap)
 (K : ∀ h' e, (∀ c o, c ≠ z -> c ≠ i1 -> s.heap.get? c = some o -> h'.get? c = some o) -> (∃ o, h'.get? e = some o /\ o.cls = .type "StopIteration") -> E (.ref e) { s with heap := h' }) :
 wpAny (model prog w) A (Builtin.«zip.__next__» ⟨[.ref z], []⟩) Q E s := by
 show wpAny _ _ (field (.ref z) 2 >>= _) _ _ _
 refine wB (wpAny_field hz rfl (x := .bool false) rfl ?_)
 show wpAny _ _ (field (.ref z) 3 >>= _) _ _ _
 refine wB (wpAny_field hz rfl (x := .ref TI) rfl ?_)
 refine wB (wpAny_seqItems hTI rfl ?_)
 show wpAny _ _ (Builtin.SmallTypes.ownedTupleIsFree (.ref z) >>= _) _ _ _
 refine wB ?_
 unfold Builtin.SmallTypes.ownedTupleIsFree
 refine wB (wpAny_field hz rfl (x := .none) rfl (wP ?_))
 simp only [if_true]
 refine wB (wpAny_rule ?_)
 refine wB (wpAny_field hz rfl (x := .ref TO) rfl ?_)
 refine wB (wpAny_setField_rec hz (by simp) λ g1 z1 c1 => ?_)
 have z1 : IsZip g1 z TI TO .ellipsis := z1
 have c1 : Heap.SameBut z s.heap g1 := c1
 refine wB ?_
 simp only [List.zipIdx_cons, List.zipIdx_nil, List.forIn_cons, List.forIn_nil]
 refine wB (wB (wpAny_onRaise ?_))
 show wpAny _ _ (Builtin.SmallTypes.nextOf (.ref i1) >>= _) _ _ _
 refine wB (D1.done _ _ _ (D1.frame _ _ _ h1 λ q hq o e => (c1.2 q λ y => ap.b1 (y ▸ hq)).trans e) λ g2 e c2 st => ?_)
 have c2 : Heap.ExtBut i1 g1 g2 := c2
 obtain ⟨oe, ho, hc⟩ := st
 have z2 : IsZip g2 z TI TO .ellipsis := c2 _ _ ap.a3.symm z1
 have ne : e ≠ z := λ y => by
  subst y
  have : g2.get? e = some oe := ho
  rw [z2] at this
  cases this
  simp at hc
 refine wpAny_setField_rec z2 (by simp) λ g3 _ c3 => ?_
 have c3 : Heap.SameBut z g2 g3 := c3
 exact K g3 e (λ c o n1 n2 y => (c3.2 _ n1).trans (c2 _ _ n2 ((c1.2 _ n1).trans y))) ⟨oe, (c3.2 _ ne).trans ho, hc⟩
theorem nextZ_item {Q : Option Value -> Shared -> Prop} (D1 : Draws prog w A.in1 i1 f1 n1 P1 S1) (D2 : Draws prog w A.in1 i2 f2 n2 P2 S2) (ap : ZA z TI TO i1 i2 f1 f2)
 (hz : IsZip s.heap z TI TO .none) (hTI : IsPair s.heap TI (.ref i1) (.ref i2)) (hTO : IsPair s.heap TO a b) (h1 : S1 k s.heap) (h2 : S2 k s.heap) (l1 : k < n1) (l2 : k < n2)
 (K : ∀ x y h' tk, P1 k x -> P2 k y -> IsZip h' z TI TO (rawInt s.heap.objs.size) -> IsPair h' TO x y -> S1 (k + 1) h' -> S2 (k + 1) h' -> IsPair h' s.heap.objs.size x y -> h'.objs.size = s.heap.objs.size + 1 ->
  (∀ c o, c ≠ z -> c ≠ TO -> c ≠ i1 -> c ≠ i2 -> s.heap.get? c = some o -> h'.get? c = some o) -> Q (some (.ref s.heap.objs.size)) { s with heap := h', toks := tk }) :
 wpAny (model prog w) A (pyNext (.ref z)) Q E s := by
 have ty : s.TypeIs (.ref z) "zip" := ⟨_, hz, rfl⟩
 unfold pyNext
 exact wB (wpAny_attempt (wpAny_callSpecial?_slot (name := Str.ofString "__next__") ty F.slot_zip_next (wpAny_call_entry F.slot_zip_next ty F.entry_zip_next
  (zipD_item D1 D2 ap hz hTI hTO h1 h2 l1 l2 λ x y h' tk q1 q2 q3 q4 q5 q6 q7 q8 q9 => wP (K x y h' tk q1 q2 q3 q4 q5 q6 q7 q8 q9)) (F.args_zip_next_1 _))))
theorem nextZ_end {Q : Option Value -> Shared -> Prop} (D1 : Draws prog w A.in1 i1 f1 n1 P1 S1) (ap : ZA z TI TO i1 i2 f1 f2)
 (hz : IsZip s.heap z TI TO .none) (hTI : IsPair s.heap TI (.ref i1) (.ref i2)) (hTO : IsPair s.heap TO a b) (h1 : S1 n1 s.heap)
 (K : ∀ h', (∀ c o, c ≠ z -> c ≠ i1 -> s.heap.get? c = some o -> h'.get? c = some o) -> Q none { s with heap := h' }) : wpAny (model prog w) A (pyNext (.ref z)) Q E s := by
 have ty : s.TypeIs (.ref z) "zip" := ⟨_, hz, rfl⟩
 unfold pyNext
 refine wB (wpAny_attempt (wpAny_callSpecial?_slot (name := Str.ofString "__next__") ty F.slot_zip_next (wpAny_call_entry F.slot_zip_next ty F.entry_zip_next (zipD_end D1 ap hz hTI hTO h1 λ h' e q st => ?_) (F.args_zip_next_1 _))))
 obtain ⟨o, ho, hc⟩ := st
 exact wB (wpAny_isInstance (T := "StopIteration") (b := true) ⟨o, ho, hc⟩ isSubtype_stop (wP (K _ q)))
end
theorem zipT_new (l1 l2 : Addr) (xs ys : Array Value) :
 Meets (Builtin.«zip.__new__» ⟨[.type "zip", .ref l1, .ref l2], []⟩) (λ _ R s => s.heap.IsTuple l1 xs /\ s.heap.IsTuple l2 ys /\
  ∀ g1 g2 g3 g4 g5, g1 = s.heap.push { cls := .type "tuple_iterator", data := .fields #[.ref l1, .int 0 0] } -> g2 = g1.push { cls := .type "tuple_iterator", data := .fields #[.ref l2, .int 0 0] } ->
   g3 = g2.push { cls := .type "tuple", data := .seq #[.ref s.heap.objs.size, .ref g1.objs.size] } -> g4 = g3.push { cls := .type "tuple", data := .seq #[.none, .none] } ->
   g5 = g4.push { cls := .type "zip", data := .fields #[.none, .bool false, .bool false, .ref g2.objs.size, .ref g3.objs.size] } -> R (.ok (.ret (.ref g4.objs.size))) { s with heap := g5 }) :=
 .of_wp λ prog w A R s h => by
  obtain ⟨hp, g, d, tk, os⟩ := s
  obtain ⟨h1, h2, h⟩ := h
  have hsub := sub_zip
  have m1 : Heap.IsTuple (Shared.heap ⟨hp, g, d, tk, os⟩) l1 xs := h1
  have m2 : Heap.IsTuple (Shared.heap ⟨hp.push { cls := .type "tuple_iterator", data := .fields #[.ref l1, .int 0 0] }, g, d, tk, os⟩) l2 ys := Heap.IsTuple.push h2 _
  wp_walk using wpAny_pyIter_tuple m1, wpAny_pyIter_tuple m2
  exact ⟨_, rfl, h _ _ _ _ _ rfl rfl rfl rfl rfl⟩
section
variable {prog : Program} {w : World} {A : Around} {E : Value -> Shared -> Prop} {s : Shared}
theorem call_zipT {l1 l2 : Addr} {xs ys : Array Value} {Q : Value -> Shared -> Prop} (h1 : s.heap.IsTuple l1 xs) (h2 : s.heap.IsTuple l2 ys)
 (k : ∀ h', IsZip h' (s.heap.objs.size + 4) (s.heap.objs.size + 2) (s.heap.objs.size + 3) .none -> IsPair h' (s.heap.objs.size + 2) (.ref s.heap.objs.size) (.ref (s.heap.objs.size + 1)) -> IsPair h' (s.heap.objs.size + 3) .none .none ->
  h'.IsTupleIter s.heap.objs.size l1 0 -> h'.IsTupleIter (s.heap.objs.size + 1) l2 0 -> h'.objs.size = s.heap.objs.size + 5 -> (∀ c o, s.heap.get? c = some o -> h'.get? c = some o) -> Q (.ref (s.heap.objs.size + 4)) { s with heap := h' }) :
 wpAny (model prog w) A (call (.type "zip") [.ref l1, .ref l2]) Q E s := by
 refine callType_new F.called_zip (by decide) (F.typeCall_zip_2 _ _) (F.newCall_zip_2 _ _) (λ obj => F.args_object_init_3 obj _ _) F.entry_zip_new (zipT_new l1 l2 xs ys) ⟨h1, h2, ?_⟩
 intro g1 g2 g3 g4 g5 e1 e2 e3 e4 e5
 have z1 : g1.objs.size = s.heap.objs.size + 1 := by rw [e1]; exact Q19 ..
 have z2 : g2.objs.size = s.heap.objs.size + 2 := by rw [e2, Q19, z1]
 have z3 : g3.objs.size = s.heap.objs.size + 3 := by rw [e3, Q19, z2]
 have z4 : g4.objs.size = s.heap.objs.size + 4 := by rw [e4, Q19, z3]
 have z5 : g5.objs.size = s.heap.objs.size + 5 := by rw [e5, Q19, z4]
 have u2 : ∀ {c o}, g1.get? c = some o -> g2.get? c = some o := λ e => by rw [e2]; exact hPo _ e
 have u3 : ∀ {c o}, g2.get? c = some o -> g3.get? c = some o := λ e => by rw [e3]; exact hPo _ e
 have u4 : ∀ {c o}, g3.get? c = some o -> g4.get? c = some o := λ e => by rw [e4]; exact hPo _ e
 have u5 : ∀ {c o}, g4.get? c = some o -> g5.get? c = some o := λ e => by rw [e5]; exact hPo _ e
 have q5 : IsZip g5 (s.heap.objs.size + 4) (s.heap.objs.size + 2) (s.heap.objs.size + 3) .none := by rw [<- z4, <- z3, <- z2, e5]; exact hPs _ rfl
 have q4 : IsPair g5 (s.heap.objs.size + 3) .none .none := by rw [<- z3]; exact u5 (by rw [e4]; exact hPs _ rfl)
 have q3 : IsPair g5 (s.heap.objs.size + 2) (.ref s.heap.objs.size) (.ref (s.heap.objs.size + 1)) := by rw [<- z2, <- z1]; exact u5 (u4 (by rw [e3]; exact hPs _ rfl))
 have q2 : g5.IsTupleIter (s.heap.objs.size + 1) l2 0 := ⟨_, by rw [<- z1]; exact u5 (u4 (u3 (by rw [e2]; exact hPs _ rfl))), rfl, rfl⟩
 have q1 : g5.IsTupleIter s.heap.objs.size l1 0 := ⟨_, u5 (u4 (u3 (u2 (by rw [e1]; exact hPs _ rfl)))), rfl, rfl⟩
 rw [z4]
 exact ⟨⟨_, q5, rfl⟩, k _ q5 q3 q4 q1 q2 z5 λ c o x => u5 (u4 (u3 (u2 (by rw [e1]; exact hPo _ x))))⟩
end
section
variable {X : Cx} {pins : List (Addr × Obj)} {σ : St} {H : Hp} {s : Shared}
theorem Inv.turnedN {ch : List Addr} {h' : Heap} {t' : Nat} {p : Addr} {o : HO} (I : Inv X pins σ H s) (hf : ∀ b ∈ ch, FpOk X pins H b) (k : ∀ b u, b ∉ ch -> s.heap.get? b = some u -> h'.get? b = some u)
 (hp : s.heap.objs.size <= p) (new : ObjOk X.prog X.w (upd H p o) h' p o) : Inv X pins σ (upd H p o) { s with heap := h', toks := t' } := by
 have hn : H p = none := I.hok.fresh hp
 have nit : ∀ b u, H b = some u -> b ∉ ch := λ b u e z => by rw [(hf b z).1] at e; cases e
 have old : ∀ b u, s.heap.get? b = some u -> b ≠ p := λ b u e => nNl (nLl (hLs e) hp)
 refine I.step (g' := s.gens) (d' := s.drawn) (ch := ch) (λ b hb => ⟨(hf b hb).2.2.2.1, (hf b hb).2.1, (hf b hb).2.2.2.2.1, (hf b hb).2.2.2.2.2⟩) (λ b o _ _ hc e _ => k b o hc e) (λ b o _ _ hc e _ => ⟨o.slots, k b o hc e⟩)
  (λ b u _ e n => by rw [upd_ne (old b u e)]; exact n) (λ b o hc e => ⟨o, k b o hc e⟩) (λ b xs e => by rw [upd_ne (ne_of_none e hn)]; exact e) (λ b u xs e => by rw [upd_ne (ne_of_none e hn)]; exact e)
  (λ b ps e => ⟨#[], by rw [upd_ne (ne_of_none e hn), e]; simp⟩) (λ m hm => ?_) (λ b u e => ?_) I.bare
 · obtain ⟨ob, es, ep, ho, r⟩ := hm
   exact ⟨ob, es, ep, k _ ob (λ z => (hf _ z).2.1 rfl) ho, r⟩
 · by_cases hb : b = p
   · subst hb; rw [upd_same] at e; cases e; exact new
   · rw [upd_ne hb] at e
     refine (I.hok b u e).stay (λ c v hc q => k c v ?_ q) (λ c q => by rw [upd_ne (ne_of_none q hn)]; exact q) (λ c xs q => by rw [upd_ne (ne_of_none q hn)]; exact q) λ c ob xs q => by rw [upd_ne (ne_of_none q hn)]; exact q
     rcases hc with z | z
     · rw [z]; exact nit b u e
     · exact nit c _ z
theorem Inv.turned0 {ch : List Addr} {h' : Heap} {t' : Nat} (I : Inv X pins σ H s) (hf : ∀ b ∈ ch, FpOk X pins H b) (k : ∀ b u, b ∉ ch -> s.heap.get? b = some u -> h'.get? b = some u) : Inv X pins σ H { s with heap := h', toks := t' } := by
 have nit : ∀ b u, H b = some u -> b ∉ ch := λ b u e z => by rw [(hf b z).1] at e; cases e
 refine I.step (g' := s.gens) (d' := s.drawn) (ch := ch) (λ b hb => ⟨(hf b hb).2.2.2.1, (hf b hb).2.1, (hf b hb).2.2.2.2.1, (hf b hb).2.2.2.2.2⟩) (λ b o _ _ hc e _ => k b o hc e) (λ b o _ _ hc e _ => ⟨o.slots, k b o hc e⟩)
  (λ _ _ _ _ n => n) (λ b o hc e => ⟨o, k b o hc e⟩) (λ _ _ e => e) (λ _ _ _ e => e) (λ b ps e => ⟨#[], by rw [e]; simp⟩) (λ m hm => ?_) (λ b u e => ?_) I.bare
 · obtain ⟨ob, es, ep, ho, r⟩ := hm
   exact ⟨ob, es, ep, k _ ob (λ z => (hf _ z).2.1 rfl) ho, r⟩
 · refine (I.hok b u e).stay (λ c v hc q => k c v ?_ q) (λ _ q => q) (λ _ _ q => q) λ _ _ _ q => q
   rcases hc with z | z
   · rw [z]; exact nit b u e
   · exact nit c _ z
end
structure Src (P : Program) (w : World) (K : Fg) (a it : Addr) (S : Hp -> List V -> Prop) (IT : Nat -> Heap -> Prop) : Prop where
 inj : ∀ (X : Cx), X.K = K -> ∀ (pins : List (Addr × Obj)) (σ : St) (H : Hp) (s : Shared) (xs ys : List V), Inv X pins σ H s -> S H xs -> S H ys -> xs = ys
 at_ : ∀ i h h', IT i h -> (∀ o, h.get? it = some o -> h'.get? it = some o) -> IT i h'
 ob : ∀ i h, IT i h -> ∃ o n, h.get? it = some o /\ o.cls = .type n /\ n ≠ "list" /\ n ≠ "tuple" /\ n ≠ "enumerate" /\ n ≠ "zip" /\ ∀ v, o.data ≠ .cell v
 dr : ∀ (X : Cx), X.prog = P -> X.w = w -> X.K = K -> ∀ (pins : List (Addr × Obj)) (σ : St) (H : Hp) (s : Shared) (xs : List V), Inv X pins σ H s -> S H xs -> ∃ (its : List Value) (SA : Heap -> Prop), Vals xs its /\ SA s.heap /\
  (∃ o n, s.heap.get? a = some o /\ o.cls = .type n /\ (n = "list" \/ n = "tuple")) /\ ∀ A : Around, A.handled = none -> a ≠ it -> Draws P w A it [it, a] its.toArray.size (λ i v => its.toArray[i]? = some v) λ i h => IT i h /\ SA h
theorem srcT {P : Program} {w : World} {K : Fg} (a it : Addr) : Src P w K a it (λ H xs => SqT K H a xs) (λ i h => h.IsTupleIter it a i) where
 inj := λ X hK pins σ H s xs ys I h1 h2 => by subst hK; exact I.tuple_inj h1 h2
 at_ := λ i h h' x e => x.at e
 ob := λ i h x => by obtain ⟨o, e, c, d⟩ := x; exact ⟨o, _, e, c, by decide, by decide, by decide, by decide, λ v z => by rw [d] at z; cases z⟩
 dr := λ X hP hw hK pins σ H s xs I h => by
  subst hP hw hK
  obtain ⟨its, rv, p, hz⟩ := I.tuple h
  refine ⟨its, λ h => h.IsTuple a its.toArray, rv, p, ?_, λ A hh ne => drT hh it a ne its.toArray⟩
  obtain ⟨o, e, c, _⟩ := p
  exact ⟨o, _, e, c, .inr rfl⟩
theorem srcL {P : Program} {w : World} {K : Fg} (a it : Addr) : Src P w K a it (λ H xs => SqL K H a xs) (λ i h => h.IsListIter it a i) where
 inj := λ X hK pins σ H s xs ys I h1 h2 => by subst hK; exact I.list_inj h1 h2
 at_ := λ i h h' x e => x.at e
 ob := λ i h x => by obtain ⟨o, e, c, d⟩ := x; exact ⟨o, _, e, c, by decide, by decide, by decide, by decide, λ v z => by rw [d] at z; cases z⟩
 dr := λ X hP hw hK pins σ H s xs I h => by
  subst hP hw hK
  obtain ⟨its, rv, p, hz⟩ := I.list h
  refine ⟨its, λ h => h.IsList a its.toArray, rv, p.isList, ?_, λ A hh ne => Draws.list hh it a ne its.toArray⟩
  obtain ⟨o, e, c, _⟩ := p.isList
  exact ⟨o, _, e, c, .inl rfl⟩
theorem type_ne {h : Heap} {a b : Addr} {o u : Obj} {n m : String} (e : h.get? a = some o) (c : o.cls = .type n) (e' : h.get? b = some u) (c' : u.cls = .type m) (d : n ≠ m) : a ≠ b := λ z => by
 subst z
 rw [e] at e'
 cases e'
 rw [c] at c'
 exact d (by injection c')
def Ite (S : Hp -> List V -> Prop) : It :=
 ⟨λ i H => ∃ xs x, S H xs /\ xs[i]? = some x, λ i H x H' => ∃ p v, H p = none /\ x = .ref p /\ H' = upd H p (.tup [.int (i : Nat), v]) /\ ∀ xs, S H xs -> xs[i]? = some v, λ i H => ∃ xs, S H xs /\ xs.length = i⟩
theorem turn_enum {P : Program} {w : World} {K : Fg} {es : List Expr} {k1 : Nat} {tp : Pos} {a e it : Addr} {S : Hp -> List V -> Prop} {IT : Nat -> Heap -> Prop} (R : Src P w K a it S IT) :
 Turn P w K (.Tuple es k1 tp) (Ite S) [e, it] e (λ i h => (∃ old, IsEnum h e it (i : Nat) old) /\ IT i h) where
 mem := by simp
 obj := λ i h st b hb => by
  obtain ⟨⟨old, he⟩, hi⟩ := st
  have hb' : b = e \/ b = it := by simpa using hb
  rcases hb' with z | z
  · subst z; exact ⟨_, he, λ v z => by cases z⟩
  · subst z
    obtain ⟨o, n, q, _, _, _, _, _, d⟩ := R.ob _ _ hi
    exact ⟨o, q, d⟩
 keep := λ i h h' st k => by
  obtain ⟨⟨old, he⟩, hi⟩ := st
  exact ⟨⟨old, k e (by simp) _ he⟩, R.at_ _ _ _ hi λ o q => k it (by simp) o q⟩
 item := by
  intro X hP hw hK hc i pins s σ H E I hf st hg
  obtain ⟨xs, x, hq, hx⟩ := hg
  obtain ⟨⟨old, he⟩, hi⟩ := st
  obtain ⟨its, SA, rv, sa, ⟨oa, na, ea, ca, da⟩, dr⟩ := R.dr X hP hw hK pins σ H s xs I hq
  obtain ⟨oi, ni, ei, ci, d1, d2, d3, _, _⟩ := R.ob _ _ hi
  have nai : a ≠ it := type_ne ea ca ei ci (by rcases da with z | z <;> (subst z; first | exact d1.symm | exact d2.symm))
  have nea : e ≠ a := type_ne he rfl ea ca (by rcases da with z | z <;> (subst z; decide))
  have nei : e ≠ it := type_ne he rfl ei ci (Ne.symm d3)
  obtain ⟨u, hu, ru⟩ := rv.get hx
  have hh : X.A.in1.handled = none := I.ok.hd hc
  have hlt : i < its.toArray.size := by have := (Q10.mp hu).1; simpa using this
  subst hP hw
  refine wpAny_pyNext_enum_itemD (dr _ hh nai) he ⟨hi, sa⟩ hlt nei (by simp [nei, nea]) λ y h' tk py heo st' ht hsz hk => ?_
  have ey : y = u := by
   have : its[i]? = some y := by simpa using py
   rw [hu] at this; exact (zV this).symm
  subst ey
  refine ⟨_, rfl, wpAny_letOwnedTupleGo_enum heo λ h2 he2 c2 => ?_⟩
  have c2 : Heap.SameBut e h' h2 := c2
  have el : e < s.heap.objs.size := hLs he
  have t2 : h2.get? s.heap.objs.size = some { cls := .type "tuple", data := .seq #[.int i tk, y] } := (c2.2 _ (nNg el)).trans ht
  have I2 : Inv X pins σ (upd H s.heap.objs.size (.tup [.int (i : Nat), x])) { s with heap := h2, toks := tk + 1 } := I.turnedN (ch := [e, it]) hf (λ b o hb q => by
   have hb' : b ≠ e /\ b ≠ it := by simpa using hb
   exact (c2.2 _ hb'.1).trans (hk b o hb'.1 hb'.2 q)) (Q1 _) ⟨by show 2 <= sizeLine; decide, [.int i tk, y], .cons ⟨tk, rfl⟩ (.cons ru .nil), ⟨_, t2, rfl, _, rfl⟩, _, t2, rfl⟩
  have hn : H s.heap.objs.size = none := I.hok.fresh (Q1 _)
  refine ⟨.ref s.heap.objs.size, _, I2, rfl, ⟨_, x, hn, rfl, rfl, λ ys hy => by rw [R.inj X hK pins σ H s ys xs I hy hq]; exact hx⟩, ⟨⟨_, by simpa using he2⟩, R.at_ _ _ _ st'.1 λ o q => (c2.2 _ nei.symm).trans q⟩, λ b hb => ?_⟩
  have lb : b < s.heap.objs.size := by
   have hb' : b = e \/ b = it := by simpa using hb
   rcases hb' with z | z
   · rw [z]; exact el
   · rw [z]; exact hLs ei
  rw [upd_ne (nNl lb)]
  exact (hf b hb).1
 done := by
  intro X hP hw hK hc i pins s σ H E I hf st hg
  obtain ⟨xs, hq, hx⟩ := hg
  obtain ⟨⟨old, he⟩, hi⟩ := st
  obtain ⟨its, SA, rv, sa, ⟨oa, na, ea, ca, da⟩, dr⟩ := R.dr X hP hw hK pins σ H s xs I hq
  obtain ⟨oi, ni, ei, ci, d1, d2, d3, _, _⟩ := R.ob _ _ hi
  have nai : a ≠ it := type_ne ea ca ei ci (by rcases da with z | z <;> (subst z; first | exact d1.symm | exact d2.symm))
  have hh : X.A.in1.handled = none := I.ok.hd hc
  subst hP hw
  have hl : its.toArray.size = i := by rw [<- hx, rv.length]; simp
  refine wpAny_pyNext_enum_endD (dr _ hh nai) he (by rw [hl]; exact ⟨hi, sa⟩) λ h' eb => ⟨rfl, I.turned0 (t' := s.toks) (ch := [e, it]) hf λ b u hb q => ?_⟩
  have hb' : b ≠ e /\ b ≠ it := by simpa using hb
  exact eb b u hb'.2 q
 self := λ A i s Q E st h => by
  obtain ⟨⟨old, he⟩, hi⟩ := st
  exact wpAny_pyIter_enum he h
def Itz (S1 S2 : Hp -> List V -> Prop) : It :=
 ⟨λ i H => ∃ xs ys x y, S1 H xs /\ S2 H ys /\ xs[i]? = some x /\ ys[i]? = some y,
  λ i H x H' => ∃ p v u, H p = none /\ x = .ref p /\ H' = upd H p (.tup [v, u]) /\ (∀ xs, S1 H xs -> xs[i]? = some v) /\ ∀ ys, S2 H ys -> ys[i]? = some u,
  λ i H => ∃ xs, S1 H xs /\ xs.length = i⟩
theorem turn_zip {P : Program} {w : World} {K : Fg} {es : List Expr} {k1 : Nat} {tp : Pos} {a1 a2 z TI TO i1 i2 : Addr} {S1 S2 : Hp -> List V -> Prop} {IT1 IT2 : Nat -> Heap -> Prop} (R1 : Src P w K a1 i1 S1 IT1) (R2 : Src P w K a2 i2 S2 IT2) (n12 : i1 ≠ i2) (nT : TI ≠ TO) :
 Turn P w K (.Tuple es k1 tp) (Itz S1 S2) [z, TI, TO, i1, i2] z (λ i h => IsZip h z TI TO .none /\ IsPair h TI (.ref i1) (.ref i2) /\ (∃ a b, IsPair h TO a b) /\ IT1 i h /\ IT2 i h /\ a1 ≠ TO /\ a2 ≠ TO) where
 mem := by simp
 obj := λ i h st b hb => by
  obtain ⟨hz, hTI, ⟨a, b', hTO⟩, h1, h2, _, _⟩ := st
  have hb' : b = z \/ b = TI \/ b = TO \/ b = i1 \/ b = i2 := by simpa using hb
  rcases hb' with q | q | q | q | q
  · subst q; exact ⟨_, hz, λ v z => by cases z⟩
  · subst q; exact ⟨_, hTI, λ v z => by cases z⟩
  · subst q; exact ⟨_, hTO, λ v z => by cases z⟩
  · subst q
    obtain ⟨o, n, q, _, _, _, _, _, d⟩ := R1.ob _ _ h1
    exact ⟨o, q, d⟩
  · subst q
    obtain ⟨o, n, q, _, _, _, _, _, d⟩ := R2.ob _ _ h2
    exact ⟨o, q, d⟩
 keep := λ i h h' st k => by
  obtain ⟨hz, hTI, ⟨a, b', hTO⟩, h1, h2, q1, q2⟩ := st
  exact ⟨k z (by simp) _ hz, k TI (by simp) _ hTI, ⟨a, b', k TO (by simp) _ hTO⟩, R1.at_ _ _ _ h1 λ o q => k i1 (by simp) o q, R2.at_ _ _ _ h2 λ o q => k i2 (by simp) o q, q1, q2⟩
 item := by
  intro X hP hw hK hc i pins s σ H E I hf st hg
  obtain ⟨xs, ys, x, y, hq1, hq2, hx, hy⟩ := hg
  obtain ⟨hz, hTI, ⟨a, b', hTO⟩, h1, h2, q1, q2⟩ := st
  obtain ⟨is1, SA1, rv1, sa1, ⟨oa1, na1, ea1, ca1, da1⟩, dr1⟩ := R1.dr X hP hw hK pins σ H s xs I hq1
  obtain ⟨is2, SA2, rv2, sa2, ⟨oa2, na2, ea2, ca2, da2⟩, dr2⟩ := R2.dr X hP hw hK pins σ H s ys I hq2
  obtain ⟨o1, n1, e1, c1, d11, d12, d13, d14, _⟩ := R1.ob _ _ h1
  obtain ⟨o2, n2, e2, c2, d21, d22, d23, d24, _⟩ := R2.ob _ _ h2
  have s11 : a1 ≠ i1 := type_ne ea1 ca1 e1 c1 (by rcases da1 with z | z <;> (subst z; first | exact d11.symm | exact d12.symm))
  have s22 : a2 ≠ i2 := type_ne ea2 ca2 e2 c2 (by rcases da2 with z | z <;> (subst z; first | exact d21.symm | exact d22.symm))
  have s12 : a1 ≠ i2 := type_ne ea1 ca1 e2 c2 (by rcases da1 with z | z <;> (subst z; first | exact d21.symm | exact d22.symm))
  have s21 : a2 ≠ i1 := type_ne ea2 ca2 e1 c1 (by rcases da2 with z | z <;> (subst z; first | exact d11.symm | exact d12.symm))
  have sz1 : a1 ≠ z := type_ne ea1 ca1 hz rfl (by rcases da1 with z | z <;> (subst z; decide))
  have sz2 : a2 ≠ z := type_ne ea2 ca2 hz rfl (by rcases da2 with z | z <;> (subst z; decide))
  have tz : TI ≠ z := type_ne hTI rfl hz rfl (by decide)
  have oz : TO ≠ z := type_ne hTO rfl hz rfl (by decide)
  have iz1 : i1 ≠ z := type_ne e1 c1 hz rfl d14
  have iz2 : i2 ≠ z := type_ne e2 c2 hz rfl d24
  have oi1 : TO ≠ i1 := type_ne hTO rfl e1 c1 (Ne.symm d12)
  have oi2 : TO ≠ i2 := type_ne hTO rfl e2 c2 (Ne.symm d22)
  have ti1 : TI ≠ i1 := type_ne hTI rfl e1 c1 (Ne.symm d12)
  have ti2 : TI ≠ i2 := type_ne hTI rfl e2 c2 (Ne.symm d22)
  obtain ⟨u, hu, ru⟩ := rv1.get hx
  obtain ⟨v, hv, rv⟩ := rv2.get hy
  have hh : X.A.in1.handled = none := I.ok.hd hc
  have l1 : i < is1.toArray.size := by have := (Q10.mp hu).1; simpa using this
  have l2 : i < is2.toArray.size := by have := (Q10.mp hv).1; simpa using this
  subst hP hw
  have ap : ZA z TI TO i1 i2 [i1, a1] [i2, a2] := ⟨tz, oz, iz1, iz2, oi1, oi2, by simp [iz1.symm, sz1.symm], by simp [iz2.symm, sz2.symm], by simp [oi1, q1.symm], by simp [oi2, q2.symm], by simp [n12.symm, s12.symm], by simp [n12, s21.symm]⟩
  refine nextZ_item (dr1 _ hh s11) (dr2 _ hh s22) ap hz hTI hTO ⟨h1, sa1⟩ ⟨h2, sa2⟩ l1 l2 λ x' y' h' tk p1 p2 z' to' w1 w2 t' sz' hk => ?_
  have ex : x' = u := by
   have : is1[i]? = some x' := by simpa using p1
   rw [hu] at this; exact (zV this).symm
  have ey : y' = v := by
   have : is2[i]? = some y' := by simpa using p2
   rw [hv] at this; exact (zV this).symm
  subst ex ey
  refine ⟨_, rfl, wpAny_letOwnedTupleGo_zip z' λ g2 z2 cc => ?_⟩
  have cc : Heap.SameBut z h' g2 := cc
  have zl : z < s.heap.objs.size := hLs hz
  have t2 : IsPair g2 s.heap.objs.size x' y' := (cc.2 _ (nNg zl)).trans t'
  have I2 : Inv X pins σ (upd H s.heap.objs.size (.tup [x, y])) { s with heap := g2, toks := tk } := I.turnedN (ch := [z, TI, TO, i1, i2]) hf (λ b o hb q => by
   have hb' : b ≠ z /\ b ≠ TI /\ b ≠ TO /\ b ≠ i1 /\ b ≠ i2 := by simpa using hb
   exact (cc.2 _ hb'.1).trans (hk b o hb'.1 hb'.2.2.1 hb'.2.2.2.1 hb'.2.2.2.2 q)) (Q1 _) ⟨by show 2 <= sizeLine; decide, [x', y'], .cons ru (.cons rv .nil), ⟨_, t2, rfl, _, rfl⟩, _, t2, rfl⟩
  have hn : H s.heap.objs.size = none := I.hok.fresh (Q1 _)
  refine ⟨.ref s.heap.objs.size, _, I2, rfl, ⟨_, x, y, hn, rfl, rfl, λ zs hz' => by rw [R1.inj X hK pins σ H s zs xs I hz' hq1]; exact hx, λ zs hz' => by rw [R2.inj X hK pins σ H s zs ys I hz' hq2]; exact hy⟩,
   ⟨z2, (cc.2 _ tz).trans (hk _ _ tz nT ti1 ti2 hTI), ⟨_, _, (cc.2 _ oz).trans to'⟩, R1.at_ _ _ _ w1.1 λ o q => (cc.2 _ iz1).trans q, R2.at_ _ _ _ w2.1 λ o q => (cc.2 _ iz2).trans q, q1, q2⟩, λ b hb => ?_⟩
  have lb : b < s.heap.objs.size := by
   have hb' : b = z \/ b = TI \/ b = TO \/ b = i1 \/ b = i2 := by simpa using hb
   rcases hb' with q | q | q | q | q <;> rw [q]
   · exact zl
   · exact hLs hTI
   · exact hLs hTO
   · exact hLs e1
   · exact hLs e2
  rw [upd_ne (nNl lb)]
  exact (hf b hb).1
 done := by
  intro X hP hw hK hc i pins s σ H E I hf st hg
  obtain ⟨xs, hq1, hx⟩ := hg
  obtain ⟨hz, hTI, ⟨a, b', hTO⟩, h1, h2, q1, q2⟩ := st
  obtain ⟨is1, SA1, rv1, sa1, ⟨oa1, na1, ea1, ca1, da1⟩, dr1⟩ := R1.dr X hP hw hK pins σ H s xs I hq1
  obtain ⟨o1, n1, e1, c1, d11, d12, d13, d14, _⟩ := R1.ob _ _ h1
  obtain ⟨o2, n2, e2, c2, d21, d22, d23, d24, _⟩ := R2.ob _ _ h2
  have s11 : a1 ≠ i1 := type_ne ea1 ca1 e1 c1 (by rcases da1 with z | z <;> (subst z; first | exact d11.symm | exact d12.symm))
  have s12 : a1 ≠ i2 := type_ne ea1 ca1 e2 c2 (by rcases da1 with z | z <;> (subst z; first | exact d21.symm | exact d22.symm))
  have sz1 : a1 ≠ z := type_ne ea1 ca1 hz rfl (by rcases da1 with z | z <;> (subst z; decide))
  have tz : TI ≠ z := type_ne hTI rfl hz rfl (by decide)
  have oz : TO ≠ z := type_ne hTO rfl hz rfl (by decide)
  have iz1 : i1 ≠ z := type_ne e1 c1 hz rfl d14
  have iz2 : i2 ≠ z := type_ne e2 c2 hz rfl d24
  have oi1 : TO ≠ i1 := type_ne hTO rfl e1 c1 (Ne.symm d12)
  have oi2 : TO ≠ i2 := type_ne hTO rfl e2 c2 (Ne.symm d22)
  have hh : X.A.in1.handled = none := I.ok.hd hc
  subst hP hw
  have hl : is1.toArray.size = i := by rw [<- hx, rv1.length]; simp
  have ap : ZA z TI TO i1 i2 [i1, a1] [] := ⟨tz, oz, iz1, iz2, oi1, oi2, by simp [iz1.symm, sz1.symm], by simp, by simp [oi1, q1.symm], by simp, by simp [n12.symm, s12.symm], by simp⟩
  refine nextZ_end (dr1 _ hh s11) ap hz hTI hTO (by rw [hl]; exact ⟨h1, sa1⟩) λ h' eb => ⟨rfl, I.turned0 (t' := s.toks) (ch := [z, TI, TO, i1, i2]) hf λ b u hb q => ?_⟩
  have hb' : b ≠ z /\ b ≠ TI /\ b ≠ TO /\ b ≠ i1 /\ b ≠ i2 := by simpa using hb
  exact eb b u hb'.1 hb'.2.2.2.1 q
 self := λ A i s Q E st h => wpAny_pyIter_zip st.1 h
section
variable {X : Cx} {es : List Expr} {k1 : Nat} {tp : Pos}
def iZipT (K : Fg) (ta : TA) : TI := λ σ H R => ta σ H λ vs H1 => ∃ a b, vs = [.ref a, .ref b] /\ (∃ xs, SqT K H1 a xs) /\ (∃ ys, SqT K H1 b ys) /\ R (Itz (λ H xs => SqT K H a xs) λ H xs => SqT K H b xs) H1
theorem pi_zipT {a b : Expr} {ta : TA} {p pos : Pos} (hg : Gl X "zip") (hm : X.mg "zip" = none) (ha : PA X [a, b] ta) (hs : starEach [a, b] X.env = [(false, eval a X.env), (false, eval b X.env)] := by rfl) (hs2 : starEach [b] X.env = [(false, eval b X.env)] := by rfl) :
 PI X (.Tuple es k1 tp) (.Call (.Name "zip" p) [a, b] [] pos) (iZipT X.K ta) := by
 intro pins s σ H R I h
 refine Call_ (ld_blt I hg hm boot_zip (PyProof.Rows.callWith_type1 (thn (ha pos pins s σ H _ I h) λ us s1 q_ => ?_) (by rw [hs, hs2]) (by rw [hs2]; rfl)))
 obtain ⟨vs, H1, I1, r1, q1⟩ := q_
 obtain ⟨c, d, e, ⟨xs, hx⟩, ⟨ys, hy⟩, q⟩ := q1
 subst e
 cases r1 with
 | cons r rr =>
  cases rr with
  | cons r' rr =>
   cases rr
   cases r
   cases r'
   obtain ⟨its, rv, pt, hz⟩ := I1.tuple hx
   obtain ⟨its2, rv2, pt2, hz2⟩ := I1.tuple hy
   refine call_zipT (show s1.heap.IsTuple c its.toArray from pt) (show s1.heap.IsTuple d its2.toArray from pt2) λ h' q1 q2 q3 q4 q5 q6 q7 => ?_
   have lc := pt.lt
   have ld := pt2.lt
   refine wpAny_pyIter_zip q1 ⟨_, [_, _, _, _, _], _, _, H1, rfl, I1.kept (t' := s1.toks) q7, turn_zip (TI := s1.heap.objs.size + 2) (TO := s1.heap.objs.size + 3) (srcT c s1.heap.objs.size) (srcT d (s1.heap.objs.size + 1)) (nNl (Q21 _)) (nNl (Q21 _)), ⟨q1, q2, ⟨_, _, q3⟩, q4, q5, nNl (nLl lc (Q22 _ _)), nNl (nLl ld (Q22 _ _))⟩, λ b hb => ?_, q⟩
   have hb' : b = s1.heap.objs.size + 4 \/ b = s1.heap.objs.size + 2 \/ b = s1.heap.objs.size + 3 \/ b = s1.heap.objs.size \/ b = s1.heap.objs.size + 1 := by simpa using hb
   have hle : s1.heap.objs.size <= b := by
    rcases hb' with z | z | z | z | z <;> rw [z]
    all_goals first | exact Q1 _ | exact Q22 _ _
   exact I1.fpOk hle (I1.hok.fresh hle)
end
mutual
noncomputable def IsD (K : Fg) (H : Hp) (x : V) : PyData -> Prop
 | .none => x = .non
 | .bool b => x = .bl b
 | .int i => x = .int i
 | .str y => x = .str y
 | .list ds => ∃ a xs, x = .ref a /\ SqL K H a xs /\ AllD K H xs ds
 | .tuple ds => ∃ a xs, x = .ref a /\ SqT K H a xs /\ AllD K H xs ds
 | .dict _ => False
noncomputable def AllD (K : Fg) (H : Hp) (xs : List V) : List PyData -> Prop
 | [] => xs = []
 | d :: ds => ∃ x r, xs = x :: r /\ IsD K H x d /\ AllD K H r ds
end
theorem same_new {H : Hp} {p : Addr} (h : H p = none) (o : HO) : Same H (upd H p o) := λ b u q => by rw [upd_ne (ne_of_none q h)]; exact q
section
variable {X : Cx} {pins : List (Addr × Obj)} {σ : St} {H : Hp} {s : Shared}
mutual
theorem IsD.reads (I : Inv X pins σ H s) : ∀ {x : V} {u : Value} (d : PyData), IsD X.K H x d -> RelV x u -> ∃ as, Reads s.heap u d as
 | _, _, .none, h, r => by rw [show _ = V.non from h] at r; cases r; exact ⟨_, .none⟩
 | _, _, .bool b, h, r => by rw [show _ = V.bl b from h] at r; cases r; exact ⟨_, .bool b⟩
 | _, _, .int i, h, r => by rw [show _ = V.int i from h] at r; obtain ⟨t, rfl⟩ := r; exact ⟨_, .int i t⟩
 | _, _, .str y, h, r => by rw [show _ = V.str y from h] at r; obtain ⟨t, rfl⟩ := r; exact ⟨_, .str y t⟩
 | _, _, .list ds, h, r => by
  obtain ⟨a, xs, e, q, al⟩ := h
  subst e
  cases r
  obtain ⟨its, rv, p, _⟩ := I.list q
  obtain ⟨o, h1, h2, n, h3⟩ := p.isList
  obtain ⟨as, ra⟩ := AllD.reads I ds al rv
  exact ⟨_, .list h1 h2 h3 (by simpa using ra)⟩
 | _, _, .tuple ds, h, r => by
  obtain ⟨a, xs, e, q, al⟩ := h
  subst e
  cases r
  obtain ⟨its, rv, p, _⟩ := I.tuple q
  obtain ⟨o, h1, h2, n, h3⟩ := p
  obtain ⟨as, ra⟩ := AllD.reads I ds al rv
  exact ⟨_, .tuple h1 h2 h3 (by simpa using ra)⟩
 | _, _, .dict _, h, _ => h.elim
theorem AllD.reads (I : Inv X pins σ H s) : ∀ {xs : List V} {us : List Value} (ds : List PyData), AllD X.K H xs ds -> Vals xs us -> ∃ as, ReadsAll s.heap us ds as
 | _, _, [], h, r => by rw [show _ = [] from h] at r; cases r; exact ⟨_, .nil⟩
 | _, _, d :: ds, h, r => by
  obtain ⟨x, rr, e, q, al⟩ := h
  subst e
  cases r with
  | cons r1 r2 =>
   obtain ⟨as, ra⟩ := IsD.reads I d q r1
   obtain ⟨bs, rb⟩ := AllD.reads I ds al r2
   exact ⟨_, .cons ra rb⟩
end
def cmpOk (d : PyData) : Prop := d.canLay0 = true /\ d.depth <= 60
def rEqD (K : Fg) (neg : Bool) : R2 := λ x y H Q => ∃ da db, IsD K H x da /\ IsD K H y db /\ cmpOk da /\ cmpOk db /\ Q (.bl (if neg then !PyData.eqv da db else PyData.eqv da db)) H
theorem op_eqD (hu : X.A.units + 64 < cLine) : OpR X (compareOp .Eq) (rEqD X.K false) := by
 intro pins s σ H x y v u Q I rx ry h
 obtain ⟨da, db, hx, hy, ca, cb, q⟩ := h
 obtain ⟨as, ra⟩ := hx.reads I _ rx
 obtain ⟨bs, rb⟩ := hy.reads I _ ry
 exact SeqAt.compareEq_reads ra rb ca.1 cb.1 (by have := ca.2; omega) ⟨.bl _, H, I, rfl, q⟩
theorem op_neD (hu : X.A.units + 64 < cLine) : OpR X (compareOp .NotEq) (rEqD X.K true) := by
 intro pins s σ H x y v u Q I rx ry h
 obtain ⟨da, db, hx, hy, ca, cb, q⟩ := h
 obtain ⟨as, ra⟩ := hx.reads I _ rx
 obtain ⟨bs, rb⟩ := hy.reads I _ ry
 exact SeqAt.compareNe_reads ra rb ca.1 cb.1 (by have := ca.2; omega) ⟨.bl _, H, I, rfl, q⟩
def rAll (K : Fg) : List V -> Hp -> VK -> Prop := λ xs H Q => ∃ (p : Addr) (bs : List Bool), xs = [.ref p] /\ SqL K H p (bs.map V.bl) /\ Q (.bl (bs.all id)) H
theorem all_range {bs : List Bool} : (List.range bs.length).all (λ i => bs.getD i true) = bs.all id := by
 rw [Bool.eq_iff_iff, Q12, Q12]
 constructor
 · intro h x hx
   obtain ⟨i, hi, e⟩ := List.mem_iff_getElem.mp hx
   have := h i (by simpa using hi)
   rw [gDq, gEq hi, e] at this
   exact this
 · intro h i hi
   have hi' : i < bs.length := by simpa using hi
   rw [gDq, gEq hi']
   exact h _ (Q17 hi')
theorem call_all (hc : X.calm = true) : CallR X (.builtin "all") (rAll X.K) := by
 intro pins s σ H xs us Q I rv h
 obtain ⟨p, bs, rfl, hq, q⟩ := h
 obtain ⟨u, rfl, r⟩ := rv.one
 cases r
 obtain ⟨its, rr, pl, hz⟩ := I.list hq
 have hl : its.length = bs.length := by rw [<- rr.length, zJ]
 have hh : X.A.in1.handled = none := I.ok.hd hc
 have lp : p < s.heap.objs.size := by obtain ⟨o, e, _⟩ := pl.isList; exact hLs e
 refine call_all_walk (wpAny_pyIter_list pl.isList ⟨_, _, _, _, _, _, λ i => bs.getD i true, rfl, Walks.list hh s.heap.objs.size p (nNl lp) its.toArray, ⟨⟨_, hPs _ rfl, rfl, rfl⟩, pl.isList.push _⟩, ?_, λ h' tk k => ?_⟩)
 · intro i v s' Q' E' hP hQ
   have hP' : its[i]? = some v := by simpa using hP
   have hi : i < its.length := (Q10.mp hP').1
   have hb : (bs.map V.bl)[i]? = some (.bl (bs[i]'(by omega))) := by rw [zK, gEq (by omega)]; rfl
   obtain ⟨u, hu, ru⟩ := rr.get hb
   rw [hP'] at hu
   cases hu
   cases ru
   have e : bs.getD i true = bs[i]'(by omega) := by rw [gDq, gEq (by omega)]; rfl
   have hQ' : Q' (bs.getD i true) s' := hQ
   rw [e] at hQ'
   exact wpAny_truthy_bool hQ'
 · have e : (List.range its.toArray.size).all (λ i => bs.getD i true) = bs.all id := by rw [zM, hl, all_range]
   rw [e]
   refine ⟨.bl _, H, ?_, rfl, q⟩
   refine I.kept λ b o eb => k b o ?_ (hPo _ eb)
   simp only [Q13]
   exact nNl (hLs eb)
def rRemove : V -> List V -> Hp -> VK -> Prop := λ x vs H Q => ∃ (l : Addr) (ns : List Int) (n : Int), x = .ref l /\ vs = [.int n] /\ H l = some (.lst (ns.map V.int)) /\ n ∈ ns /\ Q .non (upd H l (.lst ((ns.erase n).map V.int)))
theorem map_erase (n : Int) (ns : List Int) : ∀ {us : List Value}, Vals (ns.map V.int) us -> n ∈ ns -> ∃ j, ∃ (hj : j < us.length), eqU (.int n) us[j] = true /\ (∀ m (hm : m < us.length), m < j -> eqU (.int n) us[m] = false) /\ Vals ((ns.erase n).map V.int) (us.eraseIdx j) := by
 induction ns with
 | nil => intro us _ h; simp at h
 | cons a r ih =>
  intro us rv h
  cases rv with
  | @cons _ b _ l2 r1 r2 =>
   obtain ⟨t, rfl⟩ := (show ∃ t, b = Value.int a t from r1)
   by_cases e : a = n
   · subst e
     refine ⟨0, by simp, ?_, λ m _ hm => absurd hm (Nat.not_lt_zero _), ?_⟩
     · show eqV (.int a) (.int a) = true
       simp [eqV]
     · simpa using r2
   · have hr : n ∈ r := by
      rcases Q2.mp h with z | z
      · exact absurd z.symm e
      · exact z
     obtain ⟨j, hj, h1, h2, h3⟩ := ih r2 hr
     refine ⟨j + 1, by simpa using hj, by simpa using h1, λ m hm hmj => ?_, ?_⟩
     · cases m with
       | zero =>
        show eqV (.int a) (.int n) = false
        simp [eqV, e]
       | succ m => simpa using h2 m (by simpa using hm) (by omega)
     · rw [List.erase_cons_tail (by simpa using e)]
       exact .cons ⟨t, rfl⟩ h3
theorem mt_remove : MtM X "list.remove" rRemove := by
 intro pins s σ H x vs v us Q I rx rv h
 obtain ⟨l, ns, n, rfl, rfl, hH, hm, q⟩ := h
 cases rx
 obtain ⟨u, rfl, ru⟩ := rv.one
 obtain ⟨z, its, k, r, hl, e⟩ := I.lstM hH
 obtain ⟨t, rfl⟩ := (show ∃ t, u = Value.int n t from ru)
 obtain ⟨j, hj, h1, h2, h3⟩ := map_erase n ns r hm
 have hz : its.length <= sizeLine := by rw [<- hl]; exact z
 refine call_meets F.slot_list_remove ⟨_, e, rfl⟩ F.entry_list_remove (F.args_list_remove_2 _ _) (MeetsSeq.list_remove l its.toArray k (.int n t) (eqU (.int n)) ?_ j (by simpa using hj) (by simpa using h1) (λ m hm hmj => by simpa using h2 m (by simpa using hm) hmj) (by rw [zM]; exact hz)) ⟨e, ?_⟩
 · intro y hy
   have hy' : y ∈ its := by simpa using hy
   obtain ⟨i, hi, ei⟩ := List.mem_iff_getElem.mp hy'
   have hl' : (ns.map V.int).length = its.length := r.length
   have hi' : i < ns.length := by rw [zJ] at hl'; omega
   obtain ⟨u, hu, ru⟩ := r.get (i := i) (x := .int ns[i]) (by rw [zK, gEq hi'] <;> rfl)
   rw [gEq hi, ei] at hu
   cases hu
   obtain ⟨t', rfl⟩ := ru
   exact MeetsSeq.EqGives.int ns[i] n t' t
 · refine ⟨.non, _, I.lset (its' := its.eraseIdx j) hH e (by simp [Array.eraseIdxIfInBounds, hj]) h3 ?_, rfl, q⟩
   rw [zJ]
   have := List.length_erase_le (a := n) (l := ns)
   rw [zJ] at z
   omega
end
section
variable {prog : Program} {w : World} {A : Around} {E : Value -> Shared -> Prop} {s : Shared}
end
section
variable {X : Cx}
end
section
variable {prog : Program} {w : World} {A : Around} {E : Value -> Shared -> Prop} {s : Shared}
theorem cat_nil {t b : Addr} {vs ws : List Value} {Q : Value -> Shared -> Prop} (ht : IsTup s.heap t vs.toArray) (hb : IsTup s.heap b ws.toArray) (hv : vs = []) (h : Q (.ref b) s) : wpAny (model prog w) A (binaryOp .Add (.ref t) (.ref b)) Q E s := by
 obtain ⟨⟨cls, dd, data, sl⟩, ho, hc, n, hd⟩ := id ht
 obtain ⟨⟨cls2, dd2, data2, sl2⟩, ho2, hc2, n2, hd2⟩ := id hb
 simp only at hc hd hc2 hd2
 subst hc hd hc2 hd2
 exact concat_meets ⟨_, ho, rfl⟩ ⟨_, ho2, rfl⟩ noFill_tuple_add seq_tuple_add PySem.F.slot_tuple_add PySem.F.entry_tuple_add (PySem.F.args_tuple_add_2 _ _) (tuple_addW0 t b vs.toArray ws.toArray n n2 dd dd2 sl sl2 (by simp [hv])) ⟨ho, ho2, h⟩
end
section
variable {X : Cx}
end
structure Own (P : Program) (w : World) (K : Fg) (mg : Str -> Option Value) (base : Heap) (k : Nat) (x : Str) (ps : List Str) (sp : Sp) : Prop where
 ex : ∃ (f : Addr) (fd : FuncData), FnOk P w K mg base CX0 k f fd ps sp /\ mg x = some (.ref f) /\ PySem.W.keepIn K (.ref f) = true /\ Binds K fd ps []
section
variable {X : Cx}
theorem pe_own {k n : Nat} {x : Str} {ps : List Str} {sp : Sp} {p pos : Pos} {e : Expr} {es : List Expr} {t : TA} (O : Own X.prog X.w X.K X.mg X.base k x ps sp) (hr : Room n X.A) (ha : PA X (e :: es) t) (hkn : k <= n := by decide) (hg : Gl X x := by rfl)
 (hdb : (x == ("__debug__" : Str)) = false := by decide) (he : starEach (e :: es) X.env = (false, eval e X.env) :: starEach es X.env := by rfl) (hpl : (backTo pos (starEach es X.env)).any (·.1) = false := by rfl) :
 PE X (.Call (.Name x p) (e :: es) [] pos) (tCall sp [] E0 t) := by
 obtain ⟨f, fd, F, m, kp, b⟩ := O.ex
 exact pe_call F (hr.mono hkn) hg m kp b .nil pass0 ha hdb he hpl
end
structure Bt (mg : Str -> Option Value) : Prop where
 len : mg "len" = none
 isinstance : mg "isinstance" = none
 range : mg "range" = none
 int : mg "int" = none
 bool : mg "bool" = none
 tuple : mg "tuple" = none
 list : mg "list" = none
 all : mg "all" = none
 enumerate : mg "enumerate" = none
 zip : mg "zip" = none
 sum : mg "sum" = none
 sorted : mg "sorted" = none
 max : mg "max" = none
 min : mg "min" = none
 set : mg "set" = none
 str : mg "str" = none
theorem boot_isi : bootBuiltins "isinstance" = some (.builtin "isinstance") := by decide +kernel
theorem small {n : Nat} (h : n <= 1000) : n <= sizeLine := nLe (small1000 h)
section
variable {X : Cx}
end
section
variable {X : Cx}
theorem kx_in (K : Fg) (h : X.K = K := by rfl) : OpR X (compareOp .In) (rIn K false) := h ▸ op_in_seq
theorem kx_eqD (K : Fg) (hu : X.A.units + 64 < cLine) (h : X.K = K := by rfl) : OpR X (compareOp .Eq) (rEqD K false) := h ▸ op_eqD hu
theorem kx_neD (K : Fg) (hu : X.A.units + 64 < cLine) (h : X.K = K := by rfl) : OpR X (compareOp .NotEq) (rEqD K true) := h ▸ op_neD hu
def rListOf (K : Fg) : List V -> Hp -> VK -> Prop := λ xs H Q => ∃ p ys, xs = [.ref p] /\ (SqL K H p ys \/ SqT K H p ys) /\ ∀ l, H l = none -> Q (.ref l) (upd H l (.lst ys))
def rTupleOf (K : Fg) : List V -> Hp -> VK -> Prop := λ xs H Q => ∃ p ys, xs = [.ref p] /\ ((SqL K H p ys /\ ∀ l, H l = none -> Q (.ref l) (upd H l (.tup ys))) \/ (SqT K H p ys /\ Q (.ref p) H))
theorem kx_list (K : Fg) (h : X.K = K := by rfl) : CallR X (.type "list") (rListOf K) := h ▸ call_list_of
theorem kx_tuple (K : Fg) (h : X.K = K := by rfl) : CallR X (.type "tuple") (rTupleOf K) := h ▸ call_tuple_of
theorem kx_all (K : Fg) (h : X.K = K := by rfl) (hc : X.calm = true := by rfl) : CallR X (.builtin "all") (rAll K) := h ▸ call_all hc
theorem kx_zip {es : List Expr} {k1 : Nat} {tp : Pos} {a b : Expr} {ta : TA} {p pos : Pos} (K : Fg) (hm : X.mg "zip" = none) (ha : PA X [a, b] ta) (h : X.K = K := by rfl) (hg : Gl X "zip" := by rfl) (hs : starEach [a, b] X.env = [(false, eval a X.env), (false, eval b X.env)] := by rfl) (hs2 : starEach [b] X.env = [(false, eval b X.env)] := by rfl) :
 PI X (.Tuple es k1 tp) (.Call (.Name "zip" p) [a, b] [] pos) (iZipT K ta) := h ▸ pi_zipT hg hm ha hs hs2
theorem kx_pair {es : List Expr} {k1 : Nat} {t : TGs} {n : Nat} {pos : Pos} (K : Fg) (h2 : PGs X es t) (h : X.K = K := by rfl) (hc : X.calm = true := by rfl) (hn : (assignEach es X.env).length = n := by rfl) (hst : (assignEach es X.env).findIdx? (·.1) = none := by rfl) : PG X (.Tuple es k1 pos) (gTup K n t) := h ▸ pg_tup hc h2 hn hst
def tTru (K : Fg) (ta : TE) : TT := λ σ H Q => ta σ H λ x H' => ∃ k, TruV K x H' k /\ Q k H'
theorem kx_tru {a : Expr} {ta : TE} (K : Fg) (ha : PE X a ta) (h : X.K = K := by rfl) (he : ∀ whole, isTrue a X.env whole = (do let v <- whole; standAt a.pos; holding [v] (truthy v)) := by intro _; rfl) : PT X a (tTru K ta) := h ▸ pt_truth ha he
end
theorem inV_int (c : Int) : ∀ u : List Int, inV (.int c) (u.map V.int) = decide (c ∈ u)
 | [] => rfl
 | a :: u => by
  have ih := inV_int c u
  show (eqV (.int a) (.int c) || inV (.int c) (u.map V.int)) = _
  rw [ih]
  show ((a == c) || decide (c ∈ u)) = _
  by_cases e : a = c
  · subst e; simp
  · have e' : ¬ c = a := λ z => e z.symm
    have : (a == c) = false := by simpa using e
    rw [this]
    simp [e']
theorem flat_ints : ∀ u : List Int, (u.map V.int).all flatV = true
 | [] => rfl
 | _ :: u => by
  show (true && (u.map V.int).all flatV) = true
  rw [flat_ints u]
  rfl
theorem cells_mem : ∀ {names : List (Str × NameKind)} {n : Nat} {acc : List (Str × Addr)} {x : Str} {c : Addr}, (x, c) ∈ cellsFrom n names acc -> (x, c) ∈ acc \/ (n <= c /\ (x, NameKind.cell) ∈ names)
 | [], n, acc, x, c, h => .inl h
 | (y, k) :: r, n, acc, x, c, h => by
  unfold cellsFrom at h
  by_cases hk : (k == .cell) = true
  · rw [if_pos hk] at h
    have hk' : k = .cell := by simpa using hk
    rcases cells_mem h with q | ⟨q1, q2⟩
    · rcases Q2.mp q with q | q
      · injection q with q1 q2
        subst q1 q2
        exact .inr ⟨Q1 _, by rw [hk']; exact lMs⟩
      · exact .inl q
    · exact .inr ⟨Nat.le_of_succ_le q1, lMc _ q2⟩
  · rw [if_neg hk] at h
    rcases cells_mem h with q | ⟨q1, q2⟩
    · exact .inl q
    · exact .inr ⟨q1, lMc _ q2⟩
theorem cells_inj : ∀ {names : List (Str × NameKind)} {n : Nat} {acc : List (Str × Addr)} {x y : Str} {c : Addr}, (∀ z ∈ acc, z.2 < n) -> (x, c) ∈ cellsFrom n names acc -> (y, c) ∈ cellsFrom n names acc -> n <= c -> x = y
 | [], n, acc, x, y, c, ha, h1, _, hc => absurd (ha _ h1) (Nat.not_lt.mpr hc)
 | (z, k) :: r, n, acc, x, y, c, ha, h1, h2, hc => by
  unfold cellsFrom at h1 h2
  by_cases hk : (k == .cell) = true
  · rw [if_pos hk] at h1 h2
    have ha' : ∀ w ∈ (z, n) :: acc, w.2 < n + 1 := λ w hw => by
     rcases Q2.mp hw with q | q
     · rw [q]; exact Q21 _
     · exact Q2a (ha w q)
    by_cases e : c = n
    · subst e
      have only : ∀ {u : Str}, (u, c) ∈ cellsFrom (c + 1) r ((z, c) :: acc) -> u = z := λ {u} hu => by
       rcases cells_mem hu with q | ⟨q, _⟩
       · rcases Q2.mp q with q | q
         · injection q
         · exact absurd (ha _ q) (zT _)
       · exact absurd q (Nat.not_succ_le_self _)
      rw [only h1, only h2]
    · exact cells_inj ha' h1 h2 (Nat.succ_le_of_lt (Nat.lt_of_le_of_ne hc (λ q => e q.symm)))
  · rw [if_neg hk] at h1 h2
    exact cells_inj ha h1 h2 hc
theorem cells_new {lo : Nat} : ∀ {names : List (Str × NameKind)} {n : Nat} {acc : List (Str × Addr)} {x : Str} {c : Addr}, lo <= n -> (names.lookup x = some .cell \/ ∃ c0, acc.lookup x = some c0 /\ lo <= c0) -> (cellsFrom n names acc).lookup x = some c -> lo <= c
 | [], n, acc, x, c, hn, h, e => by
  rcases h with h | ⟨c0, h1, h2⟩
  · simp at h
  · have e' : acc.lookup x = some c := e
    rw [h1] at e'
    cases e'
    exact h2
 | (y, k) :: r, n, acc, x, c, hn, h, e => by
  unfold cellsFrom at e
  by_cases hk : (k == .cell) = true
  · rw [if_pos hk] at e
    refine cells_new (Nat.le_succ_of_le hn) ?_ e
    cases hx : x == y with
    | true => exact .inr ⟨n, by simp [Q11, hx], hn⟩
    | false =>
     rcases h with h | ⟨c0, h1, h2⟩
     · exact .inl (by simpa only [Q11, hx] using h)
     · exact .inr ⟨c0, by simpa only [Q11, hx] using h1, h2⟩
  · rw [if_neg hk] at e
    refine cells_new hn ?_ e
    rcases h with h | h
    · cases hx : x == y with
      | true =>
       simp only [Q11, hx] at h
       have : k = .cell := zV h
       rw [this] at hk
       exact absurd rfl hk
      | false => exact .inl (by simpa only [Q11, hx] using h)
    · exact .inr h
theorem cells_old : ∀ {names : List (Str × NameKind)} {n : Nat} {acc : List (Str × Addr)} {x : Str}, (∀ y ∈ names, y.1 = x -> y.2 ≠ .cell) -> (cellsFrom n names acc).lookup x = acc.lookup x
 | [], _, _, _, _ => rfl
 | (y, k) :: r, n, acc, x, h => by
  have hr : ∀ z ∈ r, z.1 = x -> z.2 ≠ .cell := λ z hz => h z (lMc _ hz)
  unfold cellsFrom
  by_cases hk : (k == .cell) = true
  · rw [if_pos hk, cells_old hr]
    have hk' : k = .cell := by simpa using hk
    have hx : (x == y) = false := by
     have : y ≠ x := λ q => h (y, k) lMs q hk'
     simpa using λ q : x = y => this q.symm
    simp only [Q11, hx]
  · rw [if_neg hk, cells_old hr]
theorem push_cells : ∀ {names : List (Str × NameKind)} {h : Heap} {acc : List (Str × Addr)} {x : Str} {c : Addr}, (∀ z ∈ acc, z.2 < h.objs.size) -> (x, c) ∈ cellsFrom h.objs.size names acc -> h.objs.size <= c -> (pushCells h names).IsCell c none
 | [], h, acc, x, c, ha, hm, hc => absurd (ha _ hm) (Nat.not_lt.mpr hc)
 | (y, k) :: r, h, acc, x, c, ha, hm, hc => by
  unfold cellsFrom at hm
  unfold pushCells
  by_cases hk : (k == .cell) = true
  · rw [if_pos hk] at hm ⊢
    have z : (h.push { cls := .type "cell", data := .cell none }).objs.size = h.objs.size + 1 := Q19 ..
    have ha' : ∀ w ∈ (y, h.objs.size) :: acc, w.2 < (h.push { cls := .type "cell", data := .cell none }).objs.size := λ w hw => by
     rw [z]
     rcases Q2.mp hw with q | q
     · rw [q]; exact Q21 _
     · exact Q2a (ha w q)
    by_cases e : c = h.objs.size
    · exact ⟨_, pushCells_keeps _ _ _ _ (by rw [e]; exact hPs _ rfl), rfl⟩
    · rw [<- z] at hm
      exact push_cells ha' hm (by rw [z]; exact Nat.succ_le_of_lt (Nat.lt_of_le_of_ne hc λ q => e q.symm))
  · rw [if_neg hk] at hm ⊢
    exact push_cells ha hm hc
theorem relab_cf {env : Env} : ∀ {names : List (Str × NameKind)} {x : Str},
 (((names.map λ (n, k) => if (k == NameKind.free && env.scope.kind == .function && env.kindOf n == some .cell) then (n, NameKind.cell) else (n, k)).lookup x = some .cell) \/
  ((names.map λ (n, k) => if (k == NameKind.free && env.scope.kind == .function && env.kindOf n == some .cell) then (n, NameKind.cell) else (n, k)).lookup x = some .free)) ->
 names.lookup x = some .cell \/ names.lookup x = some .free
 | [], x, h => by rcases h with h | h <;> simp at h
 | (n, k) :: r, x, h => by
  have e1 : ((n, k) :: r).map (λ (n, k) => if (k == NameKind.free && env.scope.kind == .function && env.kindOf n == some .cell) = true then (n, NameKind.cell) else (n, k)) =
   (if (k == NameKind.free && env.scope.kind == .function && env.kindOf n == some .cell) = true then (n, NameKind.cell) else (n, k)) :: r.map (λ (n, k) => if (k == NameKind.free && env.scope.kind == .function && env.kindOf n == some .cell) = true then (n, NameKind.cell) else (n, k)) := rfl
  rw [e1] at h
  cases hx : x == n with
  | true =>
   by_cases c : (k == NameKind.free && env.scope.kind == .function && env.kindOf n == some .cell) = true
   · have : k = .free := by
      simp only [Q4] at c
      simpa using c.1.1
     subst this
     right
     simp [Q11, hx]
   · rw [if_neg c] at h
     simpa only [Q11, hx] using h
  | false =>
   have : ((r.map λ (n, k) => if (k == NameKind.free && env.scope.kind == .function && env.kindOf n == some .cell) = true then (n, NameKind.cell) else (n, k)).lookup x = some .cell) \/
    ((r.map λ (n, k) => if (k == NameKind.free && env.scope.kind == .function && env.kindOf n == some .cell) = true then (n, NameKind.cell) else (n, k)).lookup x = some .free) := by
    by_cases c : (k == NameKind.free && env.scope.kind == .function && env.kindOf n == some .cell) = true
    · rw [if_pos c] at h; simpa only [Q11, hx] using h
    · rw [if_neg c] at h; simpa only [Q11, hx] using h
   have q := relab_cf this
   simpa only [Q11, hx] using q
section
variable {M : Model} {A : Around} {E : Value -> Shared -> Prop} {s : Shared}
theorem nfe_cells {scope : Scope} {cl : List (Str × Addr)} {env : Env} {Q : Env -> Shared -> Prop}
 (hQ : Q { scope := scope, locals := s.heap.objs.size, globals := env.globals, cells := cellsFrom (s.heap.objs.size + 1) scope.names cl, qual := env.qual, func := none, code := env.code, frame := env.frame, builtins := env.builtins }
  { s with heap := pushCells (s.heap.push { cls := .type "dict", data := .dict #[] }) scope.names }) : wpAny M A (newFunctionEnv scope env.globals cl [] env.qual none .none (some env)) Q E s := by
 simp only [newFunctionEnv, Option.isSome_some, if_true]
 refine wB (wpAny_alloc ?_)
 refine wB (wpAny_layCells _ (λ name kind cells => by cases hkc : kind == NameKind.cell <;> simp [hkc]) _ _ _ _ ?_)
 rw [show ({ s with heap := s.heap.push { cls := .type "dict", data := .dict #[] } } : Shared).heap.objs.size = s.heap.objs.size + 1 from Q19 ..]
 simp only [List.forIn_nil]
 exact wB (wP (wP hQ))
end
noncomputable def cxCp (X : Cx) (N : List Str) (sc : Scope) (C : Addr) (fp : List Addr) (s : Shared) (H : Hp) : Cx :=
 { X with N := N, s₀ := s, H₀ := H, env := compEnvC sc (cellsFrom (C + 1) sc.names (clOf X.env sc.names [])) C X.env, outer := X.stack, ex := fp, fn := λ x => sc.names.lookup x == some .cell, pn := [], xe := λ _ _ => False }
section
variable {X : Cx}
theorem cp_cells {pins : List (Addr × Obj)} {σ : St} {H : Hp} {s : Shared} {sc : Scope} (I : Inv X pins σ H s) (hfree : ∀ y ∈ sc.names, y.2 = .free -> X.env.kindOf y.1 = some .cell \/ X.env.kindOf y.1 = some .free) {x : Str} {c : Addr}
 (e : (x, c) ∈ cellsFrom (s.heap.objs.size + 2) sc.names (clOf X.env sc.names [])) : (X.env.cells.lookup x = some c /\ c < s.heap.objs.size) \/ s.heap.objs.size + 2 <= c := by
 have hcl : ∀ y ∈ sc.names, y.2 = .free -> ∃ c, X.env.cells.lookup y.1 = some c := λ y hy e => I.ok.has _ (hfree y hy e)
 rcases cells_mem e with q | ⟨q, _⟩
 · rcases clOf_mem hcl q with q | q
   · simp at q
   · obtain ⟨v, hv⟩ := I.cell x c q
     obtain ⟨o, ho, _⟩ := hv
     exact .inl ⟨q, hLs ho⟩
 · exact .inr q
theorem cp_acc {pins : List (Addr × Obj)} {σ : St} {H : Hp} {s : Shared} {sc : Scope} (I : Inv X pins σ H s) (hfree : ∀ y ∈ sc.names, y.2 = .free -> X.env.kindOf y.1 = some .cell \/ X.env.kindOf y.1 = some .free) :
 ∀ z ∈ clOf X.env sc.names [], z.2 < s.heap.objs.size := λ z hz => by
 have hcl : ∀ y ∈ sc.names, y.2 = .free -> ∃ c, X.env.cells.lookup y.1 = some c := λ y hy e => I.ok.has _ (hfree y hy e)
 rcases clOf_mem (x := z.1) (c := z.2) hcl hz with q | q
 · simp at q
 · obtain ⟨v, hv⟩ := I.cell _ _ q
   obtain ⟨o, ho, _⟩ := hv
   exact hLs ho
theorem cp_ok {pins : List (Addr × Obj)} {σ : St} {H : Hp} {s : Shared} {N : List Str} {sc : Scope} {fp : List Addr} (I : Inv X pins σ H s) (hk : sc.kind = .function)
 (hfree : ∀ y ∈ sc.names, y.2 = .free -> X.env.kindOf y.1 = some .cell \/ X.env.kindOf y.1 = some .free) (hf : ∀ b ∈ fp, FpOk X pins H b) (hb : ∀ b ∈ fp, b < s.heap.objs.size) :
 (cxCp X N sc (s.heap.objs.size + 1) fp s H).Ok := by
 have cc : ∀ x c, (cellsFrom (s.heap.objs.size + 2) sc.names (clOf X.env sc.names [])).lookup x = some c -> (X.env.cells.lookup x = some c /\ c < s.heap.objs.size) \/ s.heap.objs.size + 2 <= c := λ x c e => cp_cells I hfree (PySem.mem_of_lookup e)
 have ca : ∀ z ∈ clOf X.env sc.names [], z.2 < s.heap.objs.size + 2 := λ z hz => nLl (cp_acc I hfree z hz) (Q22 _ _)
 exact {
  mod := I.ok.mod
  kind := hk
  glob := I.ok.glob
  blt := I.ok.blt
  above := Nat.le_succ _
  inj := λ x y c h1 h2 => by
   have h1' : (cellsFrom (s.heap.objs.size + 2) sc.names (clOf X.env sc.names [])).lookup x = some c := h1
   have h2' : (cellsFrom (s.heap.objs.size + 2) sc.names (clOf X.env sc.names [])).lookup y = some c := h2
   rcases cc x c h1' with ⟨q1, l1⟩ | q1
   · rcases cc y c h2' with ⟨q2, _⟩ | q2
     · exact I.ok.inj x y c q1 q2
     · exact absurd (nLl l1 (Qb (Q22 _ 2) q2)) (zT _)
   · exact cells_inj ca (PySem.mem_of_lookup h1') (PySem.mem_of_lookup h2') q1
  has := λ x h => by
   have h' := relab_cf h
   have q : ((cellsFrom (s.heap.objs.size + 2) sc.names (clOf X.env sc.names [])).lookup x).isSome = true := by
    rcases h' with h' | h'
    · exact PySem.W.cellsFrom_some _ _ _ (.inl h')
    · obtain ⟨c, hc⟩ := clOf_has (env := X.env) (acc := []) (.inl (PySem.mem_of_lookup h'))
      obtain ⟨d, hd⟩ := lookup_of_mem hc
      exact PySem.W.cellsFrom_some _ _ _ (.inr (by rw [hd]; rfl))
   exact Option.isSome_iff_exists.mp q
  cab := λ x c h e => by
   have h' : sc.names.lookup x = some .cell := by simpa [cxCp] using h
   exact Qb (Q22 _ 2) (cells_new (Q1 _) (.inl h') e)
  hd := I.ok.hd
  frames := I.ok.frames
  stk := .inl rfl
  exf := λ b hb' => ⟨nNl (Q2a (hb b hb')), λ x c e => by
   rcases cc x c e with ⟨q, _⟩ | q
   · exact (hf b hb').2.2.2.2.1 x c q
   · exact nNg (nLl (hb b hb') (Qb (Q22 _ 2) q))⟩
  bs := I.bs
  bsz := Qb I.ok.bsz I.sz
  noex := λ b o e hb' => by
   rcases (hf b hb').2.2.2.1 with q | q
   · exact I.ok.noex b o e q
   · exact absurd (nLl (hLs e) (Qb I.ok.bsz q)) (zT _)
  exfs := λ b hb' hs => by
   have q := I.stkSub b hs
   rcases Q2.mp q with q | q
   · exact (hf b hb').2.1 q
   · exact (hf b hb').2.2.1 q
  funs := I.stack
  frf := I.stkFree }
theorem cp_start {pins : List (Addr × Obj)} {σ : St} {H : Hp} {s : Shared} {h1 : Heap} {own : List Str} {fr : List (Str × Nat)} {n : Nat} {sc : Scope} {fp : List Addr} {m : Str -> Option Value} {t' : Nat} (I : Inv X pins σ H s) (hk : sc.kind = .function)
 (hfree : ∀ y ∈ sc.names, y.2 = .free -> X.env.kindOf y.1 = some .cell \/ X.env.kindOf y.1 = some .free) (hfr : ∀ p ∈ fr, X.N[p.2]? = some p.1 /\ sc.names.lookup p.1 = some .free /\ ∀ y ∈ sc.names, y.1 = p.1 -> y.2 ≠ .cell) (hn : own.length = n) (hf : ∀ b ∈ fp, FpOk X pins H b) (hb : ∀ b ∈ fp, b < s.heap.objs.size)
 (ns : h1.Ns (s.heap.objs.size + 1) m) (hD : h1.get? s.heap.objs.size = some { cls := .type "list", data := .seq ([] : List Value).toArray }) (old : ∀ b o, s.heap.get? b = some o -> h1.get? b = some o)
 (hnc : ∀ x c, (x, c) ∈ cellsFrom (s.heap.objs.size + 2) sc.names (clOf X.env sc.names []) -> s.heap.objs.size + 2 <= c -> h1.IsCell c none) :
 Inv (cxCp X (own ++ fr.map (·.1)) sc (s.heap.objs.size + 1) fp s H) [] (st0 n fr σ) (upd H s.heap.objs.size (.lst [])) { s with heap := h1, toks := t' } := by
 have hcl : ∀ y ∈ sc.names, y.2 = .free -> ∃ c, X.env.cells.lookup y.1 = some c := λ y hy e => I.ok.has _ (hfree y hy e)
 have look : ∀ x c, (clOf X.env sc.names []).lookup x = some c -> X.env.cells.lookup x = some c := λ x c e => by
  rcases clOf_mem hcl (PySem.mem_of_lookup e) with q | q
  · simp at q
  · exact q
 have cellK : ∀ {c v}, s.heap.IsCell c v -> h1.IsCell c v := λ {c v} q => by
  obtain ⟨o, ho, r⟩ := q
  exact ⟨o, old _ _ ho, r⟩
 have cc : ∀ x c, (cellsFrom (s.heap.objs.size + 2) sc.names (clOf X.env sc.names [])).lookup x = some c -> (X.env.cells.lookup x = some c /\ c < s.heap.objs.size) \/ s.heap.objs.size + 2 <= c := λ x c e => cp_cells I hfree (PySem.mem_of_lookup e)
 have hnD : H s.heap.objs.size = none := I.hok.fresh (Q1 _)
 have hnC : H (s.heap.objs.size + 1) = none := I.hok.fresh (Nat.le_succ _)
 refine ⟨cp_ok I hk hfree hf hb, rfl, I.bare, Un.laid old (Q1 _) hnD, ⟨m, ns, λ i x v h1' h2 h3 => ?_⟩, λ x c e => ?_, ?_, λ x c e => ?_, λ p hp => ?_, I.hok.laid old (Q1 _) ?_, ?_⟩
 · obtain ⟨p, hp, e, q⟩ := st0_get hn h1' h2
   subst e
   obtain ⟨hN, hl, hno⟩ := hfr p hp
   obtain ⟨m0, _, q0⟩ := I.loc
   have kk := hfree (p.1, .free) (PySem.mem_of_lookup hl) rfl
   obtain ⟨u, ru, lk⟩ := q0 p.2 p.1 v hN q (.inr kk)
   refine ⟨u, ru, .inr ⟨relab_kind hl, ?_⟩⟩
   rcases lk with ⟨k1, _⟩ | ⟨_, c, e1, e2⟩
   · rcases kk with kk | kk
     · have kk' : X.env.kindOf p.1 = some .cell := kk
       rw [k1] at kk'; cases kk'
     · have kk' : X.env.kindOf p.1 = some .free := kk
       rw [k1] at kk'; cases kk'
   · obtain ⟨d, hd⟩ := clOf_has (env := X.env) (acc := []) (.inl (PySem.mem_of_lookup hl))
     obtain ⟨d', hd'⟩ := lookup_of_mem hd
     have e3 := look _ _ hd'
     rw [e1] at e3
     cases e3
     refine ⟨c, ?_, cellK e2⟩
     show (cellsFrom (s.heap.objs.size + 2) sc.names (clOf X.env sc.names [])).lookup p.1 = some c
     rw [cells_old hno]
     exact hd'
 · rcases cc x c e with ⟨q, _⟩ | q
   · obtain ⟨v, hv⟩ := I.cell x c q
     exact ⟨v, cellK hv⟩
   · exact ⟨none, hnc x c (PySem.mem_of_lookup e) q⟩
 · show upd H s.heap.objs.size _ (s.heap.objs.size + 1) = none
   rw [upd_ne (Nat.succ_ne_self _)]; exact hnC
 · show upd H s.heap.objs.size _ c = none
   rcases cc x c e with ⟨q, l⟩ | q
   · rw [upd_ne (nNl l)]; exact I.freeC x c q
   · rw [upd_ne (nNg (nLl (Q2a (Q21 _)) q))]
     exact I.hok.fresh (Qb (Q22 _ 2) q)
 · exact absurd (show p ∈ ([] : List (Addr × Obj)) from hp) (by simp)
 · exact ⟨by show 0 <= sizeLine; decide, [], _, .nil, hD⟩
 · show (st0 n fr σ).length = (own ++ fr.map (·.1)).length
   unfold st0
   simp [hn]
theorem cp_block {elt target iter : Expr} {ifs : List Expr} {sc : Scope} {pos : Pos} (own : List Str) (fr : List (Str × Nat)) {g : TG} {tc : TT} {te : TE} (hc : X.calm = true)
 (hk : sc.kind = .function) (hfree : ∀ y ∈ sc.names, y.2 = .free -> X.env.kindOf y.1 = some .cell \/ X.env.kindOf y.1 = some .free)
 (hfr : ∀ p ∈ fr, X.N[p.2]? = some p.1 /\ sc.names.lookup p.1 = some .free /\ ∀ y ∈ sc.names, y.1 = p.1 -> y.2 ≠ .cell)
 (hg : ∀ C fp s H, PG (cxCp X (own ++ fr.map (·.1)) sc C fp s H) target g) (ht : ∀ C fp s H, PTs (cxCp X (own ++ fr.map (·.1)) sc C fp s H) ifs tc) (he : ∀ C fp s H, PE (cxCp X (own ++ fr.map (·.1)) sc C fp s H) elt te)
 {pins : List (Addr × Obj)} {σ : St} {s2 : Shared} {RR : Value -> Addr -> Result -> Shared -> Prop} {Q : V -> Hp -> Prop} {itv : Value}
 (h2 : PIE X pins σ target (λ J H1 => ∀ acc, H1 acc = none ->
  ∃ W : Nat -> Nat -> St -> Hp -> Prop, (∃ m, W 0 m (st0 own.length fr σ) (upd H1 acc (.lst []))) /\ ∀ i m σ' H', W i m σ' H' ->
   (J.stop i H' /\ Q (.ref acc) H') \/ (J.go i H' /\ ∃ Nx : St -> Hp -> Prop, (∀ σ2 H2, Nx σ2 H2 -> ∃ m', m' < m /\ W (i + 1) m' σ2 H2) /\
    ∀ x H2, J.yld i H' x H2 -> g x σ' H2 λ σ2 H3 => tc σ2 H3 λ b H4 => if b = true then te σ2 H4 λ y H5 => ∃ ys, H5 acc = some (.lst ys) /\ ys.length < sizeLine /\ Nx σ2 (upd H5 acc (.lst (ys ++ [y]))) else Nx σ2 H4)) itv s2)
 (hRR : ∀ (D C : Addr) (s4 : Shared) (H3 : Hp) (m4 : Str -> Option Value), s2.heap.objs.size <= C -> s4.heap.Ns C m4 -> H3 C = none -> Q (.ref D) H3 ->
  (∀ h' : Heap, (∀ b, b ≠ C -> h'.get? b = s4.heap.get? b) -> Inv X pins σ H3 { s4 with heap := h' }) -> RR (.ref D) C (.ok .next) s4) :
 wpAny (model X.prog X.w) X.A (newList []) (λ acc s₃ => wpAny (model X.prog X.w) X.A (newFunctionEnv sc X.env.globals (clOf X.env sc.names []) [] X.env.qual none .none (some X.env)) (λ cenv s₄ =>
  codeAny (model X.prog X.w) X.A (.compStart (.ListComp elt [⟨target, iter, ifs, 0⟩] sc pos) 0 itv acc { cenv with scope := relabel sc X.env }) (RR acc cenv.locals) s₄) X.xe s₃) X.xe s2 := by
 obtain ⟨it, fp, tn, J, H2, e, I2, T, st2, f2, r⟩ := h2
 subst e
 refine wpAny_newObj_type (nfe_cells ?_)
 dsimp only
 generalize hH2 : s2.heap.push { cls := .type "list", dict := none, data := .seq ([] : List Value).toArray } = G2
 have hC : G2.objs.size = s2.heap.objs.size + 1 := by rw [<- hH2, Q19]
 have z3 : (G2.push { cls := .type "dict", data := .dict #[] }).objs.size = s2.heap.objs.size + 2 := by rw [Q19, hC]
 generalize hh1 : pushCells (G2.push { cls := .type "dict", data := .dict #[] }) sc.names = h₁
 have kp : ∀ b o, (G2.push { cls := .type "dict", data := .dict #[] }).get? b = some o -> h₁.get? b = some o := λ b o e => by rw [<- hh1]; exact pushCells_keeps _ _ b o e
 have old : ∀ b o, s2.heap.get? b = some o -> h₁.get? b = some o := λ b o e => kp b o (hPo _ (hH2 ▸ hPo _ e))
 have hD : h₁.get? s2.heap.objs.size = some { cls := .type "list", data := .seq ([] : List Value).toArray } := kp _ _ (hPo _ (hH2 ▸ hPs _ rfl))
 have hns₁ : h₁.Ns (s2.heap.objs.size + 1) (λ _ => none) := by
  rw [<- hC]
  exact (Heap.Ns.new G2 (.type "dict")).keeps kp
 have hnc : ∀ x c, (x, c) ∈ cellsFrom (s2.heap.objs.size + 2) sc.names (clOf X.env sc.names []) -> s2.heap.objs.size + 2 <= c -> h₁.IsCell c none := λ x c hm hc' => by
  rw [<- hh1]
  refine push_cells (acc := clOf X.env sc.names []) (x := x) (λ z hz => ?_) (by rw [z3]; exact hm) (by rw [z3]; exact hc')
  rw [z3]
  exact nLl (cp_acc I2 hfree z hz) (Q22 _ _)
 rw [hC]
 have below : ∀ b, b < s2.heap.objs.size -> b ≠ s2.heap.objs.size + 1 := λ b hb => nNl (Q2a hb)
 have hb : ∀ b ∈ fp, b < s2.heap.objs.size := λ b hb => by
  obtain ⟨o, e, _⟩ := T.obj _ _ st2 b hb
  exact hLs e
 have st1 : tn 0 h₁ := T.keep _ _ _ st2 λ b _ o e => old b o e
 obtain ⟨W, ⟨m0, w0⟩, turn⟩ := r s2.heap.objs.size (I2.hok.fresh (Q1 _))
 have J0 : ∀ t', Inv (cxCp X (own ++ fr.map (·.1)) sc (s2.heap.objs.size + 1) fp s2 H2) [] (st0 own.length fr σ) (upd H2 s2.heap.objs.size (.lst [])) { s2 with heap := h₁, toks := t' } := λ t' =>
  cp_start I2 hk hfree hfr rfl f2 hb hns₁ hD old hnc
 have fpn : ∀ b ∈ fp, upd H2 s2.heap.objs.size (.lst []) b = none := λ b hb' => by rw [upd_ne (nNl (hb b hb'))]; exact (f2 b hb').1
 have stat : ∀ {H' : Hp}, (∀ b ∈ fp, H' b = none) -> ∀ b ∈ fp, FpOk (cxCp X (own ++ fr.map (·.1)) sc (s2.heap.objs.size + 1) fp s2 H2) [] H' b := λ {H'} hn b hb' =>
  have ok := (J0 0).ok
  ⟨hn b hb', (ok.exf b hb').1, ok.exfs b hb', .inl hb', (ok.exf b hb').2, λ p hp => absurd (show p ∈ ([] : List (Addr × Obj)) from hp) (by simp)⟩
 have loop : ∀ s3 : Shared, s3 = { s2 with heap := h₁ } ->
  codeAny (model X.prog X.w) X.A (.compLoop (.ListComp elt [⟨target, iter, ifs, 0⟩] sc pos) 0 (.ref it) (.ref s2.heap.objs.size) (compEnvC sc (cellsFrom (s2.heap.objs.size + 1 + 1) sc.names (clOf X.env sc.names [])) (s2.heap.objs.size + 1) X.env))
   (RR (.ref s2.heap.objs.size) (s2.heap.objs.size + 1)) s3 := by
  rintro s3 rfl
  refine compLoop_go (λ n s' => ∃ i σ' H', Inv (cxCp X (own ++ fr.map (·.1)) sc (s2.heap.objs.size + 1) fp s2 H2) [] σ' H' s' /\ tn i s'.heap /\ (∀ b ∈ fp, H' b = none) /\ W i n σ' H') ?_ m0 ⟨0, _, _, J0 _, st1, fpn, w0⟩
  rintro n s3 ⟨i, σ3, H3, I3, st3, fr3, w3⟩
  rcases turn i n σ3 H3 w3 with ⟨stop, qn⟩ | ⟨go, N, hN, step⟩
  · refine thn (T.done (cxCp X (own ++ fr.map (·.1)) sc (s2.heap.objs.size + 1) fp s2 H2) rfl rfl rfl hc i [] s3 σ3 H3 (λ _ _ => False) I3 (stat fr3) st3 stop) λ r s4 q_ => ?_
    obtain ⟨hr, I4⟩ := q_
    subst hr
    obtain ⟨m4, ns4, _⟩ := I4.loc
    have hCn : H3 (s2.heap.objs.size + 1) = none := I4.free
    refine hRR _ _ s4 H3 m4 (Nat.le_succ _) ns4 hCn qn λ h' sb => ?_
    have u : Un (frs X.stack) fp H2 H3 s2.heap s4.heap := I4.base
    have u' : Un (frs X.stack) fp H2 H3 s2.heap h' := {
     keep := λ b o e n1 n2 n3 => (sb b (below b (hLs e))).trans (u.keep b o e n1 n2 n3)
     slot := λ b o e n1 n2 n3 => by
      obtain ⟨sl, q⟩ := u.slot b o e n1 n2 n3
      exact ⟨sl, (sb b (below b (hLs e))).trans q⟩
     free := u.free
     there := λ b o e n1 => by
      obtain ⟨o', q⟩ := u.there b o e n1
      exact ⟨o', (sb b (below b (hLs e))).trans q⟩
     tups := u.tups
     frzs := u.frzs
     tbls := u.tbls }
    have hok' : HOk X.prog X.w H3 h' := λ a o e => (I4.hok a o e).stay (λ b u q z => (sb b (by
     rcases q with q | q
     · subst q; exact ne_of_none e hCn
     · exact ne_of_none q hCn)).trans z) (λ _ q => q) (λ _ _ q => q) λ _ _ _ q => q
    exact I2.call' (s' := { s4 with heap := h' }) (ch := fp) I4.os u' hok' I4.bare λ b hb' => ⟨(f2 b hb').2.2.2.1, (f2 b hb').2.1, (f2 b hb').2.2.2.2.1, (f2 b hb').2.2.2.2.2⟩
  · refine thn (T.item (cxCp X (own ++ fr.map (·.1)) sc (s2.heap.objs.size + 1) fp s2 H2) rfl rfl rfl hc i [] s3 σ3 H3 (λ _ _ => False) I3 (stat fr3) st3 go) λ r s4 q_ => ?_
    obtain ⟨u, hr, h4⟩ := q_
    subst hr
    refine thn h4 λ _ s5 q_ => ?_
    obtain ⟨x, H5, I5, r5, y5, st5, fr5⟩ := q_
    have I5' := I5.pinned (stat fr5) (T.obj _ _ st5)
    refine thn (hg _ _ _ _ _ s5 σ3 H5 x u _ I5' r5 (step x H5 y5)) λ _ s6 q_ => ?_
    obtain ⟨σ6, H6, I6, q6⟩ := q_
    refine thn (ht _ _ _ _ _ s6 σ6 H6 _ I6 q6) λ b s7 q_ => ?_
    obtain ⟨H7, I7, q7⟩ := q_
    have again : ∀ {σ7 : St} {H7 : Hp} {s7 : Shared}, Inv (cxCp X (own ++ fr.map (·.1)) sc (s2.heap.objs.size + 1) fp s2 H2) ([] ++ pinsAt fp s5.heap) σ7 H7 s7 -> N σ7 H7 ->
     ∃ m, m < n /\ ∃ i σ' H', Inv (cxCp X (own ++ fr.map (·.1)) sc (s2.heap.objs.size + 1) fp s2 H2) [] σ' H' s7 /\ tn i s7.heap /\ (∀ b ∈ fp, H' b = none) /\ W i m σ' H' := λ {σ7 H7 s7} I7 n7 => by
     obtain ⟨m', hm, w7⟩ := hN σ7 H7 n7
     refine ⟨m', hm, i + 1, σ7, H7, I7.unpinned, T.keep _ _ _ st5 λ b hb o e => (I7.pin (b, o) (Qd _ (Qd _ (mem_pinsAt hb e)))).1, λ b hb => ?_, w7⟩
     obtain ⟨o, e, d⟩ := T.obj _ _ st5 b hb
     exact (I7.pin (b, o) (Qd _ (Qd _ (mem_pinsAt hb e)))).2.1
    cases b with
    | false =>
     have q7' : N σ6 H7 := q7
     rw [if_neg (by simp)]
     exact again I7 q7'
    | true =>
     rw [if_pos rfl]
     refine thn (he _ _ _ _ _ s7 σ6 H7 _ I7 q7) λ yv s8 q_ => ?_
     obtain ⟨y, H8, I8, r8, ys, e8, z8, n8⟩ := q_
     refine thn (mt_append (X := cxCp X (own ++ fr.map (·.1)) sc (s2.heap.objs.size + 1) fp s2 H2) _ s8 σ6 H8 (.ref s2.heap.objs.size) [y] _ [yv] (λ v H' => v = .non /\ H' = upd H8 s2.heap.objs.size (.lst (ys ++ [y]))) I8 rfl (.cons r8 .nil) ⟨_, ys, y, rfl, rfl, e8, z8, rfl, rfl⟩) λ _ s9 q_ => ?_
     obtain ⟨v, H9, I9, _, e1, e9⟩ := q_
     subst e9
     exact again I9 n8
 exact codeAny_compStart_list (loop _ rfl) (T.self X.A 0 _ _ _ st1 (loop _ rfl))
theorem cp_checks {sc : Scope} {fr : List (Str × Nat)} (hfree : (sc.names.all λ y => y.2 != .free || (X.env.kindOf y.1 == some .cell || X.env.kindOf y.1 == some .free)) = true)
 (hfr : (fr.all λ p => X.N[p.2]? == some p.1 && sc.names.lookup p.1 == some .free && sc.names.all λ y => y.1 != p.1 || y.2 != .cell) = true) (hnm : (sc.names.all λ y => y.2 != .local || sc.names.lookup y.1 == some .local) = true) :
 (∀ y ∈ sc.names, y.2 = .free -> X.env.kindOf y.1 = some .cell \/ X.env.kindOf y.1 = some .free) /\ (∀ p ∈ fr, X.N[p.2]? = some p.1 /\ sc.names.lookup p.1 = some .free /\ ∀ y ∈ sc.names, y.1 = p.1 -> y.2 ≠ .cell) /\ ∀ x ∈ sc.names, x.2 = .local -> sc.names.lookup x.1 = some .local := by
 refine ⟨λ y hy e => ?_, λ p hp => ?_, λ y hy e => ?_⟩
 · have := Q12.mp hfree y hy
   rw [e] at this
   simpa using this
 · have := Q12.mp hfr p hp
   rw [Q4, Q4, Q12] at this
   obtain ⟨⟨h1, h2⟩, h3⟩ := this
   refine ⟨by simpa using h1, by simpa using h2, λ y hy e z => ?_⟩
   have := h3 y hy
   rw [e, z] at this
   simp at this
 · have := Q12.mp hnm y hy
   rw [e] at this
   simpa using this
theorem pe_compC {elt target iter : Expr} {ifs : List Expr} {sc : Scope} {pos : Pos} (own : List Str) (fr : List (Str × Nat)) {wi : TI} {g : TG} {tc : TT} {te : TE} (hi : PI X target iter wi)
 (hg : ∀ C fp s H, PG (cxCp X (own ++ fr.map (·.1)) sc C fp s H) target g) (ht : ∀ C fp s H, PTs (cxCp X (own ++ fr.map (·.1)) sc C fp s H) ifs tc) (he : ∀ C fp s H, PE (cxCp X (own ++ fr.map (·.1)) sc C fp s H) elt te)
 (hc : X.calm = true := by rfl) (hk : sc.kind = .function := by rfl)
 (hfree : (sc.names.all λ y => y.2 != .free || (X.env.kindOf y.1 == some .cell || X.env.kindOf y.1 == some .free)) = true := by rfl)
 (hfr : (fr.all λ p => X.N[p.2]? == some p.1 && sc.names.lookup p.1 == some .free && sc.names.all λ y => y.1 != p.1 || y.2 != .cell) = true := by rfl) (hnm : (sc.names.all λ y => y.2 != .local || sc.names.lookup y.1 == some .local) = true := by rfl)
 (hs : ∀ x, foldedSetIterable iter X.env x = pure x := by intro _; rfl) :
 PE X (.ListComp elt [⟨target, iter, ifs, 0⟩] sc pos) (tComp own.length fr wi g tc te) := by
 obtain ⟨c1, c2, c3⟩ := cp_checks hfree hfr hnm
 intro pins s σ H Q I h
 rw [eval_ListComp]
 have hcl : ∀ y ∈ sc.names, y.2 = .free -> ∃ c, X.env.cells.lookup y.1 = some c := λ y hy e => I.ok.has _ (c1 y hy e)
 refine wpAny_comprehension_free (use := none) rfl hs (closureFor_eq hcl) hk c3 (thn (hi pins s σ H _ I h) λ xv s₁ h₁ => thn h₁ λ itv s2 h2 => ?_)
 refine cp_block (RR := λ acc C => compPost (model X.prog X.w) X.A X.xe none (EP X pins σ Q) acc C) own fr hc hk c1 c2 hg ht he h2 ?_
 intro D C s4 H3 m4 hC ns4 hCn q inv
 exact ⟨m4, ns4, λ h' sb => ⟨.ref D, H3, inv h' λ b hb => sb.2 b hb, rfl, q⟩⟩
theorem ps_setC {i : Nat} {x : Str} {elt target iter : Expr} {ifs : List Expr} {sc : Scope} {pos spos : Pos} {pos' : Pos} (own : List Str) (fr : List (Str × Nat)) {wi : TI} {g : TG} {tc : TT} {te : TE} (hN : X.N.Nodup) (hx1 : X.N[i]? = some x) (hx : Loc X.env.scope x) (hi : PI X target iter wi)
 (hg : ∀ C fp s H, PG (cxCp X (own ++ fr.map (·.1)) sc C fp s H) target g) (ht : ∀ C fp s H, PTs (cxCp X (own ++ fr.map (·.1)) sc C fp s H) ifs tc) (he : ∀ C fp s H, PE (cxCp X (own ++ fr.map (·.1)) sc C fp s H) elt te)
 (hsw : swapsWith (.ListComp elt [⟨target, iter, ifs, 0⟩] sc pos) (some (.Name x pos')) spos.line X.env = pure true := by rfl)
 (hc : X.calm = true := by rfl) (hk : sc.kind = .function := by rfl)
 (hfree : (sc.names.all λ y => y.2 != .free || (X.env.kindOf y.1 == some .cell || X.env.kindOf y.1 == some .free)) = true := by rfl)
 (hfr : (fr.all λ p => X.N[p.2]? == some p.1 && sc.names.lookup p.1 == some .free && sc.names.all λ y => y.1 != p.1 || y.2 != .cell) = true := by rfl) (hnm : (sc.names.all λ y => y.2 != .local || sc.names.lookup y.1 == some .local) = true := by rfl)
 (hs : ∀ x, foldedSetIterable iter X.env x = pure x := by intro _; rfl) (hl : X.env.scope.names.lookup x = some .local := by rfl) :
 PS X (.Assign [.Name x pos'] (.ListComp elt [⟨target, iter, ifs, 0⟩] sc pos) spos) (tAsg (tComp own.length fr wi g tc te) (gName i)) := by
 obtain ⟨c1, c2, c3⟩ := cp_checks hfree hfr hnm
 intro pins s σ H D I h
 rw [exec_Assign_Name_used _ _ _ _ hsw]
 refine wB (wpAny_standAt (wB ?_))
 show wpAny _ X.A (do let _ <- comprehension (.ListComp elt [⟨target, iter, ifs, 0⟩] sc pos) sc X.env _ (newList []) false (eval iter X.env) (some (assign (.Name x pos') X.env))) _ _ s
 have hcl : ∀ y ∈ sc.names, y.2 = .free -> ∃ c, X.env.cells.lookup y.1 = some c := λ y hy e => I.ok.has _ (c1 y hy e)
 refine wB (wpAny_mono (wpAny_comprehension_free (use := some (assign (.Name x pos') X.env)) (Q := λ _ s' => SP X pins D .next s') rfl hs (closureFor_eq hcl) hk c3 (thn (hi pins s σ H _ I h) λ xv s₁ h₁ => thn h₁ λ itv s2 h2 => ?_)) (λ _ s' hq => wP (wP hq)) λ _ _ e => e)
 refine cp_block (RR := λ acc C => compPost (model X.prog X.w) X.A X.xe (some (assign (.Name x pos') X.env)) (λ _ s' => SP X pins D .next s') acc C) (pins := pins) (σ := σ) (Q := λ x H1 => gName i x σ H1 D.nx) own fr hc hk c1 c2 hg ht he h2 ?_
 intro Da C s4 H3 m4 hC ns4 hCn q inv
 have I4 : Inv X pins σ H3 s4 := inv s4.heap λ b _ => rfl
 have lC : X.env.locals ≠ C := by
  intro z
  obtain ⟨it, fp, tn, J, H2, e, I2, _⟩ := h2
  exact absurd (nLl I2.lt (by rw [z]; exact hC)) (zT _)
 have cC : ∀ y c, X.env.cells.lookup y = some c -> c ≠ C := λ y c e z => by
  obtain ⟨it, fp, tn, J, H2, e', I2, _⟩ := h2
  obtain ⟨v, hv⟩ := I2.cell y c e
  exact absurd (nLl hv.lt (by rw [z]; exact hC)) (zT _)
 show wpAny _ X.A (assign (.Name x pos') X.env (.ref Da)) _ _ _
 refine wpAny_assign_Name (store_ok2 I4 hN hx1 hx (v := .ref Da) rfl (λ s5 I5 q_ => ?_) (.inr hl))
 obtain ⟨a, sb, ha⟩ := q_
 have aC : C ≠ a := λ z => by
  rcases ha with q1 | q1
  · exact lC (q1.symm.trans z.symm)
  · exact cC x a q1 z.symm
 refine ⟨m4, ns4.sameBut sb aC, λ h' sb' => ⟨_, H3, ?_, q⟩⟩
 obtain ⟨m5, n5, l5⟩ := I5.loc
 exact {
  ok := I5.ok
  os := I5.os
  bare := I5.bare
  base := {
   keep := λ b o e n1 n2 n3 => (sb'.2 b λ z => by
    obtain ⟨it, fp, tn, J, H2, e', I2, _⟩ := h2
    exact absurd (nLl (hLs e) (Qb I2.sz (by rw [z]; exact hC))) (zT _)).trans (I5.base.keep b o e n1 n2 n3)
   slot := λ b o e n1 n2 n3 => by
    obtain ⟨sl, q⟩ := I5.base.slot b o e n1 n2 n3
    refine ⟨sl, (sb'.2 b λ z => ?_).trans q⟩
    obtain ⟨it, fp, tn, J, H2, e', I2, _⟩ := h2
    exact absurd (nLl (hLs e) (Qb I2.sz (by rw [z]; exact hC))) (zT _)
   free := I5.base.free
   there := λ b o e n1 => by
    obtain ⟨o', q⟩ := I5.base.there b o e n1
    refine ⟨o', (sb'.2 b λ z => ?_).trans q⟩
    obtain ⟨it, fp, tn, J, H2, e', I2, _⟩ := h2
    exact absurd (nLl (hLs e) (Qb I2.sz (by rw [z]; exact hC))) (zT _)
   tups := I5.base.tups
   frzs := I5.base.frzs
   tbls := I5.base.tbls }
  loc := ⟨m5, n5.sameBut sb' lC, λ j y v h1 h2' h3 => by
   obtain ⟨u, ru, lk⟩ := l5 j y v h1 h2' h3
   refine ⟨u, ru, ?_⟩
   rcases lk with ⟨k1, k2⟩ | ⟨k1, c, k2, k3⟩
   · exact .inl ⟨k1, k2⟩
   · exact .inr ⟨k1, c, k2, k3.sameBut sb' (cC y c k2)⟩⟩
  cell := λ y c e => by
   obtain ⟨v, hv⟩ := I5.cell y c e
   exact ⟨v, hv.sameBut sb' (cC y c e)⟩
  free := I5.free
  freeC := I5.freeC
  pin := λ p hp => by
   obtain ⟨q1, q2⟩ := I5.pin p hp
   refine ⟨(sb'.2 p.1 λ z => ?_).trans q1, q2⟩
   obtain ⟨it, fp, tn, J, H2, e', I2, _⟩ := h2
   exact absurd (nLl (hLs (I2.pin p hp).1) (by rw [z]; exact hC)) (zT _)
  hok := λ a o e => (I5.hok a o e).stay (λ b u q z => (sb'.2 b (by
   rcases q with q | q
   · subst q; exact ne_of_none e hCn
   · exact ne_of_none q hCn)).trans z) (λ _ q => q) (λ _ _ q => q) λ _ _ _ q => q
  len := I5.len }
end
end L2
namespace L2
open PySem PySem.Spec PyProof.Rows PySem.W
theorem ObjOk.there {P : Program} {w : World} {H : Hp} {h : Heap} {a : Addr} {o : HO} (x : ObjOk P w H h a o) : ∃ ob, h.get? a = some ob := by
 cases o with
 | lst xs => obtain ⟨_, _, _, _, e⟩ := x; exact ⟨_, e⟩
 | tup xs => obtain ⟨_, _, _, ⟨ob, e, _⟩, _⟩ := x; exact ⟨_, e⟩
 | dK kvs => obtain ⟨_, _, _, _, o, _, _, e, _⟩ := x; exact ⟨_, e⟩
 | dT kvs => obtain ⟨_, _, _, _, o, _, _, e, _⟩ := x; exact ⟨_, e⟩
 | set S n => obtain ⟨o, _, _, _, e, _⟩ := x; exact ⟨_, e⟩
 | ins C dx fs => obtain ⟨_, _, _, e, _⟩ := x; exact ⟨_, e⟩
 | own y => obtain ⟨_, e⟩ := x; exact ⟨_, e⟩
 | xd fs => obtain ⟨_, ⟨_, _, _, e, _⟩, _⟩ := x; exact ⟨_, e⟩
 | rng lo hi => obtain ⟨_, _, _, e⟩ := x; exact ⟨_, e⟩
 | frz ob u => obtain ⟨e, _⟩ := x; exact ⟨_, e⟩
 | tbl ps =>
  rcases x with e | ⟨_, _, _, _, _, _, _, _, _, _, e, _⟩
  · exact ⟨_, e⟩
  · exact ⟨_, e⟩
 | met f y => exact ⟨_, (show h.get? a = some _ from x)⟩
 | ext φ => obtain ⟨_, ⟨_, e⟩, _⟩ := x; exact ⟨_, e⟩
structure Flown (P : Program) (w : World) (outer : List Env) (H : Hp) (s : Shared) (ea C : Addr) (a0 : Value) (B : Heap) (H' : Hp) (s' : Shared) : Prop where
 os : s'.os = s.os
 bare : AllBare s'.gens
 hokB : HOk P w H' B
 fly : Heap.FlyingW B outer ea (.ref C) a0 s'.heap
 cov : ∀ b o, s.heap.get? b = some o -> H b = none -> b ∉ frs outer -> B.get? b = some o
 thr : ∀ b o, s.heap.get? b = some o -> b ∈ frs outer \/ ∃ o', B.get? b = some o'
 un : Un (frs outer) [] H H' s.heap s'.heap
def CXF (P : Program) (w : World) : CXT := λ outer H s E e s' => ∃ (ea C : Addr) (a0 : Value) (B : Heap) (H' : Hp), e = .ref ea /\ Flown P w outer H s ea C a0 B H' s' /\ E e (some C) H'
section
variable {P : Program} {w : World} {outer : List Env} {H H' : Hp} {s s' : Shared} {ea C : Addr} {a0 : Value} {B : Heap}
theorem Flown.hok (f : Flown P w outer H s ea C a0 B H' s') : HOk P w H' s'.heap := f.hokB.kept f.fly.1
theorem Flown.free (f : Flown P w outer H s ea C a0 B H' s') : H' ea = none := by
 cases q : H' ea with
 | none => rfl
 | some u =>
  obtain ⟨ob, e⟩ := (f.hokB _ _ q).there
  rw [f.fly.2.1] at e
  cases e
end
section
variable {X : Cx} {pins : List (Addr × Obj)} {σ : St} {H : Hp} {s : Shared}
theorem Inv.neL (I : Inv X pins σ H s) {b : Addr} {o : Obj} (e : X.s₀.heap.get? b = some o) : b ≠ X.env.locals := nNl (nLl (hLs e) I.ok.above)
theorem Inv.notStk (I : Inv X pins σ H s) {b : Addr} {o : Obj} (e : X.s₀.heap.get? b = some o) (hb : b ∉ X.fs) : b ∉ frs X.stack := λ z => (Q2.mp (I.stkSub b z)).elim (I.neL e) hb
theorem un_out {outer : List Env} {base h0 h1 h2 B : Heap} {H0 H1 : Hp} (ff : h0.FunFrames base outer) (frf : ∀ b ∈ frs outer, H0 b = none) (st : B.StaysIn h2) (ff2 : h2.FunFrames B outer)
 (cov : ∀ b o, h0.get? b = some o -> H0 b = none -> b ∉ frs outer -> B.get? b = some o) (thr : ∀ b o, h0.get? b = some o -> b ∈ frs outer \/ ∃ o', B.get? b = some o')
 (u : Un (frs outer) [] H0 H1 h0 h1) (k : h1.UpToSlots h2) : Un (frs outer) [] H0 H1 h0 h2 where
 keep := λ b o e n hb _ => st b o (cov b o e n hb)
 slot := λ b o e n hb hx => by
  obtain ⟨sl, e1⟩ := u.slot b o e n hb hx
  obtain ⟨_, o', ho', hd⟩ := ff.mem hb
  rw [e] at ho'
  cases ho'
  obtain ⟨sl', e2⟩ := k b _ e1 hd
  exact ⟨sl', e2⟩
 free := u.free
 there := λ b o e _ => by
  rcases thr b o e with hb | ⟨o', e'⟩
  · obtain ⟨_, o', ho', _⟩ := ff2.mem hb
    exact ⟨o', ho'⟩
  · exact ⟨o', st _ _ e'⟩
 tups := u.tups
 frzs := u.frzs
 tbls := u.tbls
theorem flown_made {E : XK} {E' : Value -> Shared -> Prop} {ea C : Addr} {args : List Value} {h' : Heap} (hstk : X.stack = X.env :: X.outer) (hf : X.env.frame = some X.env.locals) (hex : X.ex = [])
 (I : Inv X pins σ H s) (hx : Heap.MadeExcOf s.heap h' ea (.ref C) args) (hE : E (.ref ea) (some C) H) :
 wpAny (model X.prog X.w) X.A (leaving X.env (.ref ea)) (λ _ s'' => CXF X.prog X.w X.outer X.H₀ X.s₀ E (.ref ea) s'') E' { s with heap := h' } := by
 have hin : ∀ env ∈ X.stack, ∀ b, env.frame = some b -> b ∈ frs X.stack := λ env he b hb => List.mem_filterMap.mpr ⟨env, he, hb⟩
 have nx : ∀ b, b ∉ X.ex := λ b z => by rw [hex] at z; cases z
 have keepB : ∀ b o, s.heap.get? b = some o -> b ∉ frs X.stack -> (hideAll s.heap (frs X.stack)).get? b = some o := λ b o e hb => hideAll_get _ e hb
 have hokB : HOk X.prog X.w H (hideAll s.heap (frs X.stack)) := λ b u e => (I.hok b u e).stay (λ c v hc q => keepB c v q (λ z => by
  have z := I.stkFree c z
  rcases hc with rfl | hc
  · rw [e] at z; cases z
  · rw [hc] at z; cases z)) (λ _ q => q) (λ _ _ q => q) λ _ _ _ q => q
 have cov : ∀ b o, X.s₀.heap.get? b = some o -> X.H₀ b = none -> b ∉ frs X.outer -> (hideAll s.heap (frs X.stack)).get? b = some o := λ b o e n hb =>
  keepB b o (I.base.keep b o e n hb (nx b)) (I.notStk e hb)
 have thr : ∀ b o, X.s₀.heap.get? b = some o -> b ∈ frs X.outer \/ ∃ o', (hideAll s.heap (frs X.stack)).get? b = some o' := λ b o e => by
  by_cases hb : b ∈ frs X.outer
  · exact .inl hb
  · obtain ⟨o', e'⟩ := I.base.there b o e (nx b)
    exact .inr ⟨o', keepB b o' e' (I.notStk e hb)⟩
 have fr := I.ok.frames
 have stk := I.stack
 have ub : Un (frs X.outer) [] X.H₀ H X.s₀.heap s.heap := by
  have := I.base
  rw [hex] at this
  exact this
 generalize hB : hideAll s.heap (frs X.stack) = B at *
 have ffB : s.heap.FunFrames B (X.env :: X.outer) := by
  rw [<- hB, <- hstk]
  exact funFrames_hide stk hin
 rw [hstk] at fr
 refine wpAny_leaves_madeW (base := B) (h := s.heap) fr hf (λ b o q => by rw [<- hB] at q; exact of_hideAll _ q) ffB hx λ h'' t x1 x2 x3 x4 => ?_
 refine ⟨ea, C, .ref t, B, H, rfl, ⟨I.os, I.bare, hokB, x1, cov, thr, un_out I.ok.funs I.ok.frf x1.1 x1.2.2.1 cov thr (ub) (((Heap.UpToSlots.of_keeps hx.keeps)).trans x4)⟩, hE⟩
theorem flown_on {E : XK} {E' : Value -> Shared -> Prop} {e : Value} {s' : Shared} (hstk : X.stack = X.env :: X.outer) (hf : X.env.frame = some X.env.locals) (hex : X.ex = [])
 (I : Inv X pins σ H s) (hx : CXF X.prog X.w X.stack H s E e s') :
 wpAny (model X.prog X.w) X.A (leaving X.env e) (λ _ s'' => CXF X.prog X.w X.outer X.H₀ X.s₀ E e s'') E' s' := by
 obtain ⟨ea, C, a0, B, H', rfl, f, hE⟩ := hx
 have nx : ∀ b, b ∉ X.ex := λ b z => by rw [hex] at z; cases z
 have I' : Inv X pins σ H' s' := I.call' (ch := []) f.os f.un f.hok f.bare (λ b z => absurd z (by simp))
 have cov : ∀ b o, X.s₀.heap.get? b = some o -> X.H₀ b = none -> b ∉ frs X.outer -> B.get? b = some o := λ b o e n hb =>
  f.cov b o (I.base.keep b o e n hb (nx b)) (I.base.free b o e n (nx b)) (I.notStk e hb)
 have thr : ∀ b o, X.s₀.heap.get? b = some o -> b ∈ frs X.outer \/ ∃ o', B.get? b = some o' := λ b o e => by
  by_cases hb : b ∈ frs X.outer
  · exact .inl hb
  · obtain ⟨o', e'⟩ := I.base.there b o e (nx b)
    exact .inr ((f.thr b o' e').resolve_left (I.notStk e hb))
 have ub : Un (frs X.outer) [] X.H₀ H' X.s₀.heap s'.heap := by
  have := I'.base
  rw [hex] at this
  exact this
 have fr := I.ok.frames
 have fl := f.fly
 rw [hstk] at fr fl
 refine wpAny_leaves_onW fr hf fl λ h'' x1 x2 => ?_
 exact ⟨ea, C, a0, B, H', rfl, ⟨I'.os, I'.bare, f.hokB, x1, cov, thr, un_out I.ok.funs I.ok.frf x1.1 x1.2.2.1 cov thr ub x2⟩, hE⟩
end
theorem ownc {K : Frag} {hp : Heap} {gl : Str -> Option Value} {y : Str} {C : Addr} {bl : List Value} {nid : String} (kin : K.In hp) (hm : gl y = some (.ref C)) (ok : excIn K C bl nid = true) : OwnCls y C bl nid gl hp := by
 refine ⟨hm, ?_⟩
 unfold excIn at ok
 cases hL : K.lookup C with
 | none => rw [hL] at ok; cases ok
 | some ob =>
  rw [hL] at ok
  have at_ := kin _ _ hL
  split at ok
  · rename_i e1
    split at ok
    · rename_i cx ds sls lsx w1 w2 w3 w4 w5 w6 w7 w8 e2 e3
      cases e1
      simp only [Q4, beq_iff_eq, Bool.not_eq_true'] at ok
      obtain ⟨⟨⟨⟨⟨rfl, rfl⟩, z1⟩, z2⟩, z3⟩, z4⟩ := ok
      obtain ⟨c1, c2, c3, c4, c5, c6, c7, c8, c9, c10, c11⟩ := cx
      obtain rfl : c3 = _ := e2
      obtain rfl : c11 = _ := z1
      obtain ⟨sll⟩ := ds
      obtain rfl : sll = _ := e3
      exact ⟨_, _, _, _, _, _, _, _, _, _, _, _, _, _, _, _, _, at_, .of_isNs (isNs_of_in kin z3), nsMap_none_of_in kin z3 z4, tail_of_in kin z2⟩
    · cases ok
  · cases ok
section
variable {P : Program} {w : World} {K : Frag} {mg : Str -> Option Value} {base : Heap} {N : List Str} {qual : Str} {scope : Scope} {f : Addr} {cd : Value} {A : Around} {outer : List Env} {s₀ : Shared} {H₀ : Hp} {E : XK}
theorem pass_flown : Passes (CXF P w) (cxOf (CXF P w) P w K mg base N qual scope f cd A outer s₀ H₀ E) E := λ pins σ H s e s' I h =>
 flown_on (X := cxOf (CXF P w) P w K mg base N qual scope f cd A outer s₀ H₀ E) rfl rfl rfl I h
def tRaise (C : Addr) (E : XK) (ta : TA) : TS := λ _ σ H => ta σ H λ vs H1 => vs.length <= sizeLine /\ ∀ ea, E (.ref ea) (some C) H1
theorem ps_raise {x : Str} {C : Addr} {B newId initId : String} {bm : List Value} {np cpos pos : Pos} {e₀ : Expr} {rest : List Expr} {ta : TA} (hm : mg x = some (.ref C)) (q : excIn K C bm newId = true) (FB : ExcBaseFacts B newId initId bm)
 (ha : PA (cxOf (CXF P w) P w K mg base N qual scope f cd A outer s₀ H₀ E) (e₀ :: rest) ta) (hg : Gl (cxOf (CXF P w) P w K mg base N qual scope f cd A outer s₀ H₀ E) x := by rfl)
 (hd : (x == ("__debug__" : Str)) = false := by decide)
 (he : starEach (e₀ :: rest) (envOfC qual scope s₀.heap.objs.size f cd) = (false, eval e₀ (envOfC qual scope s₀.heap.objs.size f cd)) :: starEach rest (envOfC qual scope s₀.heap.objs.size f cd) := by rfl)
 (hpl : (backTo cpos (starEach rest (envOfC qual scope s₀.heap.objs.size f cd))).any (·.1) = false := by rfl) :
 PS (cxOf (CXF P w) P w K mg base N qual scope f cd A outer s₀ H₀ E) (.Raise (some (.Call (.Name x np) (e₀ :: rest) [] cpos)) none pos) (tRaise C E ta) := by
 intro pins s σ H D I h
 obtain ⟨tl, NN, nm, qn, bs, hdct, sn, sub, ab, col, dd, k0, k1, k2, k3, k5, mN, hC, hN, hni, T⟩ := (ownc I.mod.kin hm q).obj
 refine wpAny_Raise_call_subT (C := C) (nm := nm) (q := qn) (N := NN) (bs := bs) (bm := tl) (hdct := hdct) (sn := sn) (sub := sub) (ab := ab) (col := col) (dd := dd) (k0 := k0) (k1 := k1)
  (k2 := k2) (k3 := k3) (k5 := k5) FB (mN := mN) (T.hasType FB.hasBase) (I.ok.hd rfl) (by show (backTo cpos (starEach (e₀ :: rest) (envOfC qual scope s₀.heap.objs.size f cd))).any (·.1) = false; rw [he]; show (false || (backTo cpos (starEach rest (envOfC qual scope s₀.heap.objs.size f cd))).any (·.1)) = false; rw [hpl]; rfl) hni (ld_glob I hg hm ⟨rfl, ?_⟩ hd)
 have ha := ha cpos pins s σ H _ I h
 change wpAny _ _ (evalArgs (.ref C) true (backTo cpos (starEach (e₀ :: rest) (envOfC qual scope s₀.heap.objs.size f cd))) []) _ _ s
 change wpAny _ _ (spliced (backTo cpos (starEach (e₀ :: rest) (envOfC qual scope s₀.heap.objs.size f cd)))) _ _ s at ha
 rw [he] at ha ⊢
 refine Calls.evalArgs_plain (thn ha λ us s2 ⟨vs, H2, I2, r2, z, hE⟩ => ⟨rfl, by rw [<- r2.length]; exact z, I2.bk _ _ hC, hN.keeps I2.bk, T.keeps I2.bk, λ h' ea hx => ?_⟩)
 exact flown_made (X := cxOf (CXF P w) P w K mg base N qual scope f cd A outer s₀ H₀ E) rfl rfl rfl I2 hx (hE ea)
end
def XO (ea C : Addr) : HO := .ext λ h => ∃ ob, h.get? ea = some ob /\ ob.cls = .ref C
theorem xo_ok {P : Program} {w : World} {H : Hp} {h : Heap} {ea C : Addr} {ob : Obj} (e : h.get? ea = some ob) (c : ob.cls = .ref C) : ObjOk P w H h ea (XO ea C) :=
 ⟨⟨ob, e, c⟩, ⟨ob, e⟩, λ _ _ ⟨o1, e1, c1⟩ k => ⟨o1, k o1 e1, c1⟩⟩
theorem isi_flown {prog : Program} {w : World} {A : Around} {E : Value -> Shared -> Prop} {s : Shared} {K : Frag} {ea C : Addr} {c : Value} {ob : Obj} {Q : Value -> Shared -> Prop} (kin : K.In s.heap) (at_ : s.heap.get? ea = some ob) (cl : ob.cls = .ref C)
 (yes : kitOne K (.ref C) c = some true) (k : ∀ tk, Q (.bool true) { s with toks := tk }) : wpAny (model prog w) A (call (.builtin "isinstance") [.ref ea, c]) Q E s := by
 refine call_isinstance (S := λ _ R t => (K.In t.heap /\ t.heap.get? ea = some ob) /\ ∀ tk, R (.ok (.ret (.bool true))) { t with toks := tk }) (λ pr w2 A2 R t ht => isinstance_outer ?_ (by intro q; cases q)) ⟨⟨kin, at_⟩, k⟩
 obtain ⟨hh, g, d, tt, os⟩ := t
 obtain ⟨⟨ki, here⟩, fin⟩ := ht
 have ty : Looks (model pr w2) hh (typeOf (.ref ea)) (.ref C) := cl ▸ (Looks.ld here).andThen .now
 unfold Builtin.«isinstance.nested»
 refine wB (ty.at ?_)
 unfold kitOne at yes
 by_cases q : (Value.ref C == c) = true
 · rw [if_pos q]
   first
    | ((repeat lk); exact fin tt)
    | exact wB (wpAny_rule (fin tt))
 · rw [if_neg q] at yes
   rw [if_neg q]
   obtain ⟨a1, a2, a3⟩ := kit_cls (M := model pr w2) ki yes
   have both : Looks (model pr w2) hh (isInstance (.ref ea) c) true := ty.andThen a3
   refine wB (a1.at ?_)
   rw [if_pos (by decide)]
   k_delta "plainIsInstance"
   refine wB (wB (a2.at ?_))
   simp only [Q1f, zN, if_false]
   refine wB (both.at ?_)
   simp only [if_true]
   first
    | exact wP (wP (fin tt))
    | exact wP (fin tt)
    | exact wB (wP (wP (fin tt)))
def rIsiX (K : Frag) : List V -> Hp -> VK -> Prop := λ xs H Q => ∃ ea C y c, xs = [.ref ea, y] /\ ((∃ D, y = .ref D /\ c = .ref D) \/ ∃ n, y = .ty n /\ c = .type n) /\ H ea = some (XO ea C) /\ kitOne K (.ref C) c = some true /\ Q (.bl true) H
theorem call_isiX {X : Cx} : CallR X (.builtin "isinstance") (rIsiX X.K) := by
 intro pins s σ H xs us Q I rv h
 obtain ⟨ea, C, y, c, rfl, hy, tr, yes, q⟩ := h
 obtain ⟨u, w', rfl, r1, r2⟩ := rv.two
 cases (show u = Value.ref ea from r1)
 have ec : w' = c := by
  rcases hy with ⟨D, rfl, rfl⟩ | ⟨n, rfl, rfl⟩
  · exact r2
  · exact r2
 subst ec
 obtain ⟨⟨ob, e, cl⟩, _⟩ := (show ObjOk X.prog X.w H s.heap ea (XO ea C) from I.hok ea _ tr)
 exact isi_flown I.kIn e cl yes λ tk => ⟨.bl true, H, I.tok tk, rfl, q⟩
theorem Un.track {fs : List Addr} {H0 H1 : Hp} {h h2 : Heap} {ea : Addr} {o : HO} (u : Un fs [] H0 H1 h h2) (hn : h.get? ea = none) (hf : H1 ea = none) : Un fs [] H0 (upd H1 ea o) h h2 where
 keep := u.keep
 slot := u.slot
 free := λ b ob e n hx => by
  rw [upd_ne (λ z => by rw [z, hn] at e; cases e)]
  exact u.free b ob e n hx
 there := u.there
 tups := λ b xs q => by rw [upd_ne (ne_of_none (u.tups b xs q) hf)]; exact u.tups b xs q
 frzs := λ b ob xs q => by rw [upd_ne (ne_of_none (u.frzs b ob xs q) hf)]; exact u.frzs b ob xs q
 tbls := λ b ps q => by
  obtain ⟨m, e⟩ := u.tbls b ps q
  exact ⟨m, by rw [upd_ne (ne_of_none e hf)]; exact e⟩
theorem HOk.track {P : Program} {w : World} {H : Hp} {h : Heap} {ea : Addr} {o : HO} (x : HOk P w H h) (hf : H ea = none) (new : ObjOk P w (upd H ea o) h ea o) : HOk P w (upd H ea o) h := λ b u e => by
 by_cases hb : b = ea
 · subst hb
   rw [upd_same] at e
   cases e
   exact new
 · rw [upd_ne hb] at e
   exact (x b u e).stay (λ _ _ _ q => q) (λ c q => by rw [upd_ne (ne_of_none q hf)]; exact q) (λ c xs q => by rw [upd_ne (ne_of_none q hf)]; exact q) λ c ob xs q => by rw [upd_ne (ne_of_none q hf)]; exact q
section
variable {X : Cx} {pins : List (Addr × Obj)} {σ : St} {H : Hp} {s : Shared}
theorem Inv.unbound {i t : Nat} {n : Str} {m : Str -> Option Value} {v : Option Value} {h' : Heap} (I : Inv X pins σ H s) (hN : X.N.Nodup) (hi : X.N[i]? = some n)
 (hl : ∀ (i : Nat) (x : Str) (v : V), X.N[i]? = some x -> σ[i]? = some (some v) -> Vis X.env.scope x -> ∃ u, RelV v u /\ Look X.env s.heap m x u)
 (hns : h'.Ns X.env.locals λ y => if y = n then v else m y) (hs : Heap.SameBut X.env.locals s.heap h') : Inv X pins (σ.set i none) H { s with heap := h', toks := t } := by
 have ck : ∀ y c, X.env.cells.lookup y = some c -> ∀ z, s.heap.IsCell c z -> h'.IsCell c z := λ y c e z ⟨o, ho, hd⟩ => ⟨o, (hs.2 c (I.cne y c e)).trans ho, hd⟩
 refine ⟨I.ok, I.os, I.bare, ⟨λ b o e n hb hx => ?_, λ b o e n hb hx => ?_, I.base.free, λ b o e hx => ?_, I.base.tups, I.base.frzs, I.base.tbls⟩, ⟨_, hns, λ j y v' e1 e2 e3 => ?_⟩, λ y c e => ?_, I.free, I.freeC, λ p hp => ?_, I.hok.sameBut I.free hs, by simpa using I.len⟩
 · exact (hs.2 b (I.neL e)).trans (I.base.keep b o e n hb hx)
 · obtain ⟨sl, e1⟩ := I.base.slot b o e n hb hx
   exact ⟨sl, (hs.2 b (I.neL e)).trans e1⟩
 · obtain ⟨o', e1⟩ := I.base.there b o e hx
   exact ⟨o', (hs.2 b (I.neL e)).trans e1⟩
 · have ne : i ≠ j := λ z => by
    subst z
    rw [List.getElem?_set] at e2
    simp at e2
   have e2' : σ[j]? = some (some v') := by rw [List.getElem?_set_ne ne] at e2; exact e2
   obtain ⟨u, r, l⟩ := hl j y v' e1 e2' e3
   refine ⟨u, r, ?_⟩
   have yn : y ≠ n := λ z => ne (nodup_ix hN hi (z ▸ e1))
   rcases l with ⟨k, l⟩ | ⟨k, c, e, z⟩
   · exact .inl ⟨k, (if_neg yn).trans l⟩
   · exact .inr ⟨k, c, e, ck y c e _ z⟩
 · obtain ⟨z, hz⟩ := I.cell y c e
   exact ⟨z, ck y c e z hz⟩
 · obtain ⟨e, n, ne, nf, d⟩ := I.pin p hp
   exact ⟨(hs.2 p.1 ne).trans e, n, ne, nf, d⟩
abbrev Cx.alt (X : Cx) (A : Around) (cm : Bool) (pn : List (Addr × Obj)) (E : Value -> Shared -> Prop) : Cx := { X with A := A, calm := cm, pn := pn, xe := E }
theorem Inv.alt (I : Inv X pins σ H s) {A : Around} {cm : Bool} {pn pins' : List (Addr × Obj)} {E : Value -> Shared -> Prop} (ha : A.frames = X.A.frames) (hc : cm = true -> A.handled = none) (hp : ∀ p ∈ pn ++ pins', p ∈ X.pn ++ pins) : Inv (X.alt A cm pn E) pins' σ H s :=
 ⟨⟨I.ok.mod, I.ok.kind, I.ok.glob, I.ok.blt, I.ok.above, I.ok.inj, I.ok.has, I.ok.cab, hc, ha.trans I.ok.frames, I.ok.stk, I.ok.exf, I.ok.bs, I.ok.bsz, I.ok.noex, I.ok.exfs, I.ok.funs, I.ok.frf⟩, I.os, I.bare, I.base, I.loc, I.cell, I.free, I.freeC, λ p q => I.pin p (hp p q), I.hok, I.len⟩
theorem Inv.unalt {A : Around} {cm : Bool} {pn pins' : List (Addr × Obj)} {E : Value -> Shared -> Prop} (I : Inv (X.alt A cm pn E) pins' σ H s) (ok : X.Ok) (hp : ∀ p ∈ X.pn ++ pins, p ∈ pn ++ pins') : Inv X pins σ H s :=
 ⟨ok, I.os, I.bare, I.base, I.loc, I.cell, I.free, I.freeC, λ p q => I.pin p (hp p q), I.hok, I.len⟩
noncomputable def Ends.un (D : Ends) (i : Nat) : Ends := { nx := λ σ H => D.nx (σ.set i none) H, bk := λ σ H => D.bk (σ.set i none) H, ct := λ σ H => D.ct (σ.set i none) H, rt := D.rt }
def tTry (K : Frag) (Dc : Addr) (i n : Nat) (tb : XK -> TS) (ts : Addr -> TS) : TS := λ D σ H =>
 tb (λ e oc H' => ∃ C, oc = some C /\ exmOne K (.ref C) (.ref Dc) = some true /\ ∀ ea, e = .ref ea -> H' ea = none -> ∀ σ' : St, σ'.length = n -> ts ea (D.un i) (σ'.set i (some (.ref ea))) (upd H' ea (XO ea C))) D σ H
theorem ps_try {body suite : List Stmt} {b₀ : Stmt} {x n : Str} {i : Nat} {Dc : Addr} {np pos tp : Pos} {tb : XK -> TS} {ts : Addr -> TS} (hstk : X.stack = X.env :: X.outer) (hfr : X.env.frame = some X.env.locals) (hcm : X.calm = true) (hN : X.N.Nodup) (hi : X.N[i]? = some n)
 (hl : X.env.scope.names.lookup n = some .local) (hm : X.mg x = some (.ref Dc)) (hg : Gl X x)
 (hb : ∀ (pn : List (Addr × Obj)) (E' : Value -> Shared -> Prop) (E : XK), Passes (CXF X.prog X.w) (X.alt X.A true pn E') E -> PSs (X.alt X.A true pn E') body (tb E))
 (hs : ∀ (ea : Addr) (pn : List (Addr × Obj)), PSs (X.alt (X.A.mark (some (.ref ea))) false pn λ _ _ => False) (b₀ :: suite) (ts ea)) (hd : (x == ("__debug__" : Str)) = false := by decide) :
 PS X (.Try body [.ExceptHandler (some (.Name x np)) (some n) (b₀ :: suite) pos] [] [] tp) (tTry X.K Dc i X.N.length tb ts) := by
 intro pins s σ H D I h
 refine wpAny_Try_except ?_
 have hh := I.ok.hd hcm
 have sub1 : ∀ p ∈ (X.pn ++ pins) ++ [], p ∈ X.pn ++ pins := λ p q => by rw [Q5] at q; exact q
 have sub2 : ∀ p ∈ X.pn ++ pins, p ∈ (X.pn ++ pins) ++ [] := λ p q => by rw [Q5]; exact q
 have ok := I.ok
 refine wpAny_mono (hb (X.pn ++ pins) _ _ (λ pins' σ' Hc sc e s' Ic hx => ?_) [] s σ H D (I.alt (A := X.A) (cm := true) (E := ?E') rfl (λ _ => hh) sub1) h) (λ f s1 hf => ?_) (λ e s1 he => ?_)
 case E' => exact λ e s₁ => wpAny (model X.prog X.w) X.A (noteFrame e X.env) (λ _ s₂ => wpAny (model X.prog X.w) X.A (setFlight e none) (λ _ s₃ => wpAny (model X.prog X.w) X.A (handleBy e X.env [.ExceptHandler (some (.Name x np)) (some n) (b₀ :: suite) pos]) (SP X pins D) X.xe s₃) X.xe s₂) X.xe s₁
 · obtain ⟨ea, C, a0, B, H', rfl, f, C', e2, hex, hk⟩ := hx
   cases e2
   have fr : X.A.frames = some (X.env :: X.outer) := by rw [<- hstk]; exact ok.frames
   have fl : Heap.FlyingW B (X.env :: X.outer) ea (.ref C) a0 s'.heap := by rw [<- hstk]; exact f.fly
   have new : sc.heap.get? ea = none := by
    cases q : sc.heap.get? ea with
    | none => rfl
    | some o =>
     rcases f.thr ea o q with z | ⟨o', z⟩
     · obtain ⟨_, o', e1, e2⟩ := f.fly.2.2.1.mem z
       obtain ⟨oe, vs, e3, _, e4, _⟩ := f.fly.first
       rw [e3] at e1
       cases e1
       exact absurd e4 (e2 vs)
     · rw [f.fly.2.1] at z
       cases z
   have unT : ∀ h₂, s'.heap.UpToSlots h₂ -> Heap.FlyingW B (X.env :: X.outer) ea (.ref C) a0 h₂ -> Inv (X.alt (X.A.mark (some (.ref ea))) false (X.pn ++ pins) λ _ _ => False) [] σ' (upd H' ea (XO ea C)) { s' with heap := h₂ } := λ h₂ sm fl₂ => by
    have u2 := un_out Ic.stack Ic.stkFree fl₂.1 (show h₂.FunFrames B X.stack by rw [hstk]; exact fl₂.2.2.1) f.cov f.thr f.un sm
    obtain ⟨ob, e1, e2⟩ := fl₂.there
    have J : Inv (X.alt X.A true (X.pn ++ pins) _) pins' σ' (upd H' ea (XO ea C)) { s' with heap := h₂ } := Ic.call' (ch := []) f.os (u2.track new f.free) ((f.hokB.kept fl₂.1).track f.free (xo_ok e1 e2)) f.bare (λ b z => absurd z (by simp))
    exact (J.unalt (X := X) (pins := pins) ok (λ p q => List.mem_append_left _ q)).alt rfl (λ z => nomatch z) sub1
   show wpAny (model X.prog X.w) X.A (noteFrame (.ref ea) X.env) _ _ s'
   refine wpAny_looks_onW fr hfr fl λ h₄ held₄ sm₄ => ?_
   refine wpAny_landsW held₄ λ h₅ fl₅ sm₅ => ?_
   have I₅ := unT h₅ (sm₄.trans sm₅) fl₅
   obtain ⟨ob, hob, hobc⟩ := fl₅.there
   have LT : Looks (model X.prog X.w) h₅ (typeOf (.ref ea)) (.ref C) := hobc ▸ (Looks.ld hob).andThen .now
   refine wpAny_handleBy_cons (codeAny_handlers_test (ld_glob I₅ hg hm ?_ hd)) (by intro q; cases q)
   refine (exm_one I₅.kIn LT hex).here ?_
   refine codeAny_handlers_suite_as ?_
   refine lands_againW fl₅ λ h₆ fl₆ sm₆ => ?_
   have I₆ := unT h₆ ((sm₄.trans sm₅).trans sm₆) fl₆
   refine store_ok (X := X.alt (X.A.mark (some (.ref ea))) false (X.pn ++ pins) λ _ _ => False) I₆ hN hi (.inl hl) (v := .ref ea) rfl (λ s₇ I₇ => ?_) (.inr hl)
   refine wpAny_mono (hs ea (X.pn ++ pins) [] s₇ _ _ (D.un i) I₇ (hk ea rfl f.free σ' I₆.len)) (λ fw s₈ hsp => ?_) (λ _ _ z => z.elim)
   have unb : ∀ {σ8 : St} {H8 : Hp} {Q : Shared -> Prop}, Inv (X.alt (X.A.mark (some (.ref ea))) false (X.pn ++ pins) λ _ _ => False) [] σ8 H8 s₈ -> (∀ s9, Inv X pins (σ8.set i none) H8 s9 -> Q s9) ->
    wpAny (model X.prog X.w) X.A (do bindName X.env n .none; unbindBehindTheSuite X.env n pos) (λ _ s9 => Q s9) X.xe s₈ := λ {σ8 H8 Q} I8 k => by
    have I8 : Inv X pins σ8 H8 s₈ := I8.unalt ok sub2
    obtain ⟨m, hn, hlook⟩ := id I8.loc
    exact wpAny_nameGoes_keeps hl hn (by rw [ok.kind]; rfl) λ h' v hns hsm => k _ (I8.unbound hN hi hlook hns hsm)
   cases fw with
   | next => obtain ⟨σ8, H8, I8, q⟩ := hsp; exact unb I8 λ s9 I9 => ⟨_, _, I9, q⟩
   | brk => obtain ⟨σ8, H8, I8, q⟩ := hsp; exact unb I8 λ s9 I9 => ⟨_, _, I9, q⟩
   | cont => obtain ⟨σ8, H8, I8, q⟩ := hsp; exact unb I8 λ s9 I9 => ⟨_, _, I9, q⟩
   | ret u => obtain ⟨v, σ8, H8, I8, r, q⟩ := hsp; exact unb I8 λ s9 I9 => ⟨v, _, _, I9, r, q⟩
 · cases f with
   | next =>
    obtain ⟨σ8, H8, I8, q⟩ := hf
    exact wP ⟨_, _, I8.unalt ok sub2, q⟩
   | brk => obtain ⟨σ8, H8, I8, q⟩ := hf; exact ⟨_, _, I8.unalt ok sub2, q⟩
   | cont => obtain ⟨σ8, H8, I8, q⟩ := hf; exact ⟨_, _, I8.unalt ok sub2, q⟩
   | ret u => obtain ⟨v, σ8, H8, I8, r, q⟩ := hf; exact ⟨v, _, _, I8.unalt ok sub2, r, q⟩
 · exact he
end
end L2
namespace GC
noncomputable def inter : List Int -> List Int -> Nat
 | _, [] => 0
 | u, c :: g => if c ∈ u then inter (u.erase c) g + 1 else inter u g
theorem inter_nil_left : ∀ g : List Int, inter [] g = 0
 | [] => rfl
 | c :: g => by unfold inter; rw [if_neg (by simp), inter_nil_left g]
theorem inter_perm_left {u u' : List Int} (g : List Int) (h : u.Perm u') : inter u g = inter u' g := by
 induction g generalizing u u' with
 | nil => rfl
 | cons c g ih =>
  unfold inter
  by_cases m : c ∈ u
  · rw [if_pos m, if_pos (h.mem_iff.mp m), ih (h.erase c)]
  · rw [if_neg m, if_neg (λ x => m (h.mem_iff.mpr x)), ih h]
theorem inter_swap (u : List Int) (a b : Int) (g : List Int) : inter u (a :: b :: g) = inter u (b :: a :: g) := by
 by_cases e : a = b
 · subst e; rfl
 · have e' : b ≠ a := λ z => e z.symm
   have m1 : b ∈ u.erase a ↔ b ∈ u := List.mem_erase_of_ne e'
   have m2 : a ∈ u.erase b ↔ a ∈ u := List.mem_erase_of_ne e
   unfold inter
   unfold inter
   by_cases ha : a ∈ u <;> by_cases hb : b ∈ u
   · simp only [ha, hb, m1, m2, if_true]
     rw [List.erase_comm]
   · simp only [ha, hb, m1, m2, if_true, if_false]
   · simp only [ha, hb, m1, m2, if_true, if_false]
   · simp only [ha, hb, m1, m2, if_false]
theorem inter_cons_congr {u : List Int} {c : Int} {g g' : List Int} (h : ∀ u, inter u g = inter u g') : inter u (c :: g) = inter u (c :: g') := by
 unfold inter
 rw [h, h]
theorem inter_perm_right {g g' : List Int} (h : g.Perm g') : ∀ u, inter u g = inter u g' := by
 induction h with
 | nil => intro u; rfl
 | cons x _ ih => intro u; exact inter_cons_congr ih
 | swap x y l => intro u; exact inter_swap u y x l
 | trans _ _ ih1 ih2 => intro u; rw [ih1, ih2]
theorem inter_skip {c : Int} : ∀ (u g : List Int), c ∉ u -> inter (c :: g) u = inter g u
 | [], g, _ => rfl
 | x :: u, g, h => by
  have hx : x ≠ c := λ e => h (by simp [e])
  have hu : c ∉ u := λ z => h (lMc _ z)
  have m : x ∈ c :: g ↔ x ∈ g := by simp [hx]
  unfold inter
  by_cases hg : x ∈ g
  · rw [if_pos (m.mpr hg), if_pos hg, List.erase_cons_tail (by simpa using hx.symm), inter_skip u _ hu]
  · rw [if_neg (λ z => hg (m.mp z)), if_neg hg, inter_skip u _ hu]
theorem inter_same (c : Int) (u g : List Int) : inter (c :: u) (c :: g) = inter u g + 1 := by
 show (if c ∈ c :: u then inter ((c :: u).erase c) g + 1 else inter (c :: u) g) = _
 rw [if_pos (by simp), List.erase_cons_head]
theorem inter_comm : ∀ (g u : List Int), inter u g = inter g u
 | [], u => by rw [inter_nil_left]; rfl
 | c :: g, u => by
  by_cases h : c ∈ u
  · show (if c ∈ u then inter (u.erase c) g + 1 else inter u g) = _
    rw [if_pos h, inter_comm g, inter_perm_right (List.perm_cons_erase h) (c :: g), inter_same]
  · show (if c ∈ u then inter (u.erase c) g + 1 else inter u g) = _
    rw [if_neg h, inter_skip u g h, inter_comm g]
theorem inter_app : ∀ (e u g : List Int), inter (e ++ u) (e ++ g) = e.length + inter u g
 | [], u, g => by simp
 | c :: e, u, g => by
  rw [Q3, Q3, inter_same, inter_app e u g, zC]
  omega
theorem inter_le_right : ∀ (u g : List Int), inter u g <= g.length
 | _, [] => Q1 _
 | u, c :: g => by
  unfold inter
  split
  · have := inter_le_right (u.erase c) g; simp; omega
  · have := inter_le_right u g; simp; omega
noncomputable def left : List Int -> List Int -> List Int
 | u, [] => u
 | u, c :: g => if c ∈ u then left (u.erase c) g else left u g
theorem left_snoc (c : Int) : ∀ (g u : List Int), left u (g ++ [c]) = if c ∈ left u g then (left u g).erase c else left u g
 | [], u => rfl
 | d :: g, u => by
  show (if d ∈ u then left (u.erase d) (g ++ [c]) else left u (g ++ [c])) = if c ∈ (if d ∈ u then left (u.erase d) g else left u g) then (if d ∈ u then left (u.erase d) g else left u g).erase c else (if d ∈ u then left (u.erase d) g else left u g)
  by_cases m : d ∈ u
  · simp only [if_pos m]; exact left_snoc c g _
  · simp only [if_neg m]; exact left_snoc c g _
theorem inter_snoc (c : Int) : ∀ (g u : List Int), inter u (g ++ [c]) = inter u g + if c ∈ left u g then 1 else 0
 | [], u => by
  show (if c ∈ u then 0 + 1 else 0) = 0 + if c ∈ u then 1 else 0
  by_cases m : c ∈ u <;> simp [m]
 | d :: g, u => by
  show (if d ∈ u then inter (u.erase d) (g ++ [c]) + 1 else inter u (g ++ [c])) = (if d ∈ u then inter (u.erase d) g + 1 else inter u g) + if c ∈ (if d ∈ u then left (u.erase d) g else left u g) then 1 else 0
  by_cases m : d ∈ u
  · simp only [if_pos m]; rw [inter_snoc c g]; omega
  · simp only [if_neg m]; exact inter_snoc c g _
noncomputable def rgt : List Int -> List Int -> Nat
 | a :: x, b :: y => (if a = b then 1 else 0) + rgt x y
 | _, _ => 0
noncomputable def eqs : List Int -> List Int -> List Int
 | a :: x, b :: y => if a = b then a :: eqs x y else eqs x y
 | _, _ => []
noncomputable def mine : List Int -> List Int -> List Int
 | a :: x, b :: y => if a = b then mine x y else a :: mine x y
 | _, _ => []
noncomputable def thrs : List Int -> List Int -> List Int
 | a :: x, b :: y => if a = b then thrs x y else b :: thrs x y
 | _, _ => []
theorem take_snoc {i : Nat} {b : List Int} (h : i < b.length) : b.take (i + 1) = b.take i ++ [b[i]] := Q2b h
theorem rgt_snoc (c d : Int) : ∀ (x y : List Int), x.length = y.length -> rgt (x ++ [c]) (y ++ [d]) = rgt x y + if c = d then 1 else 0
 | [], [], _ => by simp [rgt]
 | [], _ :: _, h => by simp at h
 | _ :: _, [], h => by simp at h
 | a :: x, b :: y, h => by
  show (if a = b then 1 else 0) + rgt (x ++ [c]) (y ++ [d]) = (if a = b then 1 else 0) + rgt x y + _
  rw [rgt_snoc c d x y (by simpa using h)]
  omega
theorem mine_snoc (c d : Int) : ∀ (x y : List Int), x.length = y.length -> mine (x ++ [c]) (y ++ [d]) = mine x y ++ if c = d then [] else [c]
 | [], [], _ => by simp [mine]
 | [], _ :: _, h => by simp at h
 | _ :: _, [], h => by simp at h
 | a :: x, b :: y, h => by
  show (if a = b then mine (x ++ [c]) (y ++ [d]) else a :: mine (x ++ [c]) (y ++ [d])) = (if a = b then mine x y else a :: mine x y) ++ _
  rw [mine_snoc c d x y (by simpa using h)]
  by_cases e : a = b <;> simp [e]
theorem thrs_snoc (c d : Int) : ∀ (x y : List Int), x.length = y.length -> thrs (x ++ [c]) (y ++ [d]) = thrs x y ++ if c = d then [] else [d]
 | [], [], _ => by simp [thrs]
 | [], _ :: _, h => by simp at h
 | _ :: _, [], h => by simp at h
 | a :: x, b :: y, h => by
  show (if a = b then thrs (x ++ [c]) (y ++ [d]) else b :: thrs (x ++ [c]) (y ++ [d])) = (if a = b then thrs x y else b :: thrs x y) ++ _
  rw [thrs_snoc c d x y (by simpa using h)]
  by_cases e : a = b <;> simp [e]
theorem eqs_len : ∀ x y : List Int, (eqs x y).length = rgt x y
 | [], _ => rfl
 | _ :: _, [] => rfl
 | a :: x, b :: y => by
  unfold eqs rgt
  by_cases h : a = b
  · rw [if_pos h, if_pos h, zC, eqs_len x y]; omega
  · rw [if_neg h, if_neg h, eqs_len x y]; omega
theorem mine_perm : ∀ x y : List Int, x.length = y.length -> x.Perm (eqs x y ++ mine x y)
 | [], [], _ => .nil
 | [], _ :: _, h => by simp at h
 | _ :: _, [], h => by simp at h
 | a :: x, b :: y, h => by
  have ih := mine_perm x y (by simpa using h)
  unfold eqs mine
  by_cases e : a = b
  · rw [if_pos e, if_pos e, Q3]; exact ih.cons a
  · rw [if_neg e, if_neg e]; exact (ih.cons a).trans List.perm_middle.symm
theorem thrs_perm : ∀ x y : List Int, x.length = y.length -> y.Perm (eqs x y ++ thrs x y)
 | [], [], _ => .nil
 | [], _ :: _, h => by simp at h
 | _ :: _, [], h => by simp at h
 | a :: x, b :: y, h => by
  have ih := thrs_perm x y (by simpa using h)
  unfold eqs thrs
  by_cases e : a = b
  · rw [if_pos e, if_pos e, Q3, <- e]; exact ih.cons a
  · rw [if_neg e, if_neg e]; exact (ih.cons b).trans List.perm_middle.symm
noncomputable def ans (h g : List Int) : List Int := [(rgt h g : Int), (inter h g : Int) - (rgt h g : Int)]
noncomputable def lawAns (h g : List Int) : List Int := [(rgt h g : Int), (inter (thrs h g) (mine h g) : Int)]
theorem inter_split {h g : List Int} (l : h.length = g.length) : inter h g = rgt h g + inter (mine h g) (thrs h g) := by
 rw [inter_perm_left g (mine_perm h g l), inter_perm_right (thrs_perm h g l), inter_app, eqs_len]
theorem ans_law {h g : List Int} (l : h.length = g.length) : ans h g = lawAns h g := by
 unfold ans lawAns
 rw [inter_split l, inter_comm (mine h g) (thrs h g)]
 congr 1
 congr 1
 have := inter_comm (thrs h g) (mine h g)
 omega
theorem rgt_le : ∀ x y : List Int, x.length = y.length -> rgt x y <= x.length
 | [], [], _ => Q1 _
 | [], _ :: _, h => by simp at h
 | _ :: _, [], h => by simp at h
 | a :: x, b :: y, h => by
  have := rgt_le x y (by simpa using h)
  unfold rgt
  split <;> simp <;> omega
theorem rgt_all : ∀ x y : List Int, x.length = y.length -> (rgt x y = x.length ↔ x = y)
 | [], [], _ => by simp [rgt]
 | [], _ :: _, h => by simp at h
 | _ :: _, [], h => by simp at h
 | a :: x, b :: y, h => by
  have l : x.length = y.length := by simpa using h
  have ih := rgt_all x y l
  have le := rgt_le x y l
  unfold rgt
  by_cases e : a = b
  · subst e
    rw [if_pos rfl, zC]
    constructor
    · intro q; rw [ih.mp (by omega)]
    · intro q; have := ih.mpr (List.cons.inj q).2; omega
  · rw [if_neg e, zC]
    constructor
    · intro q; omega
    · intro q; exact absurd (List.cons.inj q).1 e
theorem mine_len : ∀ x y : List Int, x.length = y.length -> rgt x y + (mine x y).length = x.length
 | [], [], _ => rfl
 | [], _ :: _, h => by simp at h
 | _ :: _, [], h => by simp at h
 | a :: x, b :: y, h => by
  have ih := mine_len x y (by simpa using h)
  unfold rgt mine
  split <;> simp <;> omega
theorem thrs_len : ∀ x y : List Int, x.length = y.length -> (thrs x y).length = (mine x y).length
 | [], [], _ => rfl
 | [], _ :: _, h => by simp at h
 | _ :: _, [], h => by simp at h
 | a :: x, b :: y, h => by
  have ih := thrs_len x y (by simpa using h)
  unfold thrs mine
  by_cases e : a = b
  · rw [if_pos e, if_pos e]; exact ih
  · rw [if_neg e, if_neg e, zC, zC, ih]
theorem one_apart : ∀ x y : List Int, x.length = y.length -> (mine x y).length = 1 -> inter (thrs x y) (mine x y) = 0
 | [], [], _, h => by simp [mine] at h
 | [], _ :: _, h, _ => by simp at h
 | _ :: _, [], h, _ => by simp at h
 | a :: x, b :: y, h, h1 => by
  have l : x.length = y.length := by simpa using h
  unfold mine at h1
  unfold thrs mine
  by_cases e : a = b
  · rw [if_pos e] at h1
    rw [if_pos e, if_pos e]
    exact one_apart x y l h1
  · rw [if_neg e] at h1
    rw [if_neg e, if_neg e]
    have m0 : mine x y = [] := by
     cases q : mine x y with
     | nil => rfl
     | cons z r => rw [q] at h1; simp at h1
    have t0 : thrs x y = [] := by
     have := thrs_len x y l
     rw [m0] at this
     cases q : thrs x y with
     | nil => rfl
     | cons z r => rw [q] at this; simp at this
    rw [m0, t0]
    unfold inter
    rw [if_neg (by simpa using e)]
    rfl
theorem lawAns_ends {h g : List Int} (l : h.length = g.length) : (rgt h g : Int) + (inter (thrs h g) (mine h g) : Int) <= h.length /\ lawAns h g ≠ [(h.length : Int) - 1, 1] /\ (lawAns h g = [(h.length : Int), 0] ↔ h = g) := by
 have e1 := mine_len h g l
 have e2 := inter_le_right (thrs h g) (mine h g)
 refine ⟨by omega, λ q => ?_, ?_, ?_⟩
 · unfold lawAns at q
   injection q with q1 q2
   injection q2 with q2 _
   have : (mine h g).length = 1 := by omega
   have := one_apart h g l this
   omega
 · intro q
   unfold lawAns at q
   injection q with q1 _
   exact (rgt_all h g l).mp (by omega)
 · intro q
   subst q
   have : rgt h h = h.length := (rgt_all h h rfl).mpr rfl
   unfold lawAns
   have : inter (thrs h h) (mine h h) = 0 := by omega
   rw [this]
   congr 1
   omega
end GC
namespace DL
open PySem PySem.Spec PyProof.Rows L2
noncomputable abbrev St := L2.St
noncomputable def kD : Key -> PyData
 | .inl i => .int i
 | .inr x => .str x
noncomputable def scr (ns : List Int) : PyData := .dict [(.none, .list (ns.map .int))]
mutual
noncomputable def Is (K : Fg) (H : Hp) (x : V) : PyData -> Prop
 | .none => x = .non
 | .bool b => x = .bl b
 | .int i => x = .int i
 | .str y => x = .str y
 | .list ds => ∃ a xs, x = .ref a /\ H a = some (.lst xs) /\ Are K H xs ds
 | .tuple ds => ∃ a xs, x = .ref a /\ H a = some (.tup xs) /\ Are K H xs ds
 | .dict kvs => ∃ a, x = .ref a /\ ((∃ ns : List Int, kvs = [(.none, .list (ns.map .int))] /\ SqL K H a (ns.map V.int)) \/ (∃ m, H a = some (.dT m) /\ Kvs K H m kvs) \/ (∃ nm : Str, kvs = [(.bool true, .str nm)] /\ PySem.W.nsIn K mainGlobals nm = some (some (.ref a))) \/ ∃ m, H a = some (.dK m) /\ KvsS K H m kvs)
noncomputable def Are (K : Fg) (H : Hp) (xs : List V) : List PyData -> Prop
 | [] => xs = []
 | d :: ds => ∃ x r, xs = x :: r /\ Is K H x d /\ Are K H r ds
noncomputable def Kvs (K : Fg) (H : Hp) (m : List (List Key × V)) : List (PyData × PyData) -> Prop
 | [] => m = []
 | p :: r => ∃ q m', m = q :: m' /\ Kv K H q p /\ Kvs K H m' r
noncomputable def Kv (K : Fg) (H : Hp) (q : List Key × V) : PyData × PyData -> Prop
 | (k, d) => k = .tuple (q.1.map kD) /\ Is K H q.2 d
noncomputable def KvsS (K : Fg) (H : Hp) (m : List (Key × V)) : List (PyData × PyData) -> Prop
 | [] => False
 | p :: r => p = (.none, .none) /\ KvsI K H m r
noncomputable def KvsI (K : Fg) (H : Hp) (m : List (Key × V)) : List (PyData × PyData) -> Prop
 | [] => m = []
 | p :: r => ∃ q m', m = q :: m' /\ KvI K H q p /\ KvsI K H m' r
noncomputable def KvI (K : Fg) (H : Hp) (q : Key × V) : PyData × PyData -> Prop
 | (k, d) => k = kD q.1 /\ Is K H q.2 d
end
mutual
theorem Is.same {K : Fg} {H H' : Hp} (s : Same H H') : ∀ {x : V} (d : PyData), Is K H x d -> Is K H' x d
 | _, .none, h => h
 | _, .bool _, h => h
 | _, .int _, h => h
 | _, .str _, h => h
 | _, .list ds, h => by
  obtain ⟨a, xs, e, q, r⟩ := h
  exact ⟨a, xs, e, s _ _ q, Are.same s ds r⟩
 | _, .tuple ds, h => by
  obtain ⟨a, xs, e, q, r⟩ := h
  exact ⟨a, xs, e, s _ _ q, Are.same s ds r⟩
 | _, .dict kvs, h => by
  obtain ⟨a, e, h⟩ := h
  rcases h with ⟨ns, e1, q⟩ | ⟨m, q, r⟩ | q
  · exact ⟨a, e, .inl ⟨ns, e1, s.seq q⟩⟩
  · exact ⟨a, e, .inr (.inl ⟨m, s _ _ q, Kvs.same s kvs r⟩)⟩
  · rcases q with q | ⟨m, q, r⟩
    · exact ⟨a, e, .inr (.inr (.inl q))⟩
    · exact ⟨a, e, .inr (.inr (.inr ⟨m, s _ _ q, KvsS.same s kvs r⟩))⟩
theorem Are.same {K : Fg} {H H' : Hp} (s : Same H H') : ∀ {xs : List V} (ds : List PyData), Are K H xs ds -> Are K H' xs ds
 | _, [], h => h
 | _, d :: ds, h => by
  obtain ⟨x, r, e, q, t⟩ := h
  exact ⟨x, r, e, Is.same s d q, Are.same s ds t⟩
theorem Kvs.same {K : Fg} {H H' : Hp} (s : Same H H') : ∀ {m : List (List Key × V)} (kvs : List (PyData × PyData)), Kvs K H m kvs -> Kvs K H' m kvs
 | _, [], h => h
 | _, p :: r, h => by
  obtain ⟨q, m', e, h1, h2⟩ := h
  exact ⟨q, m', e, Kv.same s p h1, Kvs.same s r h2⟩
theorem Kv.same {K : Fg} {H H' : Hp} (s : Same H H') : ∀ {q : List Key × V} (p : PyData × PyData), Kv K H q p -> Kv K H' q p
 | _, (k, d), h => ⟨h.1, Is.same s d h.2⟩
theorem KvsS.same {K : Fg} {H H' : Hp} (s : Same H H') : ∀ {m : List (Key × V)} (kvs : List (PyData × PyData)), KvsS K H m kvs -> KvsS K H' m kvs
 | _, [], h => h
 | _, p :: r, h => ⟨h.1, KvsI.same s r h.2⟩
theorem KvsI.same {K : Fg} {H H' : Hp} (s : Same H H') : ∀ {m : List (Key × V)} (kvs : List (PyData × PyData)), KvsI K H m kvs -> KvsI K H' m kvs
 | _, [], h => h
 | _, p :: r, h => by
  obtain ⟨q, m', e, h1, h2⟩ := h
  exact ⟨q, m', e, KvI.same s p h1, KvsI.same s r h2⟩
theorem KvI.same {K : Fg} {H H' : Hp} (s : Same H H') : ∀ {q : Key × V} (p : PyData × PyData), KvI K H q p -> KvI K H' q p
 | _, (k, d), h => ⟨h.1, Is.same s d h.2⟩
end
def DcO (K : Fg) (F : Hp) (o : HO) (kvs : List (PyData × PyData)) : Prop := (∃ m, o = .dT m /\ Kvs K F m kvs) \/ ∃ m, o = .dK m /\ KvsS K F m kvs
theorem DcO.same {K : Fg} {F F' : Hp} {o : HO} {kvs : List (PyData × PyData)} (s : Same F F') (h : DcO K F o kvs) : DcO K F' o kvs :=
 h.imp (λ ⟨m, e, q⟩ => ⟨m, e, Kvs.same s _ q⟩) λ ⟨m, e, q⟩ => ⟨m, e, KvsS.same s _ q⟩
theorem DcO.ntup {K : Fg} {F : Hp} {o : HO} {kvs : List (PyData × PyData)} (h : DcO K F o kvs) : ∀ xs, o ≠ .tup xs := λ xs z => by
 subst z
 rcases h with ⟨_, e, _⟩ | ⟨_, e, _⟩ <;> cases e
theorem DcO.nlst {K : Fg} {F : Hp} {o : HO} {kvs : List (PyData × PyData)} (h : DcO K F o kvs) : ∀ xs, o ≠ .lst xs := λ xs z => by
 subst z
 rcases h with ⟨_, e, _⟩ | ⟨_, e, _⟩ <;> cases e
theorem DcO.is {K : Fg} {F : Hp} {o : HO} {kvs : List (PyData × PyData)} {a : Addr} (h : DcO K F o kvs) (e : F a = some o) : Is K F (.ref a) (.dict kvs) := by
 rcases h with ⟨m, rfl, q⟩ | ⟨m, rfl, q⟩
 · exact ⟨a, rfl, .inr (.inl ⟨m, e, q⟩)⟩
 · exact ⟨a, rfl, .inr (.inr (.inr ⟨m, e, q⟩))⟩
theorem Are.length {K : Fg} {H : Hp} : ∀ {xs : List V} {ds : List PyData}, Are K H xs ds -> xs.length = ds.length
 | _, [], h => by rw [show _ = [] from h]; rfl
 | _, d :: ds, h => by
  obtain ⟨x, r, e, q, t⟩ := h
  rw [e, zC, zC, Are.length t]
theorem Are.get {K : Fg} {H : Hp} : ∀ {xs : List V} {ds : List PyData} {i : Nat} {d : PyData}, Are K H xs ds -> ds[i]? = some d -> ∃ x, xs[i]? = some x /\ Is K H x d
 | _, [], _, _, _, e => by simp at e
 | _, d :: ds, 0, _, h, e => by
  obtain ⟨x, r, e', q, t⟩ := h
  simp at e; subst e; rw [e']
  exact ⟨x, rfl, q⟩
 | _, d :: ds, i + 1, d', h, e => by
  obtain ⟨x, r, e', q, t⟩ := h
  obtain ⟨y, h1, h2⟩ := Are.get (i := i) (d := d') t (by simpa using e)
  rw [e']
  exact ⟨y, by simpa using h1, h2⟩
theorem Are.get' {K : Fg} {H : Hp} {xs : List V} {ds : List PyData} {i : Nat} {x : V} (h : Are K H xs ds) (e : xs[i]? = some x) : ∃ d, ds[i]? = some d /\ Is K H x d := by
 have hi : i < xs.length := (Q10.mp e).1
 have hl := h.length
 have hd : ds[i]? = some (ds[i]'(by omega)) := gEq _
 obtain ⟨y, h1, h2⟩ := h.get hd
 rw [e] at h1
 cases h1
 exact ⟨_, hd, h2⟩
theorem Are.append {K : Fg} {H : Hp} : ∀ {xs ys : List V} {ds es : List PyData}, Are K H xs ds -> Are K H ys es -> Are K H (xs ++ ys) (ds ++ es)
 | _, ys, [], es, h, h' => by rw [show _ = [] from h]; exact h'
 | _, ys, d :: ds, es, h, h' => by
  obtain ⟨x, r, e, q, t⟩ := h
  subst e
  exact ⟨x, r ++ ys, rfl, q, Are.append t h'⟩
theorem Are.one {K : Fg} {H : Hp} {x : V} {d : PyData} (h : Is K H x d) : Are K H [x] [d] := ⟨x, [], rfl, h, rfl⟩
theorem Are.ints {K : Fg} {H : Hp} : ∀ {ns : List Int} {xs : List V}, Are K H xs (ns.map PyData.int) ↔ xs = ns.map V.int
 | [], xs => Iff.rfl
 | n :: ns, xs => by
  constructor
  · intro h
    obtain ⟨x, r, e, q, t⟩ := h
    rw [e, show x = V.int n from q, (Are.ints (ns := ns)).mp t]; rfl
  · intro e
    subst e
    exact ⟨_, _, rfl, rfl, (Are.ints (ns := ns)).mpr rfl⟩
theorem Are.bools {K : Fg} {H : Hp} : ∀ {ns : List Bool} {xs : List V}, Are K H xs (ns.map PyData.bool) ↔ xs = ns.map V.bl
 | [], xs => Iff.rfl
 | n :: ns, xs => by
  constructor
  · intro h
    obtain ⟨x, r, e, q, t⟩ := h
    rw [e, show x = V.bl n from q, (Are.bools (ns := ns)).mp t]; rfl
  · intro e
    subst e
    exact ⟨_, _, rfl, rfl, (Are.bools (ns := ns)).mpr rfl⟩
structure Grow (F H F' H' : Hp) : Prop where
 f : Same F F'
 s : Same F' H'
 h : Same H H'
 o : ∀ a o, H a = some o -> (∀ xs, o ≠ .tup xs) -> F a = none -> F' a = none
theorem Grow.refl {F H : Hp} (s : Same F H) : Grow F H F H := ⟨Same.refl _, s, Same.refl _, λ _ _ _ _ h => h⟩
theorem Grow.trans {F H F1 H1 F2 H2 : Hp} (a : Grow F H F1 H1) (b : Grow F1 H1 F2 H2) : Grow F H F2 H2 :=
 ⟨a.f.trans b.f, b.s, a.h.trans b.h, λ c o e t n => b.o c o (a.h c o e) t (a.o c o e t n)⟩
theorem same_upd {F H : Hp} {p : Addr} {o : HO} (s : Same F H) : Same (upd F p o) (upd H p o) := λ b u e => by
 by_cases hb : b = p
 · subst hb; rw [upd_same] at e ⊢; exact e
 · rw [upd_ne hb] at e ⊢; exact s b u e
theorem Grow.new {F H : Hp} {p : Addr} {o : HO} (s : Same F H) (hp : H p = none) : Grow F H (upd F p o) (upd H p o) :=
 ⟨same_new (s.free hp) o, same_upd s, same_new hp o, λ a u e t n => by rw [upd_ne (ne_of_none e hp)]; exact n⟩
theorem Grow.fresh {F H : Hp} {p : Addr} {o : HO} (s : Same F H) (hp : H p = none) : Grow F H F (upd H p o) :=
 ⟨Same.refl _, s.trans (same_new hp o), same_new hp o, λ _ _ _ _ n => n⟩
theorem Grow.frz {F H F' H' : Hp} {p : Addr} {o : HO} (g : Grow F H F' H') (hp : H p = none) (hf : F' p = none) (hh : H' p = some o) : Grow F H (upd F' p o) H' :=
 ⟨g.f.trans (same_new hf o), λ b u e => by
  by_cases hb : b = p
  · subst hb; rw [upd_same] at e; rw [hh]; exact e
  · rw [upd_ne hb] at e; exact g.s b u e, g.h, λ a u e t n => by rw [upd_ne (ne_of_none e hp)]; exact g.o a u e t n⟩
inductive Sl where
 | fz (d : PyData)
 | ow (ds : List PyData)
 | od (kvs : List (PyData × PyData))
noncomputable abbrev DSt := List (Option Sl)
noncomputable def lamE : Expr -> Option Pos
 | .Call _ _ [kw] _ => match kw.value with
  | .Lambda _ _ _ pos => some pos
  | _ => none
 | _ => none
noncomputable def lamS : Stmt -> Option Pos
 | .Return (some e) _ => lamE e
 | .Assign _ e _ => lamE e
 | _ => none
noncomputable def lamOf (fd : FuncData) : Option (Array Value) := match fd.body with
 | .stmts b => (b.findSome? lamS).map λ pos => #[rawInt pos.line, rawInt pos.col, .str (fd.qualname ++ ".<locals>." ++ "<lambda>") 0]
 | _ => none
def TblK (K : Fg) (a : Addr) (ps : Array Value) : Prop := ∃ (f : Addr) (oc : Value) (od : Option Addr) (fd : FuncData) (sl : Array (Option Value)) (c : Addr), K.lookup f = some ⟨oc, od, .func fd, sl⟩ /\ fd.code = .ref c /\ PySem.W.codeHdIn K c a = true /\ lamOf fd = some ps
def Tb (K : Fg) (F : Hp) : Prop := ∀ a ps, TblK K a ps -> F a = some (.tbl ps)
theorem Tb.same {K : Fg} {F F' : Hp} (t : Tb K F) (s : Same F F') : Tb K F' := λ a ps h => s _ _ (t a ps h)
def SameT (K : Fg) (F H : Hp) : Prop := Same F H /\ Tb K F
structure Rep (K : Fg) (H0 F0 F : Hp) (σ : St) (H : Hp) (δ : DSt) : Prop where
 g : Grow F0 H0 F H
 len : σ.length = δ.length
 fz : ∀ (i : Nat) (d : PyData), δ[i]? = some (some (.fz d)) -> ∃ v, σ[i]? = some (some v) /\ Is K F v d
 ow : ∀ (i : Nat) (ds : List PyData), δ[i]? = some (some (.ow ds)) -> ∃ a xs, σ[i]? = some (some (.ref a)) /\ H a = some (.lst xs) /\ F a = none /\ H0 a = none /\ Are K F xs ds
 ap : ∀ (i j : Nat) (ds es : List PyData) (a : Addr), δ[i]? = some (some (.ow ds)) -> δ[j]? = some (some (.ow es)) -> σ[i]? = some (some (.ref a)) -> σ[j]? = some (some (.ref a)) -> i = j
 od : ∀ (i : Nat) (kvs : List (PyData × PyData)), δ[i]? = some (some (.od kvs)) -> ∃ a o, σ[i]? = some (some (.ref a)) /\ H a = some o /\ F a = none /\ H0 a = none /\ DcO K F o kvs
 ad : ∀ (i j : Nat) (ds es : List (PyData × PyData)) (a : Addr), δ[i]? = some (some (.od ds)) -> δ[j]? = some (some (.od es)) -> σ[i]? = some (some (.ref a)) -> σ[j]? = some (some (.ref a)) -> i = j
 tb : Tb K F
section
variable {K : Fg} {H0 F0 F F' : Hp} {σ : St} {H H' : Hp} {δ : DSt}
theorem Rep.grow (R : Rep K H0 F0 F σ H δ) (g : Grow F H F' H') : Rep K H0 F0 F' σ H' δ where
 g := R.g.trans g
 len := R.len
 fz := λ i d e => let ⟨v, h1, h2⟩ := R.fz i d e; ⟨v, h1, h2.same g.f⟩
 ow := λ i ds e => let ⟨a, xs, h1, h2, h3, h4, h5⟩ := R.ow i ds e; ⟨a, xs, h1, g.h _ _ h2, g.o _ _ h2 (λ _ z => nomatch z) h3, h4, h5.same g.f⟩
 ap := R.ap
 od := λ i ds e => let ⟨a, m, h1, h2, h3, h4, h5⟩ := R.od i ds e; ⟨a, m, h1, g.h _ _ h2, g.o _ _ h2 h5.ntup h3, h4, h5.same g.f⟩
 ad := R.ad
 tb := R.tb.same g.f
theorem get_set {α : Type} {l : List α} {i j : Nat} {x y : α} (h : (l.set i x)[j]? = some y) : (j = i /\ y = x) \/ (j ≠ i /\ l[j]? = some y) := by
 rw [List.getElem?_set] at h
 split at h
 · rename_i e
   split at h
   · exact .inl ⟨e.symm, (zV h).symm⟩
   · cases h
 · rename_i e
   exact .inr ⟨λ z => e z.symm, h⟩
theorem set_get {α : Type} {l : List α} {i : Nat} {x : α} (h : i < l.length) : (l.set i x)[i]? = some x := by
 rw [List.getElem?_set, if_pos rfl, if_pos h]
theorem set_get_ne {α : Type} {l : List α} {i j : Nat} {x : α} (h : j ≠ i) : (l.set i x)[j]? = l[j]? := by
 rw [List.getElem?_set, if_neg (λ z => h z.symm)]
theorem lt_of_get {α : Type} {l : List α} {i : Nat} {x : α} (h : l[i]? = some x) : i < l.length := (Q10.mp h).1
theorem Rep.set (R : Rep K H0 F0 F σ H δ) {i : Nat} {v : V} {d : PyData} (h : Is K F v d) : Rep K H0 F0 F (σ.set i (some v)) H (δ.set i (some (.fz d))) where
 g := R.g
 len := by rw [Qe, Qe]; exact R.len
 fz := λ j e q => by
  have hj := lt_of_get q
  rw [Qe] at hj
  rcases get_set q with ⟨rfl, z⟩ | ⟨n, q⟩
  · injection z with z
    injection z with z
    subst z
    exact ⟨v, set_get (by rw [R.len]; exact hj), h⟩
  · rw [set_get_ne n]; exact R.fz j e q
 ow := λ j ds q => by
  rcases get_set q with ⟨rfl, z⟩ | ⟨n, q⟩
  · cases z
  · rw [set_get_ne n]; exact R.ow j ds q
 ap := λ j k ds es a q1 q2 q3 q4 => by
  rcases get_set q1 with ⟨rfl, z⟩ | ⟨n1, q1⟩
  · cases z
  · rcases get_set q2 with ⟨rfl, z⟩ | ⟨n2, q2⟩
    · cases z
    · rw [set_get_ne n1] at q3
      rw [set_get_ne n2] at q4
      exact R.ap j k ds es a q1 q2 q3 q4
 od := λ j ds q => by
  rcases get_set q with ⟨rfl, z⟩ | ⟨n, q⟩
  · cases z
  · rw [set_get_ne n]; exact R.od j ds q
 ad := λ j k ds es a q1 q2 q3 q4 => by
  rcases get_set q1 with ⟨rfl, z⟩ | ⟨n1, q1⟩
  · cases z
  · rcases get_set q2 with ⟨rfl, z⟩ | ⟨n2, q2⟩
    · cases z
    · rw [set_get_ne n1] at q3
      rw [set_get_ne n2] at q4
      exact R.ad j k ds es a q1 q2 q3 q4
 tb := R.tb
theorem Rep.setO (R : Rep K H0 F0 F σ H δ) {i : Nat} {a : Addr} {xs : List V} {ds : List PyData} (ha : H a = some (.lst xs)) (hf : F a = none) (h0 : H0 a = none) (h : Are K F xs ds)
 (hn : ∀ j es, j ≠ i -> δ[j]? = some (some (.ow es)) -> σ[j]? ≠ some (some (.ref a))) : Rep K H0 F0 F (σ.set i (some (.ref a))) H (δ.set i (some (.ow ds))) where
 g := R.g
 len := by rw [Qe, Qe]; exact R.len
 fz := λ j e q => by
  rcases get_set q with ⟨rfl, z⟩ | ⟨n, q⟩
  · cases z
  · rw [set_get_ne n]; exact R.fz j e q
 ow := λ j es q => by
  have hj := lt_of_get q
  rw [Qe] at hj
  rcases get_set q with ⟨rfl, z⟩ | ⟨n, q⟩
  · injection z with z
    injection z with z
    subst z
    exact ⟨a, xs, set_get (by rw [R.len]; exact hj), ha, hf, h0, h⟩
  · rw [set_get_ne n]; exact R.ow j es q
 ap := λ j k ds' es' b q1 q2 q3 q4 => by
  have hj := lt_of_get q1
  have hk := lt_of_get q2
  rw [Qe] at hj hk
  rcases get_set q1 with ⟨ej, z⟩ | ⟨n1, p1⟩
  · rcases get_set q2 with ⟨ek, z2⟩ | ⟨n2, p2⟩
    · rw [ej, ek]
    · rw [ej, set_get (by rw [R.len, <- ej]; exact hj)] at q3
      rw [set_get_ne n2] at q4
      cases q3
      exact absurd q4 (hn k es' n2 p2)
  · rcases get_set q2 with ⟨ek, z⟩ | ⟨n2, p2⟩
    · rw [ek, set_get (by rw [R.len, <- ek]; exact hk)] at q4
      rw [set_get_ne n1] at q3
      cases q4
      exact absurd q3 (hn j ds' n1 p1)
    · rw [set_get_ne n1] at q3
      rw [set_get_ne n2] at q4
      exact R.ap j k ds' es' b p1 p2 q3 q4
 od := λ j ds q => by
  rcases get_set q with ⟨rfl, z⟩ | ⟨n, q⟩
  · cases z
  · rw [set_get_ne n]; exact R.od j ds q
 ad := λ j k ds es a q1 q2 q3 q4 => by
  rcases get_set q1 with ⟨rfl, z⟩ | ⟨n1, q1⟩
  · cases z
  · rcases get_set q2 with ⟨rfl, z⟩ | ⟨n2, q2⟩
    · cases z
    · rw [set_get_ne n1] at q3
      rw [set_get_ne n2] at q4
      exact R.ad j k ds es a q1 q2 q3 q4
 tb := R.tb
theorem Rep.mut (R : Rep K H0 F0 F σ H δ) {i : Nat} {a : Addr} {xs : List V} {es ds : List PyData} (e : δ[i]? = some (some (.ow es))) (hs : σ[i]? = some (some (.ref a))) (hf : F a = none) (h0 : H0 a = none) (h : Are K F xs ds) :
 Rep K H0 F0 F σ (upd H a (.lst xs)) (δ.set i (some (.ow ds))) where
 g := ⟨R.g.f, λ b u q => by rw [upd_ne (ne_of_none q hf)]; exact R.g.s b u q, λ b u q => by rw [upd_ne (ne_of_none q h0)]; exact R.g.h b u q, R.g.o⟩
 len := by rw [Qe]; exact R.len
 fz := λ j d q => by
  rcases get_set q with ⟨rfl, z⟩ | ⟨n, q⟩
  · cases z
  · exact R.fz j d q
 ow := λ j us q => by
  rcases get_set q with ⟨rfl, z⟩ | ⟨n, q⟩
  · injection z with z
    injection z with z
    subst z
    exact ⟨a, xs, hs, upd_same, hf, h0, h⟩
  · obtain ⟨b, ys, q1, q2, q3, q4, q5⟩ := R.ow j us q
    have nb : b ≠ a := λ z => by subst z; exact n (R.ap j i us es b q e q1 hs)
    exact ⟨b, ys, q1, by rw [upd_ne nb]; exact q2, q3, q4, q5⟩
 ap := λ j k ds' es' b q1 q2 q3 q4 => by
  have f : ∀ {m : Nat} {us : List PyData}, (δ.set i (some (Sl.ow ds)))[m]? = some (some (Sl.ow us)) -> ∃ us' : List PyData, δ[m]? = some (some (Sl.ow us')) := λ {m us} q => by
   rcases get_set q with ⟨em, z⟩ | ⟨n, q⟩
   · exact ⟨es, by rw [em]; exact e⟩
   · exact ⟨us, q⟩
  obtain ⟨u1, p1⟩ := f q1
  obtain ⟨u2, p2⟩ := f q2
  exact R.ap j k u1 u2 b p1 p2 q3 q4
 od := λ j us q => by
  rcases get_set q with ⟨rfl, z⟩ | ⟨n, q⟩
  · cases z
  · obtain ⟨b, m, q1, q2, q3, q4, q5⟩ := R.od j us q
    have nb : b ≠ a := λ z => by
     subst z
     obtain ⟨b2, ys, w1, w2, _⟩ := R.ow i es e
     rw [hs] at w1
     cases w1
     rw [q2] at w2
     exact q5.nlst _ (zV w2)
    exact ⟨b, m, q1, by rw [upd_ne nb]; exact q2, q3, q4, q5⟩
 ad := λ j k ds' es' b q1 q2 q3 q4 => by
  rcases get_set q1 with ⟨rfl, z⟩ | ⟨n1, q1⟩
  · cases z
  · rcases get_set q2 with ⟨rfl, z⟩ | ⟨n2, q2⟩
    · cases z
    · exact R.ad j k ds' es' b q1 q2 q3 q4
 tb := R.tb
noncomputable def frz (i : Nat) (δ : DSt) : DSt := match δ[i]? with
 | some (some (.ow ds)) => δ.set i (some (.fz (.list ds)))
 | some (some (.od kvs)) => δ.set i (some (.fz (.dict kvs)))
 | _ => δ
theorem Rep.frz (R : Rep K H0 F0 F σ H δ) (i : Nat) : ∃ F', Same F F' /\ Rep K H0 F0 F' σ H (frz i δ) := by
 unfold DL.frz
 split
 · rename_i ds e
   obtain ⟨a, xs, q1, q2, q3, q4, q5⟩ := R.ow i ds e
   have g := R.g.frz (p := a) (o := .lst xs) q4 q3 q2
   have sF : Same F (upd F a (.lst xs)) := same_new q3 _
   refine ⟨upd F a (.lst xs), sF, g, by rw [Qe]; exact R.len, λ j d q => ?_, λ j us q => ?_, λ j k ds' es' b p1 p2 p3 p4 => ?_, λ j us q => ?_, λ j k ds' es' b p1 p2 p3 p4 => ?_, R.tb.same sF⟩
   · rcases get_set q with ⟨rfl, z⟩ | ⟨n, q⟩
     · injection z with z
       injection z with z
       subst z
       exact ⟨.ref a, q1, a, xs, rfl, upd_same, q5.same sF⟩
     · obtain ⟨v, h1, h2⟩ := R.fz j d q
       exact ⟨v, h1, h2.same sF⟩
   · rcases get_set q with ⟨rfl, z⟩ | ⟨n, q⟩
     · cases z
     · obtain ⟨b, ys, h1, h2, h3, h4, h5⟩ := R.ow j us q
       have nb : b ≠ a := λ z => by subst z; exact n (R.ap j i us ds b q e h1 q1)
       exact ⟨b, ys, h1, h2, by rw [upd_ne nb]; exact h3, h4, h5.same sF⟩
   · rcases get_set p1 with ⟨rfl, z⟩ | ⟨n1, p1⟩
     · cases z
     · rcases get_set p2 with ⟨rfl, z⟩ | ⟨n2, p2⟩
       · cases z
       · exact R.ap j k ds' es' b p1 p2 p3 p4
   · rcases get_set q with ⟨rfl, z⟩ | ⟨n, q⟩
     · cases z
     · obtain ⟨b, m, h1, h2, h3, h4, h5⟩ := R.od j us q
       have nb : b ≠ a := λ z => by
        subst z
        rw [q2] at h2
        exact h5.nlst _ (zV h2).symm
       exact ⟨b, m, h1, h2, by rw [upd_ne nb]; exact h3, h4, h5.same sF⟩
   · rcases get_set p1 with ⟨rfl, z⟩ | ⟨n1, p1⟩
     · cases z
     · rcases get_set p2 with ⟨rfl, z⟩ | ⟨n2, p2⟩
       · cases z
       · exact R.ad j k ds' es' b p1 p2 p3 p4
 · rename_i kvs e
   obtain ⟨a, m, q1, q2, q3, q4, q5⟩ := R.od i kvs e
   have g := R.g.frz (p := a) (o := m) q4 q3 q2
   have sF : Same F (upd F a m) := same_new q3 _
   refine ⟨upd F a m, sF, g, by rw [Qe]; exact R.len, λ j d q => ?_, λ j us q => ?_, λ j k ds' es' b p1 p2 p3 p4 => ?_, λ j us q => ?_, λ j k ds' es' b p1 p2 p3 p4 => ?_, R.tb.same sF⟩
   · rcases get_set q with ⟨rfl, z⟩ | ⟨n, q⟩
     · injection z with z
       injection z with z
       subst z
       exact ⟨.ref a, q1, (q5.same sF).is upd_same⟩
     · obtain ⟨v, h1, h2⟩ := R.fz j d q
       exact ⟨v, h1, h2.same sF⟩
   · rcases get_set q with ⟨rfl, z⟩ | ⟨n, q⟩
     · cases z
     · obtain ⟨b, ys, h1, h2, h3, h4, h5⟩ := R.ow j us q
       have nb : b ≠ a := λ z => by
        subst z
        rw [q2] at h2
        exact q5.nlst _ (zV h2)
       exact ⟨b, ys, h1, h2, by rw [upd_ne nb]; exact h3, h4, h5.same sF⟩
   · rcases get_set p1 with ⟨rfl, z⟩ | ⟨n1, p1⟩
     · cases z
     · rcases get_set p2 with ⟨rfl, z⟩ | ⟨n2, p2⟩
       · cases z
       · exact R.ap j k ds' es' b p1 p2 p3 p4
   · rcases get_set q with ⟨rfl, z⟩ | ⟨n, q⟩
     · cases z
     · obtain ⟨b, m2, h1, h2, h3, h4, h5⟩ := R.od j us q
       have nb : b ≠ a := λ z => by subst z; exact n (R.ad j i us kvs b q e h1 q1)
       exact ⟨b, m2, h1, h2, by rw [upd_ne nb]; exact h3, h4, h5.same sF⟩
   · rcases get_set p1 with ⟨rfl, z⟩ | ⟨n1, p1⟩
     · cases z
     · rcases get_set p2 with ⟨rfl, z⟩ | ⟨n2, p2⟩
       · cases z
       · exact R.ad j k ds' es' b p1 p2 p3 p4
 · exact ⟨F, Same.refl _, R⟩
theorem Rep.weak (R : Rep K H0 F0 F σ H δ) {δ' : DSt} (l : δ'.length = δ.length) (w : ∀ (i : Nat) s, δ'[i]? = some (some s) -> δ[i]? = some (some s)) : Rep K H0 F0 F σ H δ' :=
 ⟨R.g, by rw [R.len, l], λ i d e => R.fz i d (w i _ e), λ i ds e => R.ow i ds (w i _ e), λ i j ds es a q1 q2 => R.ap i j ds es a (w i _ q1) (w j _ q2), λ i ds e => R.od i ds (w i _ e), λ i j ds es a q1 q2 => R.ad i j ds es a (w i _ q1) (w j _ q2), R.tb⟩
end
section
variable (K : Fg)
def SE (te : TE) (f : DSt -> Option PyData) : Prop := ∀ (H0 F0 F : Hp) (σ : St) (H : Hp) (δ : DSt) (d : PyData) (Q : VK), Rep K H0 F0 F σ H δ -> f δ = some d -> (∀ v H' F', Grow F H F' H' -> Is K F' v d -> Q v H') -> te σ H Q
def ST (tt : TT) (f : DSt -> Option Bool) : Prop := ∀ (H0 F0 F : Hp) (σ : St) (H : Hp) (δ : DSt) (b : Bool) (Q : Bool -> Hp -> Prop), Rep K H0 F0 F σ H δ -> f δ = some b -> (∀ H' F', Grow F H F' H' -> Q b H') -> tt σ H Q
def SA (ta : TA) (f : DSt -> Option (List PyData)) : Prop := ∀ (H0 F0 F : Hp) (σ : St) (H : Hp) (δ : DSt) (ds : List PyData) (Q : List V -> Hp -> Prop), Rep K H0 F0 F σ H δ -> f δ = some ds -> (∀ vs H' F', Grow F H F' H' -> Are K F' vs ds -> Q vs H') -> ta σ H Q
def SO (te : TE) (f : DSt -> Option (List PyData)) : Prop := ∀ (H0 F0 F : Hp) (σ : St) (H : Hp) (δ : DSt) (ds : List PyData) (Q : VK), Rep K H0 F0 F σ H δ -> f δ = some ds ->
 (∀ a xs H' F', Grow F H F' H' -> H a = none -> F' a = none -> H' a = some (.lst xs) -> Are K F' xs ds -> Q (.ref a) H') -> te σ H Q
def OpD (r : R2) (g : PyData -> PyData -> Option PyData) : Prop := ∀ (F H : Hp) (x y : V) (dx dy d : PyData) (Q : VK), Same F H -> Is K F x dx -> Is K F y dy -> g dx dy = some d -> (∀ v H' F', Grow F H F' H' -> Is K F' v d -> Q v H') -> r x y H Q
def CallD (r : List V -> Hp -> VK -> Prop) (g : List PyData -> Option PyData) : Prop := ∀ (F H : Hp) (xs : List V) (ds : List PyData) (d : PyData) (Q : VK), Same F H -> Are K F xs ds -> g ds = some d -> (∀ v H' F', Grow F H F' H' -> Is K F' v d -> Q v H') -> r xs H Q
end
noncomputable def dVar (i : Nat) (δ : DSt) : Option PyData := match δ[i]? with
 | some (some (.fz d)) => some d
 | _ => none
noncomputable def dC (d : PyData) (_ : DSt) : Option PyData := some d
noncomputable def d2 (g : PyData -> PyData -> Option PyData) (fa fb : DSt -> Option PyData) (δ : DSt) : Option PyData := (fa δ).bind λ a => (fb δ).bind λ b => g a b
noncomputable def dCall (g : List PyData -> Option PyData) (fs : DSt -> Option (List PyData)) (δ : DSt) : Option PyData := (fs δ).bind g
noncomputable def dNil (_ : DSt) : Option (List PyData) := some []
noncomputable def dCons (f : DSt -> Option PyData) (fs : DSt -> Option (List PyData)) (δ : DSt) : Option (List PyData) := (f δ).bind λ d => (fs δ).bind λ ds => some (d :: ds)
theorem bind_some {α β : Type} {x : Option α} {f : α -> Option β} {b : β} (h : x.bind f = some b) : ∃ a, x = some a /\ f a = some b := by
 cases x with
 | none => cases h
 | some a => exact ⟨a, rfl, h⟩
section
variable {K : Fg} {ta tb te : TE} {fa fb f : DSt -> Option PyData}
theorem SO.se {fo : DSt -> Option (List PyData)} (h : SO K te fo) : SE K te (λ δ => (fo δ).map PyData.list) := by
 intro H0 F0 F σ H δ d Q R e k
 obtain ⟨ds, e1, e2⟩ := Q0.mp e
 subst e2
 refine h H0 F0 F σ H δ ds Q R e1 λ a xs H' F' g h0 hf ha ar => ?_
 exact k (.ref a) H' _ (g.frz h0 hf ha) ⟨a, xs, rfl, upd_same, ar.same (same_new hf _)⟩
theorem se_var (i : Nat) : SE K (tVar i) (dVar i) := by
 intro H0 F0 F σ H δ d Q R e h
 unfold dVar at e
 split at e
 · rename_i d' q
   cases e
   obtain ⟨v, hv, is⟩ := R.fz i d q
   exact ⟨v, hv, h v H F (Grow.refl R.g.s) is⟩
 · cases e
theorem se_c {v : V} {d : PyData} (h : ∀ H, Is K H v d) : SE K (tC v) (dC d) := λ H0 F0 F σ H δ d' Q R e k => by
 cases e
 exact k v H F (Grow.refl R.g.s) (h F)
theorem se_int {n : Int} : SE K (tC (.int n)) (dC (.int n)) := se_c λ _ => rfl
theorem se_bl {b : Bool} : SE K (tC (.bl b)) (dC (.bool b)) := se_c λ _ => rfl
theorem se_non : SE K (tC .non) (dC .none) := se_c λ _ => rfl
theorem se_str {x : Str} : SE K (tC (.str x)) (dC (.str x)) := se_c λ _ => rfl
theorem se_op {r : R2} {g : PyData -> PyData -> Option PyData} (o : OpD K r g) (a : SE K ta fa) (b : SE K tb fb) : SE K (tOp r ta tb) (d2 g fa fb) := by
 intro H0 F0 F σ H δ d Q R e h
 obtain ⟨dx, ex, e⟩ := bind_some e
 obtain ⟨dy, ey, e⟩ := bind_some e
 refine a H0 F0 F σ H δ dx _ R ex λ v H1 F1 g1 i1 => b H0 F0 F1 σ H1 δ dy _ (R.grow g1) ey λ w H2 F2 g2 i2 => ?_
 exact o F2 H2 v w dx dy d Q g2.s (i1.same g2.f) i2 e λ v' H3 F3 g3 i3 => h v' H3 F3 (g1.trans (g2.trans g3)) i3
theorem sa_nil : SA K tNil dNil := λ H0 F0 F σ H δ ds Q R e h => by cases e; exact h [] H F (Grow.refl R.g.s) rfl
theorem sa_cons {t : TA} {fs : DSt -> Option (List PyData)} (a : SE K te f) (b : SA K t fs) : SA K (tCons te t) (dCons f fs) := by
 intro H0 F0 F σ H δ ds Q R e h
 obtain ⟨dx, ex, e⟩ := bind_some e
 obtain ⟨dy, ey, e⟩ := bind_some e
 cases e
 refine a H0 F0 F σ H δ dx _ R ex λ v H1 F1 g1 i1 => b H0 F0 F1 σ H1 δ dy _ (R.grow g1) ey λ vs H2 F2 g2 i2 => ?_
 exact h (v :: vs) H2 F2 (g1.trans g2) ⟨v, vs, rfl, i1.same g2.f, i2⟩
theorem se_callB {r : List V -> Hp -> VK -> Prop} {g : List PyData -> Option PyData} {t : TA} {fs : DSt -> Option (List PyData)} (o : CallD K r g) (a : SA K t fs) : SE K (tCB r t) (dCall g fs) := by
 intro H0 F0 F σ H δ d Q R e h
 obtain ⟨ds, ex, e⟩ := bind_some e
 refine a H0 F0 F σ H δ ds _ R ex λ vs H1 F1 g1 i1 => ?_
 exact o F1 H1 vs ds d Q g1.s i1 e λ v H2 F2 g2 i2 => h v H2 F2 (g1.trans g2) i2
noncomputable def LIM : Nat := 100000
theorem lim_line {n : Nat} (h : n <= LIM) : n <= sizeLine := Qb h (by decide)
theorem lim_lt {n : Nat} (h : n <= LIM) : n < sizeLine := Q27 h (by decide)
noncomputable def dTup (fs : DSt -> Option (List PyData)) (δ : DSt) : Option PyData := (fs δ).bind λ ds => if ds.length <= LIM then some (.tuple ds) else none
noncomputable def dLstO (fs : DSt -> Option (List PyData)) (δ : DSt) : Option (List PyData) := (fs δ).bind λ ds => if ds.length <= LIM then some ds else none
noncomputable def dOwn (fo : DSt -> Option (List PyData)) (δ : DSt) : Option PyData := (fo δ).map PyData.list
theorem se_tup {t : TA} {fs : DSt -> Option (List PyData)} (a : SA K t fs) : SE K (tTup t) (dTup fs) := by
 intro H0 F0 F σ H δ d Q R e h
 obtain ⟨ds, ex, e⟩ := bind_some e
 split at e
 · rename_i hl
   cases e
   refine a H0 F0 F σ H δ ds _ R ex λ vs H1 F1 g1 i1 => ⟨by rw [i1.length]; exact lim_line hl, λ p hp => ?_⟩
   refine h (.ref p) _ _ (g1.trans (Grow.new g1.s hp)) ⟨p, vs, rfl, upd_same, i1.same (same_new (g1.s.free hp) _)⟩
 · cases e
theorem so_lst {t : TA} {fs : DSt -> Option (List PyData)} (a : SA K t fs) : SO K (tLst t) (dLstO fs) := by
 intro H0 F0 F σ H δ d Q R e h
 obtain ⟨ds, ex, e⟩ := bind_some e
 split at e
 · rename_i hl
   cases e
   refine a H0 F0 F σ H δ d _ R ex λ vs H1 F1 g1 i1 => ⟨by rw [i1.length]; exact lim_line hl, λ p hp => ?_⟩
   have hp0 : H p = none := g1.h.free hp
   exact h p vs _ F1 (g1.trans (Grow.fresh g1.s hp)) hp0 (g1.s.free hp) upd_same i1
 · cases e
theorem se_own {fo : DSt -> Option (List PyData)} (h : SO K te fo) : SE K te (dOwn fo) := h.se
noncomputable def dB (f : DSt -> Option PyData) (δ : DSt) : Option Bool := (f δ).bind λ d => match d with
 | .bool b => some b
 | _ => none
noncomputable def truD : PyData -> Option Bool
 | .none => some false
 | .bool b => some b
 | .int i => some (i != 0)
 | .str y => if y.length <= LIM then some ((y.length : Int) != 0) else none
 | .list ds => some (!ds.isEmpty)
 | .tuple ds => some (!ds.isEmpty)
 | .dict _ => none
noncomputable def dTru (f : DSt -> Option PyData) (δ : DSt) : Option Bool := (f δ).bind truD
noncomputable def dNotT (f : DSt -> Option Bool) (δ : DSt) : Option Bool := (f δ).map (!·)
noncomputable def dOrT (f g : DSt -> Option Bool) (δ : DSt) : Option Bool := (f δ).bind λ b => if b = true then some true else g δ
noncomputable def dAndV (f g : DSt -> Option PyData) (δ : DSt) : Option PyData := (dB f δ).bind λ b => if b = true then g δ else some (.bool false)
noncomputable def dNotV (f : DSt -> Option PyData) (δ : DSt) : Option PyData := (dB f δ).map λ b => .bool (!b)
theorem dB_some {f : DSt -> Option PyData} {δ : DSt} {b : Bool} (h : dB f δ = some b) : f δ = some (.bool b) := by
 obtain ⟨d, e, h⟩ := bind_some h
 cases d <;> simp at h
 subst h
 exact e
theorem st_test (a : SE K ta fa) : ST K (tTest ta) (dB fa) := λ H0 F0 F σ H δ b Q R e h =>
 a H0 F0 F σ H δ (.bool b) _ R (dB_some e) λ v H1 F1 g1 i1 => ⟨b, i1, h H1 F1 g1⟩
theorem isEmpty_len {α β : Type} {xs : List α} {ys : List β} (h : xs.length = ys.length) : (!xs.isEmpty) = !ys.isEmpty := by
 cases xs <;> cases ys <;> simp at h <;> rfl
theorem truV_of {F H : Hp} {v : V} {d : PyData} {b : Bool} (s : Same F H) (i : Is K F v d) (e : truD d = some b) : TruV K v H b := by
 cases d with
 | none => rw [show v = .non from i]; cases e; rfl
 | bool c => rw [show v = .bl c from i]; cases e; rfl
 | int c => rw [show v = .int c from i]; cases e; rfl
 | str c =>
  rw [show v = .str c from i]
  have e' : (if c.length <= LIM then some ((c.length : Int) != 0) else none) = some b := e
  split at e'
  · rename_i hl
    cases e'
    exact ⟨lim_line hl, rfl⟩
  · cases e'
 | list ds =>
  obtain ⟨a, xs, rfl, h1, h2⟩ := i
  cases e
  exact .inl ⟨xs, SqL.of (s _ _ h1), (isEmpty_len h2.length).symm⟩
 | tuple ds =>
  obtain ⟨a, xs, rfl, h1, h2⟩ := i
  cases e
  exact .inr (.inl ⟨xs, SqT.of (s _ _ h1), (isEmpty_len h2.length).symm⟩)
 | dict _ => cases e
theorem st_tru (a : SE K ta fa) : ST K (tTru K ta) (dTru fa) := λ H0 F0 F σ H δ b Q R e h => by
 obtain ⟨d, e1, e2⟩ := bind_some e
 exact a H0 F0 F σ H δ d _ R e1 λ v H1 F1 g1 i1 => ⟨b, truV_of g1.s i1 e2, h H1 F1 g1⟩
variable {t u : TT} {c c' : DSt -> Option Bool}
theorem st_not (a : ST K t c) : ST K (tNot t) (dNotT c) := λ H0 F0 F σ H δ b Q R e h => by
 obtain ⟨d, e1, e2⟩ := Q0.mp e
 subst e2
 exact a H0 F0 F σ H δ d _ R e1 λ H1 F1 g1 => h H1 F1 g1
theorem st_or (a : ST K t c) (b : ST K u c') : ST K (tOr t u) (dOrT c c') := λ H0 F0 F σ H δ b' Q R e h => by
 obtain ⟨d, e1, e2⟩ := bind_some e
 refine a H0 F0 F σ H δ d _ R e1 λ H1 F1 g1 => ?_
 cases d with
 | true => cases e2; exact iteT (h H1 F1 g1)
 | false => exact iteF (b H0 F0 F1 σ H1 δ b' _ (R.grow g1) e2 λ H2 F2 g2 => h H2 F2 (g1.trans g2))
theorem se_and (a : SE K ta fa) (b : SE K tb fb) : SE K (tAndV ta tb) (dAndV fa fb) := λ H0 F0 F σ H δ d Q R e h => by
 obtain ⟨b', e1, e2⟩ := bind_some e
 refine a H0 F0 F σ H δ _ _ R (dB_some e1) λ v H1 F1 g1 i1 => ⟨b', i1, ?_⟩
 cases b' with
 | true => exact iteT (b H0 F0 F1 σ H1 δ d _ (R.grow g1) e2 λ v2 H2 F2 g2 i2 => h v2 H2 F2 (g1.trans g2) i2)
 | false => cases e2; exact iteF (h _ H1 F1 g1 rfl)
theorem se_not (a : SE K ta fa) : SE K (tNotV ta) (dNotV fa) := λ H0 F0 F σ H δ d Q R e h => by
 obtain ⟨b', e1, e2⟩ := Q0.mp e
 subst e2
 exact a H0 F0 F σ H δ _ _ R (dB_some e1) λ v H1 F1 g1 i1 => ⟨b', i1, h _ H1 F1 g1 rfl⟩
end
inductive DFlow where
 | nx (δ : DSt)
 | rt (d : PyData)
 | ro (ds : List PyData)
 | bk (δ : DSt)
 | ct (δ : DSt)
noncomputable def Lands (K : Fg) (H0 F0 F : Hp) (D : Ends) : DFlow -> Prop
 | .nx δ => ∀ F' σ H, Rep K H0 F0 F' σ H δ -> Same F F' -> D.nx σ H
 | .rt d => ∀ F' v H, Grow F0 H0 F' H -> Is K F' v d -> D.rt v H
 | .ro ds => ∀ F' a xs H, Grow F0 H0 F' H -> H0 a = none -> F' a = none -> H a = some (.lst xs) -> Are K F' xs ds -> D.rt (.ref a) H
 | .bk δ => ∀ F' σ H, Rep K H0 F0 F' σ H δ -> Same F F' -> D.bk σ H
 | .ct δ => ∀ F' σ H, Rep K H0 F0 F' σ H δ -> Same F F' -> D.ct σ H
theorem Lands.up {K : Fg} {H0 F0 F F1 : Hp} {D : Ends} (s : Same F F1) : ∀ {r : DFlow}, Lands K H0 F0 F D r -> Lands K H0 F0 F1 D r
 | .nx δ, h => λ F' σ H R q => h F' σ H R (s.trans q)
 | .rt d, h => h
 | .ro ds, h => h
 | .bk δ, h => λ F' σ H R q => h F' σ H R (s.trans q)
 | .ct δ, h => λ F' σ H R q => h F' σ H R (s.trans q)
def SS (K : Fg) (ts : TS) (f : DSt -> Option DFlow) : Prop := ∀ (H0 F0 F : Hp) (σ : St) (H : Hp) (δ : DSt) (r : DFlow) (D : Ends), Rep K H0 F0 F σ H δ -> f δ = some r -> Lands K H0 F0 F D r -> ts D σ H
noncomputable def dNext (δ : DSt) : Option DFlow := some (.nx δ)
noncomputable def dSeq (f g : DSt -> Option DFlow) (δ : DSt) : Option DFlow := (f δ).bind λ r => match r with
 | .nx δ' => g δ'
 | r => some r
noncomputable def dIf (c : DSt -> Option Bool) (f g : DSt -> Option DFlow) (δ : DSt) : Option DFlow := (c δ).bind λ b => if b = true then f δ else g δ
noncomputable def dSet (i : Nat) (f : DSt -> Option PyData) (δ : DSt) : Option DFlow := (f δ).map λ d => .nx (δ.set i (some (.fz d)))
noncomputable def dSetO (i : Nat) (f : DSt -> Option (List PyData)) (δ : DSt) : Option DFlow := (f δ).map λ ds => .nx (δ.set i (some (.ow ds)))
noncomputable def dAug (i : Nat) (g : PyData -> PyData -> Option PyData) (f : DSt -> Option PyData) (δ : DSt) : Option DFlow := (dVar i δ).bind λ x => (f δ).bind λ y => (g x y).map λ z => .nx (δ.set i (some (.fz z)))
noncomputable def dRet (f : DSt -> Option PyData) (δ : DSt) : Option DFlow := (f δ).map .rt
noncomputable def dRetO (i : Nat) (δ : DSt) : Option DFlow := match δ[i]? with
 | some (some (.ow ds)) => some (.ro ds)
 | _ => none
noncomputable def dDrop (f : DSt -> Option PyData) (δ : DSt) : Option DFlow := (f δ).map λ _ => .nx δ
noncomputable def dNever (_ : DSt) : Option DFlow := none
noncomputable def dFrz (i : Nat) (f : DSt -> Option DFlow) (δ : DSt) : Option DFlow := f (frz i δ)
noncomputable def dAppend (i : Nat) (f : DSt -> Option PyData) (δ : DSt) : Option DFlow := match δ[i]? with
 | some (some (.ow ds)) => (f δ).bind λ d => if ds.length < LIM then some (.nx (δ.set i (some (.ow (ds ++ [d]))))) else none
 | _ => none
noncomputable def dExtend (i : Nat) (f : DSt -> Option PyData) (δ : DSt) : Option DFlow := match δ[i]? with
 | some (some (.ow ds)) => (f δ).bind λ d => match d with
  | .list es => if ds.length + es.length <= LIM then some (.nx (δ.set i (some (.ow (ds ++ es))))) else none
  | _ => none
 | _ => none
noncomputable def intsD : List PyData -> Option (List Int)
 | [] => some []
 | .int n :: r => (intsD r).map (n :: ·)
 | _ :: _ => none
theorem intsD_some : ∀ {ds : List PyData} {ns : List Int}, intsD ds = some ns -> ds = ns.map PyData.int
 | [], ns, h => by cases h; rfl
 | .int n :: r, ns, h => by
  obtain ⟨ms, e1, e2⟩ := Q0.mp h
  subst e2
  rw [intsD_some e1]; rfl
 | .none :: r, ns, h => by cases h
 | .bool _ :: r, ns, h => by cases h
 | .str _ :: r, ns, h => by cases h
 | .list _ :: r, ns, h => by cases h
 | .tuple _ :: r, ns, h => by cases h
 | .dict _ :: r, ns, h => by cases h
theorem intsD_map : ∀ ns : List Int, intsD (ns.map PyData.int) = some ns
 | [] => rfl
 | n :: r => by
  show (intsD (r.map PyData.int)).map (n :: ·) = _
  rw [intsD_map r]; rfl
noncomputable def dRemove (i : Nat) (f : DSt -> Option PyData) (δ : DSt) : Option DFlow := match δ[i]? with
 | some (some (.ow ds)) => (f δ).bind λ d => match d with
  | .int n => (intsD ds).bind λ ns => if n ∈ ns then some (.nx (δ.set i (some (.ow ((ns.erase n).map PyData.int))))) else none
  | _ => none
 | _ => none
section
variable {K : Fg} {t u : TS} {f g : DSt -> Option DFlow} {te ta tb : TE} {fe fa fb : DSt -> Option PyData} {c : TT} {fc : DSt -> Option Bool}
theorem ss_next : SS K tNext dNext := λ H0 F0 F σ H δ r D R e h => by cases e; exact h F σ H R (Same.refl _)
theorem ss_seq (a : SS K t f) (b : SS K u g) : SS K (tSeq t u) (dSeq f g) := by
 intro H0 F0 F σ H δ r D R e h
 obtain ⟨r1, e1, e2⟩ := bind_some e
 refine a H0 F0 F σ H δ r1 { D with nx := u D } R e1 ?_
 cases r1 with
 | nx δ1 => exact λ F' σ' H' R' s' => b H0 F0 F' σ' H' δ1 r D R' e2 (h.up s')
 | rt d => cases e2; exact h
 | ro d => cases e2; exact h
 | bk d => cases e2; exact h
 | ct d => cases e2; exact h
theorem ss_if (cc : ST K c fc) (a : SS K t f) (b : SS K u g) : SS K (tIfS c t u) (dIf fc f g) := by
 intro H0 F0 F σ H δ r D R e h
 obtain ⟨b', e1, e2⟩ := bind_some e
 refine cc H0 F0 F σ H δ b' _ R e1 λ H1 F1 g1 => ?_
 cases b' with
 | true => exact iteT (a H0 F0 F1 σ H1 δ r D (R.grow g1) e2 (h.up g1.f))
 | false => exact iteF (b H0 F0 F1 σ H1 δ r D (R.grow g1) e2 (h.up g1.f))
theorem ss_set (i : Nat) (a : SE K te fe) : SS K (tAsg te (gName i)) (dSet i fe) := by
 intro H0 F0 F σ H δ r D R e h
 obtain ⟨d, e1, e2⟩ := Q0.mp e
 subst e2
 exact a H0 F0 F σ H δ d _ R e1 λ v H1 F1 g1 i1 => h F1 _ H1 ((R.grow g1).set i1) g1.f
theorem ss_setO (i : Nat) {fo : DSt -> Option (List PyData)} (a : SO K te fo) : SS K (tAsg te (gName i)) (dSetO i fo) := by
 intro H0 F0 F σ H δ r D R e h
 obtain ⟨d, e1, e2⟩ := Q0.mp e
 subst e2
 refine a H0 F0 F σ H δ d _ R e1 λ p xs H1 F1 g1 hn hf hp ar => h F1 _ H1 ((R.grow g1).setO hp hf (R.g.h.free hn) ar λ j es nj ej => ?_) g1.f
 obtain ⟨b, ys, q1, q2, _⟩ := R.ow j es ej
 rw [q1]
 intro z
 cases z
 rw [q2] at hn
 cases hn
theorem ss_aug (i : Nat) {r : R2} {gg : PyData -> PyData -> Option PyData} (o : OpD K r gg) (a : SE K te fe) : SS K (tAug i te r) (dAug i gg fe) := by
 intro H0 F0 F σ H δ r' D R e h
 obtain ⟨x, e1, e⟩ := bind_some e
 obtain ⟨y, e2, e⟩ := bind_some e
 obtain ⟨z, e3, e4⟩ := Q0.mp e
 subst e4
 unfold dVar at e1
 split at e1
 · rename_i d' q
   cases e1
   obtain ⟨v, hv, is⟩ := R.fz i x q
   refine ⟨v, hv, a H0 F0 F σ H δ y _ R e2 λ w H1 F1 g1 i1 => o F1 H1 v w x y z _ g1.s (is.same g1.f) i1 e3 λ v2 H2 F2 g2 i2 => ?_⟩
   exact h F2 _ H2 ((R.grow (g1.trans g2)).set i2) (g1.trans g2).f
 · cases e1
theorem ss_ret (a : SE K te fe) : SS K (tRet te) (dRet fe) := by
 intro H0 F0 F σ H δ r D R e h
 obtain ⟨d, e1, e2⟩ := Q0.mp e
 subst e2
 exact a H0 F0 F σ H δ d _ R e1 λ v H1 F1 g1 i1 => h F1 v H1 (R.g.trans g1) i1
theorem ss_retO (i : Nat) : SS K (tRet (tVar i)) (dRetO i) := by
 intro H0 F0 F σ H δ r D R e h
 unfold dRetO at e
 split at e
 · rename_i ds q
   cases e
   obtain ⟨a, xs, q1, q2, q3, q4, q5⟩ := R.ow i ds q
   exact ⟨.ref a, q1, h F a xs H R.g q4 q3 q2 q5⟩
 · cases e
theorem ss_drop (a : SE K te fe) : SS K (tDrop te) (dDrop fe) := by
 intro H0 F0 F σ H δ r D R e h
 obtain ⟨d, e1, e2⟩ := Q0.mp e
 subst e2
 exact a H0 F0 F σ H δ d _ R e1 λ v H1 F1 g1 i1 => h F1 σ H1 (R.grow g1) g1.f
theorem ss_never : SS K tNever dNever := λ H0 F0 F σ H δ r D R e h => by cases e
theorem ss_frz (i : Nat) (a : SS K t f) : SS K t (dFrz i f) := by
 intro H0 F0 F σ H δ r D R e h
 obtain ⟨F', s, R'⟩ := R.frz i
 exact a H0 F0 F' σ H _ r D R' e (h.up s)
theorem ss_append (i : Nat) (a : SE K te fe) : SS K (tDrop (tBM K "list" rAppend (tVar i) (tCons te tNil))) (dAppend i fe) := by
 intro H0 F0 F σ H δ r D R e h
 unfold dAppend at e
 split at e
 · rename_i ds q
   obtain ⟨d, e1, e2⟩ := bind_some e
   split at e2
   · rename_i hl
     cases e2
     obtain ⟨p, xs, q1, q2, q3, q4, q5⟩ := R.ow i ds q
     refine ⟨.ref p, q1, .inl ⟨rfl, xs, SqL.of q2⟩, a H0 F0 F σ H δ d _ R e1 λ v H1 F1 g1 i1 => ⟨p, xs, v, rfl, rfl, g1.h _ _ q2, ?_, ?_⟩⟩
     · rw [q5.length]; exact lim_lt (nLe hl)
     · exact h F1 σ _ ((R.grow g1).mut q q1 (g1.o _ _ q2 (λ _ z => nomatch z) q3) q4 ((q5.same g1.f).append (Are.one i1))) g1.f
   · cases e2
 · cases e
theorem ss_extend (i : Nat) (a : SE K te fe) : SS K (tDrop (tBM K "list" rExtend (tVar i) (tCons te tNil))) (dExtend i fe) := by
 intro H0 F0 F σ H δ r D R e h
 unfold dExtend at e
 split at e
 · rename_i ds q
   obtain ⟨d, e1, e2⟩ := bind_some e
   split at e2
   · rename_i es
     split at e2
     · rename_i hl
       cases e2
       obtain ⟨p, xs, q1, q2, q3, q4, q5⟩ := R.ow i ds q
       refine ⟨.ref p, q1, .inl ⟨rfl, xs, SqL.of q2⟩, a H0 F0 F σ H δ _ _ R e1 λ v H1 F1 g1 i1 => ?_⟩
       obtain ⟨b, zs, rfl, hb, ab⟩ := i1
       refine ⟨p, b, xs, zs, rfl, rfl, g1.h _ _ q2, g1.s _ _ hb, ?_, ?_⟩
       · rw [q5.length, ab.length]; exact lim_line hl
       · exact h F1 σ _ ((R.grow g1).mut q q1 (g1.o _ _ q2 (λ _ z => nomatch z) q3) q4 ((q5.same g1.f).append ab)) g1.f
     · cases e2
   · cases e2
 · cases e
theorem ss_remove (i : Nat) (a : SE K te fe) : SS K (tDrop (tBM K "list" rRemove (tVar i) (tCons te tNil))) (dRemove i fe) := by
 intro H0 F0 F σ H δ r D R e h
 unfold dRemove at e
 split at e
 · rename_i ds q
   obtain ⟨d, e1, e2⟩ := bind_some e
   split at e2
   · rename_i n
     obtain ⟨ns, e3, e4⟩ := bind_some e2
     split at e4
     · rename_i hm
       cases e4
       obtain ⟨p, xs, q1, q2, q3, q4, q5⟩ := R.ow i ds q
       have ed := intsD_some e3
       subst ed
       have ex := Are.ints.mp q5
       subst ex
       refine ⟨.ref p, q1, .inl ⟨rfl, _, SqL.of q2⟩, a H0 F0 F σ H δ _ _ R e1 λ v H1 F1 g1 i1 => ?_⟩
       refine ⟨p, ns, n, rfl, by rw [show v = .int n from i1], g1.h _ _ q2, hm, ?_⟩
       exact h F1 σ _ ((R.grow g1).mut q q1 (g1.o _ _ q2 (λ _ z => nomatch z) q3) q4 (Are.ints.mpr rfl)) g1.f
     · cases e4
   · cases e2
 · cases e
end
structure IterD (K : Fg) (F : Hp) (J : It) (ds : List PyData) : Prop where
 go : ∀ (i : Nat) (F2 H2 : Hp), i < ds.length -> Same F F2 -> Same F2 H2 -> J.go i H2
 stop : ∀ F2 H2 : Hp, Same F F2 -> Same F2 H2 -> J.stop ds.length H2
 yld : ∀ (i : Nat) (d : PyData) (F2 H2 : Hp) (x : V) (H3 : Hp), ds[i]? = some d -> Same F F2 -> Same F2 H2 -> J.yld i H2 x H3 -> ∃ F3, Grow F2 H2 F3 H3 /\ Is K F3 x d
def SI (K : Fg) (wi : TI) (fi : DSt -> Option (List PyData)) : Prop := ∀ (H0 F0 F : Hp) (σ : St) (H : Hp) (δ : DSt) (ds : List PyData) (R : It -> Hp -> Prop), Rep K H0 F0 F σ H δ -> fi δ = some ds ->
 (∀ J H' F', Grow F H F' H' -> IterD K F' J ds -> R J H') -> wi σ H R
def SG (K : Fg) (g : TG) (fg : PyData -> DSt -> Option DSt) : Prop := ∀ (H0 F0 F : Hp) (σ : St) (H : Hp) (δ δ' : DSt) (v : V) (d : PyData) (Q : St -> Hp -> Prop), Rep K H0 F0 F σ H δ -> Is K F v d -> fg d δ = some δ' ->
 (∀ σ', Rep K H0 F0 F σ' H δ' -> Q σ' H) -> g v σ H Q
def SGs (K : Fg) (g : TGs) (fg : List PyData -> DSt -> Option DSt) : Prop := ∀ (H0 F0 F : Hp) (σ : St) (H : Hp) (δ δ' : DSt) (vs : List V) (ds : List PyData) (Q : St -> Hp -> Prop), Rep K H0 F0 F σ H δ -> Are K F vs ds -> fg ds δ = some δ' ->
 (∀ σ', Rep K H0 F0 F σ' H δ' -> Q σ' H) -> g vs σ H Q
noncomputable def gN (i : Nat) (d : PyData) (δ : DSt) : Option DSt := some (δ.set i (some (.fz d)))
noncomputable def gT (n : Nat) (fg : List PyData -> DSt -> Option DSt) (d : PyData) (δ : DSt) : Option DSt := match d with
 | .tuple ds => if ds.length = n then fg ds δ else none
 | _ => none
noncomputable def gZ (ds : List PyData) (δ : DSt) : Option DSt := match ds with
 | [] => some δ
 | _ :: _ => none
noncomputable def gC (f : PyData -> DSt -> Option DSt) (g : List PyData -> DSt -> Option DSt) (ds : List PyData) (δ : DSt) : Option DSt := match ds with
 | [] => none
 | d :: r => (f d δ).bind (g r)
section
variable {K : Fg}
theorem sg_name (i : Nat) : SG K (gName i) (gN i) := λ H0 F0 F σ H δ δ' v d Q R h e k => by cases e; exact k _ (R.set h)
theorem sgs_nil : SGs K gNil gZ := λ H0 F0 F σ H δ δ' vs ds Q R h e k => by
 cases ds with
 | nil => cases e; exact ⟨h, k σ R⟩
 | cons _ _ => cases e
theorem sgs_cons {t : TG} {u : TGs} {f : PyData -> DSt -> Option DSt} {g : List PyData -> DSt -> Option DSt} (a : SG K t f) (b : SGs K u g) : SGs K (gCons t u) (gC f g) := λ H0 F0 F σ H δ δ' vs ds Q R h e k => by
 cases ds with
 | nil => cases e
 | cons d r =>
  obtain ⟨v, vr, rfl, i1, i2⟩ := h
  obtain ⟨δ1, e1, e2⟩ := bind_some e
  exact ⟨v, vr, rfl, a H0 F0 F σ H δ δ1 v d _ R i1 e1 λ σ1 R1 => b H0 F0 F σ1 H δ1 δ' vr r Q R1 i2 e2 k⟩
theorem sg_tup {n : Nat} {t : TGs} {g : List PyData -> DSt -> Option DSt} (b : SGs K t g) : SG K (gTup K n t) (gT n g) := λ H0 F0 F σ H δ δ' v d Q R h e k => by
 unfold gT at e
 split at e
 · rename_i ds
   split at e
   · rename_i hl
     obtain ⟨a, xs, rfl, q, ar⟩ := h
     exact ⟨a, xs, rfl, SqT.of (R.g.s _ _ q), by rw [ar.length, hl], b H0 F0 F σ H δ δ' xs ds Q R ar e k⟩
   · cases e
 · cases e
noncomputable def iterD : PyData -> Option (List PyData)
 | .list ds => some ds
 | .tuple ds => some ds
 | .dict [(.none, .list ds)] => some ds
 | _ => none
noncomputable def smallI (i : Int) : Bool := decide (-1000000000 <= i) && decide (i <= 1000000000)
noncomputable def rangeD (lo : Int) (n : Nat) : List PyData := (List.range n).map λ k : Nat => PyData.int (lo + (k : Int))
noncomputable def dRng1 (fs : DSt -> Option (List PyData)) (δ : DSt) : Option (List PyData) := (fs δ).bind λ ds => match ds with
 | [.int j] => if smallI j = true then some (rangeD 0 j.toNat) else none
 | _ => none
theorem iter_rng (F : Hp) (lo : Int) (n : Nat) : IterD K F (Itr lo n) (rangeD lo n) where
 go := λ i F2 H2 h _ _ => by
  have : i < n := by simpa [rangeD] using h
  exact this
 stop := λ F2 H2 _ _ => by show n <= (rangeD lo n).length; simp [rangeD]
 yld := λ i d F2 H2 x H3 e _ s2 y => by
  obtain ⟨y1, y2⟩ := y
  subst y1 y2
  refine ⟨F2, Grow.refl s2, ?_⟩
  unfold rangeD at e
  rw [zK] at e
  obtain ⟨k, e1, e2⟩ := Q0.mp e
  have hi := lt_of_get e1
  rw [gEq hi] at e1
  have : k = i := by simpa using e1.symm
  subst this
  subst e2
  rfl
theorem si_rng1 {ta : TA} {fs : DSt -> Option (List PyData)} (a : SA K ta fs) : SI K (iRng1 ta) (dRng1 fs) := λ H0 F0 F σ H δ ds R RR e k => by
 obtain ⟨es, e1, e2⟩ := bind_some e
 split at e2
 · rename_i j
   split at e2
   · rename_i hs
     cases e2
     unfold smallI at hs
     rw [Q4, decide_eq_true_eq, decide_eq_true_eq] at hs
     refine a H0 F0 F σ H δ _ _ RR e1 λ vs H1 F1 g1 ar => ?_
     obtain ⟨x, r, rfl, hx, hr⟩ := ar
     rw [show r = [] from hr, show x = .int j from hx]
     exact ⟨j, rfl, by omega, by omega, k _ H1 F1 g1 (iter_rng F1 0 j.toNat)⟩
   · cases e2
 · cases e2
end
def iSeq (K : Fg) (tl : TE) : TI := λ σ H R => tl σ H λ x H1 => ∃ a, x = .ref a /\ (((∃ xs, SqL K H1 a xs) /\ R (Itl K a) H1) \/ ((∃ xs, SqT K H1 a xs) /\ R (Itt K a) H1))
section
variable {X : Cx} {tg : Expr}
theorem pi_seq {l : Expr} {tl : TE} (hl : PE X l tl) : PI X tg l (iSeq X.K tl) := by
 intro pins s σ H R I h
 refine thn (hl pins s σ H _ I h) λ v s1 ⟨x, H1, I1, r1, q1⟩ => ?_
 obtain ⟨a, e, q⟩ := q1
 subst e
 cases r1
 rcases q with ⟨⟨xs, hq⟩, q⟩ | ⟨⟨xs, hq⟩, q⟩
 · obtain ⟨its, rv, p, hz⟩ := I1.list hq
   refine wpAny_pyIter_list p.isList ?_
   refine ⟨s1.heap.objs.size, [s1.heap.objs.size], _, _, H1, rfl, I1.kept (t' := s1.toks) λ b o e => hPo _ e, turn_list a _, ⟨_, hPs _ rfl, rfl, rfl⟩, λ b hb => ?_, q⟩
   have e : b = s1.heap.objs.size := by simpa using hb
   subst e
   exact I1.fpOk (Q1 _) (I1.hok.fresh (Q1 _))
 · obtain ⟨its, rv, p, hz⟩ := I1.tuple hq
   refine wpAny_pyIter_tuple (show s1.heap.IsTuple a its.toArray from p) ?_
   refine ⟨s1.heap.objs.size, [s1.heap.objs.size], _, _, H1, rfl, I1.kept (t' := s1.toks) λ b o e => hPo _ e, turn_tuple a _, ⟨_, hPs _ rfl, rfl, rfl⟩, λ b hb => ?_, q⟩
   have e : b = s1.heap.objs.size := by simpa using hb
   subst e
   exact I1.fpOk (Q1 _) (I1.hok.fresh (Q1 _))
theorem kx_seq {l : Expr} {tl : TE} (K : Fg) (hl : PE X l tl) (h : X.K = K := by rfl) : PI X tg l (iSeq K tl) := h ▸ pi_seq hl
def iEn (K : Fg) (ta : TA) : TI := λ σ H R => ta σ H λ vs H1 => ∃ a, vs = [.ref a] /\ (((∃ xs, SqT K H1 a xs) /\ R (Ite λ H xs => SqT K H a xs) H1) \/ ((∃ xs, SqL K H1 a xs) /\ R (Ite λ H xs => SqL K H a xs) H1))
theorem pi_en {es : List Expr} {k1 : Nat} {tp : Pos} {a : Expr} {ta : TA} {p pos : Pos} (hg : Gl X "enumerate") (hm : X.mg "enumerate" = none) (ha : PA X [a] ta) (hs : starEach [a] X.env = [(false, eval a X.env)] := by rfl) : PI X (.Tuple es k1 tp) (.Call (.Name "enumerate" p) [a] [] pos) (iEn X.K ta) := by
 intro pins s σ H R I h
 refine Call_ (ld_blt I hg hm boot_enumerate (PyProof.Rows.callWith_type1 (thn (ha pos pins s σ H _ I h) λ us s1 ⟨vs, H1, I1, r1, q1⟩ => ?_) hs rfl))
 obtain ⟨b, e, q1⟩ := q1
 subst e
 cases r1 with
 | cons r rr =>
  cases rr
  cases r
  rcases q1 with ⟨⟨xs, hq⟩, q⟩ | ⟨⟨xs, hq⟩, q⟩
  · obtain ⟨its, rv, pt, hz⟩ := I1.tuple hq
    refine call_enT (show s1.heap.IsTuple b its.toArray from pt) λ h' he hi hz' hk => ?_
    refine wpAny_pyIter_enum he ⟨_, [_, _], _, _, H1, rfl, I1.kept (t' := s1.toks) hk, turn_enum (srcT b s1.heap.objs.size), ⟨⟨_, he⟩, hi⟩, λ c hc => ?_, q⟩
    have hc' : c = s1.heap.objs.size + 1 \/ c = s1.heap.objs.size := by simpa using hc
    have hle : s1.heap.objs.size <= c := by rcases hc' with z | z <;> rw [z]; exact Nat.le_succ _; exact Q1 _
    exact I1.fpOk hle (I1.hok.fresh hle)
  · obtain ⟨its, rv, pt, hz⟩ := I1.list hq
    refine call_enumerate_list pt.isList λ h' he hi hz' hk => ?_
    refine wpAny_pyIter_enum he ⟨_, [_, _], _, _, H1, rfl, I1.kept (t' := s1.toks) hk, turn_enum (srcL b s1.heap.objs.size), ⟨⟨_, he⟩, hi⟩, λ c hc => ?_, q⟩
    have hc' : c = s1.heap.objs.size + 1 \/ c = s1.heap.objs.size := by simpa using hc
    have hle : s1.heap.objs.size <= c := by rcases hc' with z | z <;> rw [z]; exact Nat.le_succ _; exact Q1 _
    exact I1.fpOk hle (I1.hok.fresh hle)
theorem kx_en {es : List Expr} {k1 : Nat} {tp : Pos} {a : Expr} {ta : TA} {p pos : Pos} (K : Fg) (hm : X.mg "enumerate" = none) (ha : PA X [a] ta) (h : X.K = K := by rfl) (hg : Gl X "enumerate" := by rfl) (hs : starEach [a] X.env = [(false, eval a X.env)] := by rfl) :
 PI X (.Tuple es k1 tp) (.Call (.Name "enumerate" p) [a] [] pos) (iEn K ta) := h ▸ pi_en hg hm ha hs
end
section
variable {K : Fg}
theorem iter_lst {F : Hp} {a : Addr} {xs : List V} {ds : List PyData} (h : F a = some (.lst xs)) (ar : Are K F xs ds) : IterD K F (Itl K a) ds where
 go := λ i F2 H2 hi s1 s2 => by
  obtain ⟨x, e, _⟩ := ar.get (gEq hi)
  exact ⟨xs, x, SqL.of (s2 _ _ (s1 _ _ h)), e⟩
 stop := λ F2 H2 s1 s2 => ⟨xs, SqL.of (s2 _ _ (s1 _ _ h)), Nat.le_of_eq ar.length⟩
 yld := λ i d F2 H2 x H3 e s1 s2 y => by
  obtain ⟨rfl, y⟩ := y
  have q := y xs (SqL.of (s2 _ _ (s1 _ _ h)))
  obtain ⟨x', e', i'⟩ := ar.get e
  rw [q] at e'
  cases e'
  exact ⟨F2, Grow.refl s2, i'.same s1⟩
theorem iter_tup {F : Hp} {a : Addr} {xs : List V} {ds : List PyData} (h : F a = some (.tup xs)) (ar : Are K F xs ds) : IterD K F (Itt K a) ds where
 go := λ i F2 H2 hi s1 s2 => by
  obtain ⟨x, e, _⟩ := ar.get (gEq hi)
  exact ⟨xs, x, SqT.of (s2 _ _ (s1 _ _ h)), e⟩
 stop := λ F2 H2 s1 s2 => ⟨xs, SqT.of (s2 _ _ (s1 _ _ h)), Nat.le_of_eq ar.length⟩
 yld := λ i d F2 H2 x H3 e s1 s2 y => by
  obtain ⟨rfl, y⟩ := y
  have q := y xs (SqT.of (s2 _ _ (s1 _ _ h)))
  obtain ⟨x', e', i'⟩ := ar.get e
  rw [q] at e'
  cases e'
  exact ⟨F2, Grow.refl s2, i'.same s1⟩
noncomputable def seqD : PyData -> Option (List PyData)
 | .list ds => some ds
 | .tuple ds => some ds
 | _ => none
noncomputable def dIter (f : DSt -> Option PyData) (δ : DSt) : Option (List PyData) := (f δ).bind seqD
theorem si_seq {tl : TE} {f : DSt -> Option PyData} (a : SE K tl f) : SI K (iSeq K tl) (dIter f) := λ H0 F0 F σ H δ ds R RR e k => by
 obtain ⟨d, e1, e2⟩ := bind_some e
 refine a H0 F0 F σ H δ d _ RR e1 λ v H1 F1 g1 is => ?_
 cases d with
 | list es =>
  cases e2
  obtain ⟨p, xs, rfl, q, ar⟩ := is
  exact ⟨p, rfl, .inl ⟨⟨xs, SqL.of (g1.s _ _ q)⟩, k _ H1 F1 g1 (iter_lst q ar)⟩⟩
 | tuple es =>
  cases e2
  obtain ⟨p, xs, rfl, q, ar⟩ := is
  exact ⟨p, rfl, .inr ⟨⟨xs, SqT.of (g1.s _ _ q)⟩, k _ H1 F1 g1 (iter_tup q ar)⟩⟩
 | _ => cases e2
noncomputable def enumD (ds : List PyData) : List PyData := ds.zipIdx.map λ p => PyData.tuple [.int (p.2 : Nat), p.1]
theorem enumD_get {ds : List PyData} {i : Nat} {d : PyData} (h : (enumD ds)[i]? = some d) : ∃ e, ds[i]? = some e /\ d = .tuple [.int (i : Nat), e] := by
 unfold enumD at h
 rw [zK, List.getElem?_zipIdx] at h
 obtain ⟨p, h1, h2⟩ := Q0.mp h
 obtain ⟨e, h3, h4⟩ := Q0.mp h1
 subst h4
 subst h2
 exact ⟨e, h3, by simp⟩
theorem enumD_len (ds : List PyData) : (enumD ds).length = ds.length := by simp [enumD]
theorem iter_en {F : Hp} {S : Hp -> List V -> Prop} {xs : List V} {ds : List PyData} (h : ∀ F2 H2, Same F F2 -> Same F2 H2 -> S H2 xs) (ar : Are K F xs ds) : IterD K F (Ite S) (enumD ds) where
 go := λ i F2 H2 hi s1 s2 => by
  rw [enumD_len] at hi
  obtain ⟨x, e, _⟩ := ar.get (gEq hi)
  exact ⟨xs, x, h F2 H2 s1 s2, e⟩
 stop := λ F2 H2 s1 s2 => ⟨xs, h F2 H2 s1 s2, by rw [enumD_len]; exact ar.length⟩
 yld := λ i d F2 H2 x H3 e s1 s2 y => by
  obtain ⟨p, v, hp, rfl, rfl, y⟩ := y
  have q := y xs (h F2 H2 s1 s2)
  obtain ⟨d', h1, rfl⟩ := enumD_get e
  obtain ⟨x', e', i'⟩ := ar.get h1
  rw [q] at e'
  cases e'
  exact ⟨_, Grow.new s2 hp, p, _, rfl, upd_same, .int (i : Nat), [v], rfl, rfl, v, [], rfl, (i'.same s1).same (same_new (s2.free hp) _), rfl⟩
noncomputable def dEn (fs : DSt -> Option (List PyData)) (δ : DSt) : Option (List PyData) := (fs δ).bind λ ds => match ds with
 | [d] => (seqD d).map enumD
 | _ => none
theorem si_en {ta : TA} {fs : DSt -> Option (List PyData)} (a : SA K ta fs) : SI K (iEn K ta) (dEn fs) := λ H0 F0 F σ H δ ds R RR e k => by
 obtain ⟨es, e1, e2⟩ := bind_some e
 split at e2
 · rename_i d
   obtain ⟨us, e3, e4⟩ := Q0.mp e2
   subst e4
   refine a H0 F0 F σ H δ _ _ RR e1 λ vs H1 F1 g1 ar => ?_
   obtain ⟨x, r, rfl, hx, hr⟩ := ar
   rw [show r = [] from hr]
   cases d with
   | list es =>
    cases e3
    obtain ⟨p, xs, rfl, q, ar⟩ := hx
    exact ⟨p, rfl, .inr ⟨⟨xs, SqL.of (g1.s _ _ q)⟩, k _ H1 F1 g1 (iter_en (λ F2 H2 s1 s2 => SqL.of (s2 _ _ (s1 _ _ q))) ar)⟩⟩
   | tuple es =>
    cases e3
    obtain ⟨p, xs, rfl, q, ar⟩ := hx
    exact ⟨p, rfl, .inl ⟨⟨xs, SqT.of (g1.s _ _ q)⟩, k _ H1 F1 g1 (iter_en (λ F2 H2 s1 s2 => SqT.of (s2 _ _ (s1 _ _ q))) ar)⟩⟩
   | _ => cases e3
 · cases e2
noncomputable def zipD (ds es : List PyData) : List PyData := (ds.zip es).map λ p => PyData.tuple [p.1, p.2]
theorem zipD_get {ds es : List PyData} {i : Nat} {d : PyData} (h : (zipD ds es)[i]? = some d) : ∃ x y, ds[i]? = some x /\ es[i]? = some y /\ d = .tuple [x, y] := by
 unfold zipD at h
 rw [zK] at h
 obtain ⟨p, h1, h2⟩ := Q0.mp h
 obtain ⟨h3, h4⟩ := List.getElem?_zip_eq_some.mp h1
 exact ⟨p.1, p.2, h3, h4, h2.symm⟩
theorem zipD_len {ds es : List PyData} (h : ds.length = es.length) : (zipD ds es).length = ds.length := by simp [zipD, h]
theorem iter_zip {F : Hp} {S1 S2 : Hp -> List V -> Prop} {xs ys : List V} {ds es : List PyData} (h1 : ∀ F2 H2, Same F F2 -> Same F2 H2 -> S1 H2 xs) (h2 : ∀ F2 H2, Same F F2 -> Same F2 H2 -> S2 H2 ys) (a1 : Are K F xs ds) (a2 : Are K F ys es) (hl : ds.length = es.length) : IterD K F (Itz S1 S2) (zipD ds es) where
 go := λ i F2 H2 hi s1 s2 => by
  rw [zipD_len hl] at hi
  obtain ⟨x, e, _⟩ := a1.get (gEq hi)
  obtain ⟨y, e', _⟩ := a2.get (gEq (by omega : i < es.length))
  exact ⟨xs, ys, x, y, h1 F2 H2 s1 s2, h2 F2 H2 s1 s2, e, e'⟩
 stop := λ F2 H2 s1 s2 => ⟨xs, h1 F2 H2 s1 s2, by rw [zipD_len hl]; exact a1.length⟩
 yld := λ i d F2 H2 x H3 e s1 s2 y => by
  obtain ⟨p, v, u, hp, rfl, rfl, y1, y2⟩ := y
  have q1 := y1 xs (h1 F2 H2 s1 s2)
  have q2 := y2 ys (h2 F2 H2 s1 s2)
  obtain ⟨d1, d2, e1, e2, rfl⟩ := zipD_get e
  obtain ⟨x1, f1, i1⟩ := a1.get e1
  obtain ⟨x2, f2, i2⟩ := a2.get e2
  rw [q1] at f1
  rw [q2] at f2
  cases f1
  cases f2
  have sn : Same F2 (upd F2 p (.tup [v, u])) := same_new (s2.free hp) _
  exact ⟨_, Grow.new s2 hp, p, _, rfl, upd_same, v, [u], rfl, (i1.same s1).same sn, u, [], rfl, (i2.same s1).same sn, rfl⟩
noncomputable def dZip (fs : DSt -> Option (List PyData)) (δ : DSt) : Option (List PyData) := (fs δ).bind λ ds => match ds with
 | [.tuple xs, .tuple ys] => if xs.length = ys.length then some (zipD xs ys) else none
 | _ => none
theorem si_zip {ta : TA} {fs : DSt -> Option (List PyData)} (a : SA K ta fs) : SI K (iZipT K ta) (dZip fs) := λ H0 F0 F σ H δ ds R RR e k => by
 obtain ⟨es, e1, e2⟩ := bind_some e
 split at e2
 · rename_i d1 d2
   split at e2
   · rename_i hl
     cases e2
     refine a H0 F0 F σ H δ _ _ RR e1 λ vs H1 F1 g1 ar => ?_
     obtain ⟨x, r, rfl, hx, y, r', rfl, hy, hr⟩ := ar
     rw [show r' = [] from hr]
     obtain ⟨p, xs, rfl, q, ar⟩ := hx
     obtain ⟨p', ys, rfl, q', ar'⟩ := hy
     exact ⟨p, p', rfl, ⟨xs, SqT.of (g1.s _ _ q)⟩, ⟨ys, SqT.of (g1.s _ _ q')⟩, k _ H1 F1 g1 (iter_zip (λ F2 H2 s1 s2 => SqT.of (s2 _ _ (s1 _ _ q))) (λ F2 H2 s1 s2 => SqT.of (s2 _ _ (s1 _ _ q'))) ar ar' hl)⟩
   · cases e2
 · cases e2
end
noncomputable def loopD (fg : PyData -> DSt -> Option DSt) (fb : DSt -> Option DFlow) : List PyData -> DSt -> Option DFlow
 | [], δ => some (.nx δ)
 | d :: r, δ => (fg d δ).bind λ δ1 => (fb δ1).bind λ fl => match fl with
  | .nx δ2 => loopD fg fb r δ2
  | .ct δ2 => loopD fg fb r δ2
  | .bk δ2 => some (.nx δ2)
  | .rt v => some (.rt v)
  | .ro v => some (.ro v)
noncomputable def dFor (fi : DSt -> Option (List PyData)) (fg : PyData -> DSt -> Option DSt) (fb : DSt -> Option DFlow) (δ : DSt) : Option DFlow := (fi δ).bind λ ds => loopD fg fb ds δ
section
variable {K : Fg}
theorem ss_for {wi : TI} {g : TG} {tb : TS} {fi : DSt -> Option (List PyData)} {fg : PyData -> DSt -> Option DSt} {fb : DSt -> Option DFlow} (hi : SI K wi fi) (hg : SG K g fg) (hb : SS K tb fb) : SS K (tFor wi g tb) (dFor fi fg fb) := by
 intro H0 F0 F σ H δ r D R e h
 obtain ⟨ds, e1, e2⟩ := bind_some e
 refine hi H0 F0 F σ H δ ds _ R e1 λ J H1 F1 g1 it => ?_
 refine ⟨λ i m σ H => m = ds.length - i /\ i <= ds.length /\ ∃ F' δ', Rep K H0 F0 F' σ H δ' /\ Same F1 F' /\ loopD fg fb (ds.drop i) δ' = some r, ⟨ds.length, by simp, zU _, F1, δ, R.grow g1, Same.refl _, e2⟩, ?_⟩
 rintro i m σ' H' ⟨rfl, hle, F', δ', R', s', e'⟩
 by_cases hlt : i < ds.length
 · refine .inr ⟨it.go i F' H' hlt s' R'.g.s, λ σ H => i + 1 <= ds.length /\ ∃ F' δ', Rep K H0 F0 F' σ H δ' /\ Same F1 F' /\ loopD fg fb (ds.drop (i + 1)) δ' = some r, λ σ2 H2 q => ⟨ds.length - (i + 1), by omega, rfl, q⟩, λ x H2 y => ?_⟩
   have hd : ds[i]? = some ds[i] := gEq hlt
   obtain ⟨F2, g2, is⟩ := it.yld i _ F' H' x H2 hd s' R'.g.s y
   rw [List.drop_eq_getElem_cons hlt] at e'
   obtain ⟨δ1, q1, q2⟩ := bind_some e'
   obtain ⟨fl, q3, q4⟩ := bind_some q2
   refine hg H0 F0 F2 σ' H2 δ' δ1 x ds[i] _ (R'.grow g2) is q1 λ σ3 R3 => ?_
   refine hb H0 F0 F2 σ3 H2 δ1 fl _ R3 q3 ?_
   have up : Same F1 F2 := s'.trans g2.f
   cases fl with
   | nx δ2 => exact λ F3 σ4 H4 R4 s4 => ⟨hlt, F3, δ2, R4, up.trans s4, q4⟩
   | ct δ2 => exact λ F3 σ4 H4 R4 s4 => ⟨hlt, F3, δ2, R4, up.trans s4, q4⟩
   | bk δ2 =>
    cases q4
    exact λ F3 σ4 H4 R4 s4 => h F3 σ4 H4 R4 (g1.f.trans (up.trans s4))
   | rt d => cases q4; exact h
   | ro d => cases q4; exact h
 · have e3 : i = ds.length := by omega
   subst e3
   rw [List.drop_length] at e'
   cases e'
   exact .inl ⟨it.stop F' H' s' R'.g.s, h F' σ' H' R' (g1.f.trans s')⟩
end
noncomputable def st0D (n : Nat) (fr : List (Str × Nat)) (δ : DSt) : DSt := List.replicate n none ++ fr.map λ p => match δ[p.2]? with
 | some (some (.fz d)) => some (.fz d)
 | _ => none
noncomputable def mapM' (f : PyData -> Option (Option PyData)) : List PyData -> Option (List PyData)
 | [] => some []
 | d :: r => (f d).bind λ o => match o with
  | some y => (mapM' f r).map (y :: ·)
  | none => mapM' f r
noncomputable def dYes (_ : DSt) : Option Bool := some true
noncomputable def dCompO (n : Nat) (fr : List (Str × Nat)) (fi : DSt -> Option (List PyData)) (fg : PyData -> DSt -> Option DSt) (fc : DSt -> Option Bool) (fe : DSt -> Option PyData) (δ : DSt) : Option (List PyData) :=
 (fi δ).bind λ ds => if ds.length <= LIM then mapM' (λ d => (fg d (st0D n fr δ)).bind λ δ1 => (fc δ1).bind λ b => if b = true then (fe δ1).map some else some none) ds else none
def Low (n : Nat) (fg : PyData -> DSt -> Option DSt) : Prop := ∀ d δ δ1, fg d δ = some δ1 -> δ1.length = δ.length /\ ∀ i, n <= i -> δ1[i]? = δ[i]?
def Lows (n : Nat) (fg : List PyData -> DSt -> Option DSt) : Prop := ∀ d δ δ1, fg d δ = some δ1 -> δ1.length = δ.length /\ ∀ i, n <= i -> δ1[i]? = δ[i]?
theorem low_name {n i : Nat} (h : i < n := by decide) : Low n (gN i) := λ d δ δ1 e => by
 cases e
 exact ⟨Qe .., λ j hj => set_get_ne (by omega)⟩
theorem lows_nil {n : Nat} : Lows n gZ := λ d δ δ1 e => by
 cases d with
 | nil => cases e; exact ⟨rfl, λ _ _ => rfl⟩
 | cons _ _ => cases e
theorem lows_cons {n : Nat} {f : PyData -> DSt -> Option DSt} {g : List PyData -> DSt -> Option DSt} (a : Low n f) (b : Lows n g) : Lows n (gC f g) := λ d δ δ1 e => by
 cases d with
 | nil => cases e
 | cons x r =>
  obtain ⟨δ2, e1, e2⟩ := bind_some e
  obtain ⟨l1, h1⟩ := a x δ δ2 e1
  obtain ⟨l2, h2⟩ := b r δ2 δ1 e2
  exact ⟨l2.trans l1, λ i hi => (h2 i hi).trans (h1 i hi)⟩
theorem low_tup {n m : Nat} {g : List PyData -> DSt -> Option DSt} (b : Lows n g) : Low n (gT m g) := λ d δ δ1 e => by
 unfold gT at e
 split at e
 · split at e
   · exact b _ δ δ1 e
   · cases e
 · cases e
section
variable {K : Fg}
theorem rep0 {H0 F0 F : Hp} {σ : St} {H : Hp} {δ : DSt} (R : Rep K H0 F0 F σ H δ) (n : Nat) (fr : List (Str × Nat)) (H' : Hp) (F1 : Hp) (g : Grow F1 H' F H) : Rep K H' F1 F (st0 n fr σ) H (st0D n fr δ) where
 g := g
 tb := R.tb
 len := by simp [st0, st0D]
 fz := λ i d e => by
  unfold st0D at e
  unfold st0
  by_cases hi : i < n
  · rw [Q6 (by simpa using hi), Qa, if_pos hi] at e
    cases e
  · rw [Q7 (by simpa using hi), Q1a, zK] at e ⊢
    cases q : fr[i - n]? with
    | none => rw [q] at e; cases e
    | some p =>
     rw [q] at e
     have e' : (match δ[p.2]? with | some (some (.fz d)) => some (Sl.fz d) | _ => none) = some (.fz d) := zV e
     split at e'
     · rename_i d' q'
       cases e'
       obtain ⟨v, h1, h2⟩ := R.fz p.2 d q'
       refine ⟨v, ?_, h2⟩
       show some ((σ[p.2]?).join) = some (some v)
       rw [h1]
       rfl
     · cases e'
 ow := λ i ds e => by
  exfalso
  unfold st0D at e
  by_cases hi : i < n
  · rw [Q6 (by simpa using hi), Qa, if_pos hi] at e
    cases e
  · rw [Q7 (by simpa using hi), Q1a, zK] at e
    cases q : fr[i - n]? with
    | none => rw [q] at e; cases e
    | some p =>
     rw [q] at e
     have e' : (match δ[p.2]? with | some (some (.fz d)) => some (Sl.fz d) | _ => none) = some (.ow ds) := zV e
     split at e' <;> cases e'
 ap := λ i j ds es a e1 e2 e3 e4 => by
  exfalso
  unfold st0D at e1
  by_cases hi : i < n
  · rw [Q6 (by simpa using hi), Qa, if_pos hi] at e1
    cases e1
  · rw [Q7 (by simpa using hi), Q1a, zK] at e1
    cases q : fr[i - n]? with
    | none => rw [q] at e1; cases e1
    | some p =>
     rw [q] at e1
     have e' : (match δ[p.2]? with | some (some (.fz d)) => some (Sl.fz d) | _ => none) = some (.ow ds) := zV e1
     split at e' <;> cases e'
 od := λ i ds e => by
  exfalso
  unfold st0D at e
  by_cases hi : i < n
  · rw [Q6 (by simpa using hi), Qa, if_pos hi] at e
    cases e
  · rw [Q7 (by simpa using hi), Q1a, zK] at e
    cases q : fr[i - n]? with
    | none => rw [q] at e; cases e
    | some p =>
     rw [q] at e
     have e' : (match δ[p.2]? with | some (some (.fz d)) => some (Sl.fz d) | _ => none) = some (.od ds) := zV e
     split at e' <;> cases e'
 ad := λ i j ds es a e1 e2 e3 e4 => by
  exfalso
  unfold st0D at e1
  by_cases hi : i < n
  · rw [Q6 (by simpa using hi), Qa, if_pos hi] at e1
    cases e1
  · rw [Q7 (by simpa using hi), Q1a, zK] at e1
    cases q : fr[i - n]? with
    | none => rw [q] at e1; cases e1
    | some p =>
     rw [q] at e1
     have e' : (match δ[p.2]? with | some (some (.fz d)) => some (Sl.fz d) | _ => none) = some (.od ds) := zV e1
     split at e' <;> cases e'
theorem st_yes : ST K tYes dYes := λ H0 F0 F σ H δ b Q R e h => by cases e; exact h H F (Grow.refl R.g.s)
theorem so_comp {n : Nat} {fr : List (Str × Nat)} {wi : TI} {g : TG} {tc : TT} {te : TE} {fi : DSt -> Option (List PyData)} {fg : PyData -> DSt -> Option DSt} {fc : DSt -> Option Bool} {fe : DSt -> Option PyData}
 (hi : SI K wi fi) (hg : SG K g fg) (hl : Low n fg) (hc : ST K tc fc) (he : SE K te fe) : SO K (tComp n fr wi g tc te) (dCompO n fr fi fg fc fe) := by
 intro H0 F0 F σ H δ rs Q R e h
 obtain ⟨ds, e1, e2⟩ := bind_some e
 split at e2
 · rename_i lim
   refine hi H0 F0 F σ H δ ds _ R e1 λ J H1 F1 g1 it acc hacc => ?_
   have hF1 : F1 acc = none := g1.s.free hacc
   have h0 : H acc = none := g1.h.free hacc
   have R1 := R.grow g1
   let f : PyData -> Option (Option PyData) := λ d => (fg d (st0D n fr δ)).bind λ δ1 => (fc δ1).bind λ b => if b = true then (fe δ1).map some else some none
   have e2' : mapM' f ds = some rs := e2
   refine ⟨λ i m σ' H' => m = ds.length - i /\ i <= ds.length /\ ∃ F' xs us vs, Rep K H1 F1 F' σ' H' (st0D n fr δ) /\ F' acc = none /\ H' acc = some (.lst xs) /\ Are K F' xs us /\ us.length <= i /\ mapM' f (ds.drop i) = some vs /\ rs = us ++ vs, ⟨ds.length, by simp, zU _, F1, [], [], rs, ?_, hF1, upd_same, rfl, Q1 _, e2', rfl⟩, ?_⟩
   · exact (rep0 R1 n fr H1 F1 (Grow.refl g1.s)).grow (Grow.fresh g1.s hacc)
   rintro i m σ' H' ⟨rfl, hle, F', xs, us, vs, R', hF', ha, ar, hu, em, er⟩
   have s' : Same F1 F' := R'.g.f
   by_cases hlt : i < ds.length
   · refine .inr ⟨it.go i F' H' hlt s' R'.g.s, λ σ' H' => i + 1 <= ds.length /\ ∃ F' xs us vs, Rep K H1 F1 F' σ' H' (st0D n fr δ) /\ F' acc = none /\ H' acc = some (.lst xs) /\ Are K F' xs us /\ us.length <= i + 1 /\ mapM' f (ds.drop (i + 1)) = some vs /\ rs = us ++ vs, λ σ2 H2 q => ⟨ds.length - (i + 1), by omega, rfl, q⟩, λ x H2 y => ?_⟩
     have hd : ds[i]? = some ds[i] := gEq hlt
     obtain ⟨F2, g2, is⟩ := it.yld i _ F' H' x H2 hd s' R'.g.s y
     rw [List.drop_eq_getElem_cons hlt] at em
     obtain ⟨o, q1, q2⟩ := bind_some em
     obtain ⟨δ1, q3, q4⟩ := bind_some q1
     obtain ⟨b, q5, q6⟩ := bind_some q4
     obtain ⟨ll, lh⟩ := hl _ _ _ q3
     have weak : ∀ {Fx : Hp} {σx : St} {Hx : Hp}, Rep K H1 F1 Fx σx Hx δ1 -> Rep K H1 F1 Fx σx Hx (st0D n fr δ) := λ {Fx σx Hx} RR => RR.weak ll.symm λ j s es => by
      by_cases hj : j < n
      · unfold st0D at es
        rw [Q6 (by simpa using hj), Qa, if_pos hj] at es
        cases es
      · rw [lh j (by omega)]; exact es
     have ha2 : H2 acc = some (.lst xs) := g2.h _ _ ha
     have hF2 : F2 acc = none := g2.o _ _ ha (λ _ z => nomatch z) hF'
     refine hg H1 F1 F2 σ' H2 _ δ1 x ds[i] _ (R'.grow g2) is q3 λ σ3 R3 => ?_
     refine hc H1 F1 F2 σ3 H2 δ1 b _ R3 q5 λ H4 F4 g4 => ?_
     have ha4 : H4 acc = some (.lst xs) := g4.h _ _ ha2
     have hF4 : F4 acc = none := g4.o _ _ ha2 (λ _ z => nomatch z) hF2
     cases b with
     | false =>
      have q6' : (some none : Option (Option PyData)) = some o := q6
      cases q6'
      refine iteF ⟨hlt, F4, xs, us, vs, weak (R3.grow g4), hF4, ha4, (ar.same g2.f).same g4.f, by omega, q2, er⟩
     | true =>
      have q6' : (fe δ1).map some = some o := q6
      obtain ⟨yd, q7, q8⟩ := Q0.mp q6'
      subst q8
      obtain ⟨ws, q9, q10⟩ := Q0.mp q2
      subst q10
      refine iteT (he H1 F1 F4 σ3 H4 δ1 yd _ (R3.grow g4) q7 λ v H5 F5 g5 i5 => ?_)
      have ha5 : H5 acc = some (.lst xs) := g5.h _ _ ha4
      have hF5 : F5 acc = none := g5.o _ _ ha4 (λ _ z => nomatch z) hF4
      have ar5 : Are K F5 xs us := ((ar.same g2.f).same g4.f).same g5.f
      refine ⟨xs, ha5, ?_, hlt, F5, xs ++ [v], us ++ [yd], ws, ?_, hF5, upd_same, ar5.append (Are.one i5), ?_, q9, by rw [er]; simp⟩
      · rw [ar5.length]
        exact lim_lt (by omega)
      · have R5 := weak ((R3.grow g4).grow g5)
        exact ⟨⟨R5.g.f, λ b u q => by rw [upd_ne (ne_of_none q hF5)]; exact R5.g.s b u q, λ b u q => by rw [upd_ne (ne_of_none q hacc)]; exact R5.g.h b u q, R5.g.o⟩, R5.len, R5.fz, λ j es q => by
         exfalso
         unfold st0D at q
         by_cases hj : j < n
         · rw [Q6 (by simpa using hj), Qa, if_pos hj] at q
           cases q
         · rw [Q7 (by simpa using hj), Q1a, zK] at q
           cases z : fr[j - n]? with
           | none => rw [z] at q; cases q
           | some p =>
            rw [z] at q
            have e' : (match δ[p.2]? with | some (some (.fz d)) => some (Sl.fz d) | _ => none) = some (.ow es) := zV q
            (split at e' <;> cases e'), R5.ap, λ j es q => by
         exfalso
         unfold st0D at q
         by_cases hj : j < n
         · rw [Q6 (by simpa using hj), Qa, if_pos hj] at q
           cases q
         · rw [Q7 (by simpa using hj), Q1a, zK] at q
           cases z : fr[j - n]? with
           | none => rw [z] at q; cases q
           | some p =>
            rw [z] at q
            have e' : (match δ[p.2]? with | some (some (.fz d)) => some (Sl.fz d) | _ => none) = some (.od es) := zV q
            (split at e' <;> cases e'), R5.ad, R5.tb⟩
      · rw [zQ, Q29]
        omega
   · have e3 : i = ds.length := by omega
     subst e3
     rw [List.drop_length] at em
     cases em
     rw [Q5] at er
     subst er
     refine .inl ⟨it.stop F' H' s' R'.g.s, ?_⟩
     refine h acc xs H' F' ?_ h0 hF' ha ar
     exact g1.trans R'.g
 · cases e2
end
noncomputable def resOf : DFlow -> Option PyData
 | .nx _ => some .none
 | .rt d => some d
 | .ro ds => some (.list ds)
 | _ => none
noncomputable def stD (n : Nat) (ds : List PyData) : DSt := ds.map (λ d => some (.fz d)) ++ List.replicate (n - ds.length) none
noncomputable def runD (n : Nat) (fb : DSt -> Option DFlow) (ds : List PyData) : Option PyData := (fb (stD n ds)).bind resOf
noncomputable def runO (n : Nat) (fb : DSt -> Option DFlow) (ds : List PyData) : Option (List PyData) := (fb (stD n ds)).bind λ r => match r with
 | .ro ds => some ds
 | _ => none
def spD (K : Fg) (n : Nat) (f : List PyData -> Option PyData) : Sp := λ vs H Q _ => ∃ F ds d, SameT K F H /\ vs.length = n /\ Are K F vs ds /\ f ds = some d /\ ∀ v H' F', Grow F H F' H' -> Is K F' v d -> Q v H'
def spO (K : Fg) (n : Nat) (f : List PyData -> Option (List PyData)) : Sp := λ vs H Q _ => ∃ F ds es, SameT K F H /\ vs.length = n /\ Are K F vs ds /\ f ds = some es /\ ∀ a xs H' F', Grow F H F' H' -> H a = none -> F' a = none -> H' a = some (.lst xs) -> Are K F' xs es -> Q (.ref a) H'
theorem repStart {K : Fg} {F H : Hp} {N : List Str} {vs : List V} {ds : List PyData} (s : SameT K F H) (ar : Are K F vs ds) : Rep K H F F (L2.start N vs) H (stD N.length ds) where
 g := Grow.refl s.1
 tb := s.2
 len := by
  have := ar.length
  simp [L2.start, stD, this]
 fz := λ i d e => by
  have hl := ar.length
  unfold stD at e
  unfold L2.start
  by_cases hi : i < ds.length
  · rw [Q6 (by simpa using hi), zK] at e
    obtain ⟨d', e1, e2⟩ := Q0.mp e
    cases e2
    obtain ⟨x, h1, h2⟩ := ar.get e1
    refine ⟨x, ?_, h2⟩
    rw [Q6 (by rw [zJ]; omega), zK, h1]
    rfl
  · rw [Q7 (by simpa using hi), Qa] at e
    split at e <;> cases e
 ow := λ i es e => by
  exfalso
  unfold stD at e
  by_cases hi : i < ds.length
  · rw [Q6 (by simpa using hi), zK] at e
    obtain ⟨d', e1, e2⟩ := Q0.mp e
    cases e2
  · rw [Q7 (by simpa using hi), Qa] at e
    split at e <;> cases e
 ap := λ i j es us a e => by
  exfalso
  unfold stD at e
  by_cases hi : i < ds.length
  · rw [Q6 (by simpa using hi), zK] at e
    obtain ⟨d', e1, e2⟩ := Q0.mp e
    cases e2
  · rw [Q7 (by simpa using hi), Qa] at e
    split at e <;> cases e
 od := λ i es e => by
  exfalso
  unfold stD at e
  by_cases hi : i < ds.length
  · rw [Q6 (by simpa using hi), zK] at e
    obtain ⟨d', e1, e2⟩ := Q0.mp e
    cases e2
  · rw [Q7 (by simpa using hi), Qa] at e
    split at e <;> cases e
 ad := λ i j es us a e => by
  exfalso
  unfold stD at e
  by_cases hi : i < ds.length
  · rw [Q6 (by simpa using hi), zK] at e
    obtain ⟨d', e1, e2⟩ := Q0.mp e
    cases e2
  · rw [Q7 (by simpa using hi), Qa] at e
    split at e <;> cases e
section
variable {P : Program} {w : World} {K : Fg} {mg : Str -> Option Value} {base : Heap}
theorem fun_okD {x qual : Str} {st : Stmt} {f : Addr} {fd : FuncData} {N ps : List Str} {k n m : Nat} {fb : DSt -> Option DFlow} (F : Fun K x qual st f fd) (S : FnScope N ps (defScope st)) (hN : N.length = n) (hm : ps.length = m)
 (hbody : ∀ (cdv : Value) (A : Around) (outer : List Env) (s : Shared) (H : Hp) (E : XK), Room k (A.deeper (envOfC qual (defScope st) s.heap.objs.size f cdv)) ->
  ∃ t, PSs (cxOf CX0 P w K mg base N qual (defScope st) f cdv A outer s H E).nox (defBody st) t /\ SS K t fb) : FnOk P w K mg base CX0 (k + 1) f fd ps (spD K m (runD n fb)) := by
 subst hN hm
 refine F.ok S (λ vs H Q E h => ?_) (λ cdv A outer s H vs Q E hr h => ?_)
 · obtain ⟨F', ds, d, _, hl, _⟩ := h
   exact hl
 · obtain ⟨F', ds, d, sF, hl, ar, e, q⟩ := h
   obtain ⟨t, ht, hs⟩ := hbody cdv A outer s H E hr
   obtain ⟨r, e1, e2⟩ := bind_some e
   refine ⟨t, ht, hs H F' F' (L2.start N vs) H (stD N.length ds) r _ (repStart sF ar) e1 ?_⟩
   cases r with
   | nx δ => cases e2; exact λ F2 σ2 H2 R2 _ => q .non H2 F2 R2.g rfl
   | rt d' => cases e2; exact λ F2 v H2 g2 i2 => q v H2 F2 g2 i2
   | ro es =>
    cases e2
    exact λ F2 a xs H2 g2 h0 hf ha ar2 => q (.ref a) H2 _ (g2.frz h0 hf ha) ⟨a, xs, rfl, upd_same, ar2.same (same_new hf _)⟩
   | bk _ => cases e2
   | ct _ => cases e2
theorem fun_okO {x qual : Str} {st : Stmt} {f : Addr} {fd : FuncData} {N ps : List Str} {k n m : Nat} {fb : DSt -> Option DFlow} (F : Fun K x qual st f fd) (S : FnScope N ps (defScope st)) (hN : N.length = n) (hm : ps.length = m)
 (hbody : ∀ (cdv : Value) (A : Around) (outer : List Env) (s : Shared) (H : Hp) (E : XK), Room k (A.deeper (envOfC qual (defScope st) s.heap.objs.size f cdv)) ->
  ∃ t, PSs (cxOf CX0 P w K mg base N qual (defScope st) f cdv A outer s H E).nox (defBody st) t /\ SS K t fb) : FnOk P w K mg base CX0 (k + 1) f fd ps (spO K m (runO n fb)) := by
 subst hN hm
 refine F.ok S (λ vs H Q E h => ?_) (λ cdv A outer s H vs Q E hr h => ?_)
 · obtain ⟨F', ds, d, _, hl, _⟩ := h
   exact hl
 · obtain ⟨F', ds, d, sF, hl, ar, e, q⟩ := h
   obtain ⟨t, ht, hs⟩ := hbody cdv A outer s H E hr
   obtain ⟨r, e1, e2⟩ := bind_some e
   refine ⟨t, ht, hs H F' F' (L2.start N vs) H (stD N.length ds) r _ (repStart sF ar) e1 ?_⟩
   cases r with
   | nx δ => cases e2
   | rt d' => cases e2
   | ro es =>
    cases e2
    exact λ F2 a xs H2 g2 h0 hf ha ar2 => q a xs H2 F2 g2 h0 hf ha ar2
   | bk _ => cases e2
   | ct _ => cases e2
end
section
variable {K : Fg}
noncomputable def dOwnCall (n : Nat) (g : List PyData -> Option PyData) (fs : DSt -> Option (List PyData)) (δ : DSt) : Option PyData := (fs δ).bind λ ds => if ds.length = n then g ds else none
noncomputable def dOwnCallO (n : Nat) (g : List PyData -> Option (List PyData)) (fs : DSt -> Option (List PyData)) (δ : DSt) : Option (List PyData) := (fs δ).bind λ ds => if ds.length = n then g ds else none
theorem se_call {n : Nat} {g : List PyData -> Option PyData} {t : TA} {fs : DSt -> Option (List PyData)} (a : SA K t fs) : SE K (tCall (spD K n g) [] E0 t) (dOwnCall n g fs) := by
 intro H0 F0 F σ H δ d Q R e h
 obtain ⟨ds, e1, e2⟩ := bind_some e
 split at e2
 · rename_i hl
   refine a H0 F0 F σ H δ ds _ R e1 λ vs H1 F1 g1 ar => ⟨F1, ds, d, ⟨g1.s, R.tb.same g1.f⟩, ?_, ?_, e2, λ v H2 F2 g2 i2 => h v H2 F2 (g1.trans g2) i2⟩
   · rw [Q5, ar.length, hl]
   · rw [Q5]; exact ar
 · cases e2
theorem so_call {n : Nat} {g : List PyData -> Option (List PyData)} {t : TA} {fs : DSt -> Option (List PyData)} (a : SA K t fs) : SO K (tCall (spO K n g) [] E0 t) (dOwnCallO n g fs) := by
 intro H0 F0 F σ H δ d Q R e h
 obtain ⟨ds, e1, e2⟩ := bind_some e
 split at e2
 · rename_i hl
   refine a H0 F0 F σ H δ ds _ R e1 λ vs H1 F1 g1 ar => ⟨F1, ds, d, ⟨g1.s, R.tb.same g1.f⟩, ?_, ?_, e2, λ p xs H2 F2 g2 hn hf hp i2 => h p xs H2 F2 (g1.trans g2) (g1.h.free hn) hf hp i2⟩
   · rw [Q5, ar.length, hl]
   · rw [Q5]; exact ar
 · cases e2
end
section
variable {K : Fg}
noncomputable def iiD (g : Int -> Int -> Option PyData) : PyData -> PyData -> Option PyData
 | .int a, .int b => g a b
 | _, _ => none
theorem iiD_some {g : Int -> Int -> Option PyData} {x y d : PyData} (h : iiD g x y = some d) : ∃ i j, x = .int i /\ y = .int j /\ g i j = some d := by
 unfold iiD at h
 split at h
 · exact ⟨_, _, rfl, rfl, h⟩
 · cases h
theorem od_i0 {g : Int -> Int -> V} {g' : Int -> Int -> PyData} (hg : ∀ i j H, Is K H (g i j) (g' i j)) : OpD K (rI0 g) (iiD λ i j => some (g' i j)) := λ F H x y dx dy d Q s hx hy e k => by
 obtain ⟨i, j, rfl, rfl, e⟩ := iiD_some e
 cases e
 exact ⟨i, j, hx, hy, k _ H F (Grow.refl s) (hg i j F)⟩
theorem od_i {C : Int -> Int -> Prop} {c : Int -> Int -> Bool} {g : Int -> Int -> V} {g' : Int -> Int -> PyData} (hc : ∀ i j, c i j = true -> C i j) (hg : ∀ i j H, Is K H (g i j) (g' i j)) : OpD K (rI C g) (iiD λ i j => if c i j = true then some (g' i j) else none) := λ F H x y dx dy d Q s hx hy e k => by
 obtain ⟨i, j, rfl, rfl, e1⟩ := iiD_some e
 split at e1
 · rename_i h
   cases e1
   exact ⟨i, j, hx, hy, hc i j h, k _ H F (Grow.refl s) (hg i j F)⟩
 · cases e1
noncomputable def subD := iiD λ i j => some (.int (i - j))
noncomputable def ltD := iiD λ i j => some (.bool (decide (i < j)))
noncomputable def leD := iiD λ i j => some (.bool (decide (i <= j)))
noncomputable def gtD := iiD λ i j => some (.bool (decide (j < i)))
noncomputable def iaddD := iiD λ i j => some (.int (i + j))
noncomputable def cMul (i j : Int) : Bool := (decide (-1000000000000 <= i) && decide (i <= 1000000000000)) || (decide (-1000000000000 <= j) && decide (j <= 1000000000000))
noncomputable def mulI := iiD λ i j => if cMul i j = true then some (.int (i * j)) else none
noncomputable def cMod (_ j : Int) : Bool := decide (0 < j)
noncomputable def modD := iiD λ i j => if cMod i j = true then some (.int (i % j)) else none
theorem od_sub : OpD K (rI0 λ i j => .int (i - j)) subD := od_i0 λ _ _ _ => rfl
theorem od_lt : OpD K (rI0 λ i j => .bl (decide (i < j))) ltD := od_i0 λ _ _ _ => rfl
theorem od_le : OpD K (rI0 λ i j => .bl (decide (i <= j))) leD := od_i0 λ _ _ _ => rfl
theorem od_gt : OpD K (rI0 λ i j => .bl (decide (j < i))) gtD := od_i0 λ _ _ _ => rfl
theorem od_iadd : OpD K (rI0 λ i j => .int (i + j)) iaddD := od_i0 λ _ _ _ => rfl
theorem cMul_ok {i j : Int} (h : cMul i j = true) : CMul i j := by
 unfold cMul at h
 simp only [Bool.or_eq_true, Q4, decide_eq_true_eq] at h
 unfold CMul
 omega
theorem od_mul : OpD K (rI CMul λ i j => .int (i * j)) mulI := od_i (λ _ _ h => cMul_ok h) λ _ _ _ => rfl
theorem od_mod : OpD K (rI (λ _ j => 0 < j) λ i j => .int (i % j)) modD := od_i (λ _ _ h => by simpa [cMod] using h) λ _ _ _ => rfl
def rCatD (K : Fg) : R2 := λ x y H Q => ∃ a b xs ys, x = .ref a /\ y = .ref b /\ H a = some (.tup xs) /\ H b = some (.tup ys) /\ xs.length + ys.length <= sizeLine /\ (ys = [] -> Q (.ref a) H) /\ (xs = [] -> Q (.ref b) H) /\ ∀ p, H p = none -> Q (.ref p) (upd H p (.tup (xs ++ ys)))
theorem op_catD {X : Cx} : OpR X (binaryOp .Add) (rCatD X.K) := by
 intro pins s σ H x y v u Q I rx ry h
 obtain ⟨a, b, xs, ys, rfl, rfl, ha, hb, hz, q1, q2, q3⟩ := h
 by_cases hx : xs = []
 · cases rx
   cases ry
   obtain ⟨its, r1, p1, _⟩ := I.tuple (SqT.of ha)
   obtain ⟨its2, r2, p2, _⟩ := I.tuple (SqT.of hb)
   exact cat_nil p1 p2 (r1.nil_iff.mpr hx) ⟨.ref b, H, I, rfl, q2 hx⟩
 · exact op_catT pins s σ H _ _ v u Q I rx ry ⟨a, b, xs, ys, rfl, rfl, SqT.of ha, SqT.of hb, hx, hz, q1, λ _ p hp => q3 p hp⟩
def rAddS : R2 := λ x y H Q => ∃ i j, x = .str i /\ y = .str j /\ i.length + j.length <= sizeLine /\ Q (.str (i ++ j)) H
def rAddA (K : Fg) : R2 := λ x y H Q => (rI0 λ i j => .int (i + j)) x y H Q \/ (rCatD K x y H Q \/ (rCat x y H Q \/ rAddS x y H Q))
theorem kx_add {X : Cx} (K : Fg) (h : X.K = K := by rfl) : OpR X (binaryOp .Add) (rAddA K) := op_add.or ((h ▸ op_catD).or (op_cat.or op_add_str))
noncomputable def addD : PyData -> PyData -> Option PyData
 | .int a, .int b => some (.int (a + b))
 | .tuple a, .tuple b => if a.length + b.length <= LIM then some (.tuple (a ++ b)) else none
 | .list a, .list b => if a.length + b.length <= LIM then some (.list (a ++ b)) else none
 | .str a, .str b => if a.length + b.length <= LIM then some (.str (a ++ b)) else none
 | _, _ => none
theorem od_add : OpD K (rAddA K) addD := λ F H x y dx dy d Q s hx hy e k => by
 unfold addD at e
 split at e
 · cases e
   exact .inl ⟨_, _, hx, hy, k _ H F (Grow.refl s) rfl⟩
 · rename_i a b
   split at e
   · rename_i hl
     cases e
     obtain ⟨p, xs, rfl, q, ar⟩ := hx
     obtain ⟨p', ys, rfl, q', ar'⟩ := hy
     refine .inr (.inl ⟨p, p', xs, ys, rfl, rfl, s _ _ q, s _ _ q', by rw [ar.length, ar'.length]; exact lim_line hl, λ z => ?_, λ z => ?_, λ t ht => ?_⟩)
     · refine k _ H F (Grow.refl s) ⟨p, xs, rfl, q, ?_⟩
       have := ar'.length
       rw [z] at this
       have : b = [] := List.eq_nil_of_length_eq_zero this.symm
       subst this
       rw [Q5]
       exact ar
     · refine k _ H F (Grow.refl s) ⟨p', ys, rfl, q', ?_⟩
       have := ar.length
       rw [z] at this
       have : a = [] := List.eq_nil_of_length_eq_zero this.symm
       subst this
       exact ar'
     · have sn : Same F (upd F t (.tup (xs ++ ys))) := same_new (s.free ht) _
       exact k _ _ _ (Grow.new s ht) ⟨t, _, rfl, upd_same, (ar.append ar').same sn⟩
   · cases e
 · rename_i a b
   split at e
   · rename_i hl
     cases e
     obtain ⟨p, xs, rfl, q, ar⟩ := hx
     obtain ⟨p', ys, rfl, q', ar'⟩ := hy
     refine .inr (.inr (.inl ⟨p, p', xs, ys, rfl, rfl, s _ _ q, s _ _ q', by rw [ar.length, ar'.length]; exact lim_line hl, λ t ht => ?_⟩))
     have sn : Same F (upd F t (.lst (xs ++ ys))) := same_new (s.free ht) _
     exact k _ _ _ (Grow.new s ht) ⟨t, _, rfl, upd_same, (ar.append ar').same sn⟩
   · cases e
 · rename_i a b
   split at e
   · rename_i hl
     cases e
     exact .inr (.inr (.inr ⟨a, b, hx, hy, lim_line hl, k _ H F (Grow.refl s) rfl⟩))
   · cases e
 · cases e
theorem atI_are {F : Hp} {xs : List V} {ds : List PyData} {i : Int} {d : PyData} (ar : Are K F xs ds) (e : atI ds i = some d) : ∃ v, atI xs i = some v /\ Is K F v d := by
 unfold atI at e ⊢
 rw [<- ar.length] at e
 obtain ⟨j, e1, e2⟩ := bind_some e
 rw [e1]
 exact ar.get e2
noncomputable def scrD : PyData -> Option (List Int)
 | .dict [(.none, .list ds)] => intsD ds
 | _ => none
theorem scr_of {F : Hp} {x : V} {d : PyData} {ns : List Int} (e : scrD d = some ns) (h : Is K F x d) : ∃ a, x = .ref a /\ SqL K F a (ns.map V.int) := by
 unfold scrD at e
 split at e
 · rename_i ds
   have ed := intsD_some e
   subst ed
   obtain ⟨a, rfl, h⟩ := h
   rcases h with ⟨ms, e1, q⟩ | ⟨m, _, q⟩ | ⟨nm, z, _⟩ | ⟨m, _, q⟩
   · have : ns = ms := by
      injection e1 with e1 _
      injection e1 with _ e1
      injection e1 with e1
      have := congrArg intsD e1
      rw [intsD_map, intsD_map] at this
      exact zV this
     subst this
     exact ⟨a, rfl, q⟩
   · obtain ⟨z, m', _, q, _⟩ := q
     have := q.1
     cases this
   · cases z
   · cases q.1
 · cases e
noncomputable def ixD : PyData -> PyData -> Option PyData
 | .tuple ds, .int i => atI ds i
 | .list ds, .int i => atI ds i
 | .str z, .int i => if z.length <= LIM then (atI z.cps.toList i).map λ c => .str ⟨#[c]⟩ else none
 | d, .int i => (scrD d).bind λ ns => (atI ns i).map PyData.int
 | _, _ => none
theorem kx_ix {X : Cx} (K : Fg) (h : X.K = K := by rfl) : IxR X (rIx K) := h ▸ ix_seq
theorem atI_map {α β : Type} (f : α -> β) (l : List α) (i : Int) : atI (l.map f) i = (atI l i).map f := by
 unfold atI
 rw [zJ]
 cases ixN l.length i with
 | none => rfl
 | some j => simp
theorem od_ix : OpD K (rIx K) ixD := λ F H x y dx dy d Q s hx hy e k => by
 unfold ixD at e
 split at e
 · obtain ⟨p, xs, rfl, q, ar⟩ := hx
   obtain ⟨v, e1, i1⟩ := atI_are ar e
   exact .inr (.inl ⟨p, xs, _, v, rfl, hy, SqT.of (s _ _ q), e1, k v H F (Grow.refl s) i1⟩)
 · obtain ⟨p, xs, rfl, q, ar⟩ := hx
   obtain ⟨v, e1, i1⟩ := atI_are ar e
   exact .inl ⟨p, xs, _, v, rfl, hy, SqL.of (s _ _ q), e1, k v H F (Grow.refl s) i1⟩
 · rename_i z i
   split at e
   · rename_i hl
     obtain ⟨c, e1, e2⟩ := Q0.mp e
     subst e2
     exact .inr (.inr ⟨z, i, c, hx, hy, lim_line hl, e1, k _ H F (Grow.refl s) rfl⟩)
   · cases e
 · rename_i i _ _ _
   obtain ⟨ns, e1, e2⟩ := bind_some e
   obtain ⟨n, e3, e4⟩ := Q0.mp e2
   subst e4
   obtain ⟨a, rfl, q⟩ := scr_of e1 hx
   exact .inl ⟨a, _, i, .int n, rfl, hy, s.seq q, by rw [atI_map, e3]; rfl, k _ H F (Grow.refl s) rfl⟩
 · cases e
noncomputable def lenD : PyData -> Option Nat
 | .tuple ds => some ds.length
 | .list ds => some ds.length
 | .str z => if z.length <= LIM then some z.length else none
 | d => (scrD d).map List.length
def rLenA (K : Fg) : List V -> Hp -> VK -> Prop := λ xs H Q => ∃ x n, xs = [x] /\ LenV K x H n /\ Q (.int (n : Nat)) H
theorem kx_lenA {X : Cx} (K : Fg) (h : X.K = K := by rfl) : CallR X (.builtin "len") (rLenA K) := h ▸ call_len
noncomputable def lenC : List PyData -> Option PyData
 | [d] => (lenD d).map λ n : Nat => .int (n : Nat)
 | _ => none
theorem lenV_of {F H : Hp} {x : V} {d : PyData} {n : Nat} (s : Same F H) (h : Is K F x d) (e : lenD d = some n) : LenV K x H n := by
 unfold lenD at e
 split at e
 · cases e
   obtain ⟨p, xs, rfl, q, ar⟩ := h
   exact .inr ⟨xs, SqT.of (s _ _ q), ar.length.symm⟩
 · cases e
   obtain ⟨p, xs, rfl, q, ar⟩ := h
   exact .inl ⟨xs, SqL.of (s _ _ q), ar.length.symm⟩
 · rename_i z
   split at e
   · rename_i hl
     cases e
     rw [show x = .str z from h]
     exact ⟨lim_line hl, rfl⟩
   · cases e
 · obtain ⟨ns, e1, e2⟩ := Q0.mp e
   subst e2
   obtain ⟨a, rfl, q⟩ := scr_of e1 h
   exact .inl ⟨_, s.seq q, by rw [zJ]⟩
theorem cd_len : CallD K (rLenA K) lenC := λ F H xs ds d Q s ar e k => by
 unfold lenC at e
 split at e
 · obtain ⟨n, e1, e2⟩ := Q0.mp e
   subst e2
   obtain ⟨x, r, rfl, hx, hr⟩ := ar
   rw [show r = [] from hr]
   exact ⟨x, n, rfl, lenV_of s hx e1, k _ H F (Grow.refl s) rfl⟩
 · cases e
mutual
theorem toD {H : Hp} : ∀ {x : V} (d : PyData), d.canLay0 = true -> Is K H x d -> L2.IsD K H x d
 | _, .none, _, h => h
 | _, .bool _, _, h => h
 | _, .int _, _, h => h
 | _, .str _, _, h => h
 | _, .list ds, c, h => by
  obtain ⟨a, xs, e, q, r⟩ := h
  exact ⟨a, xs, e, SqL.of q, toDs ds (by simpa [PyData.canLay0] using c) r⟩
 | _, .tuple ds, c, h => by
  obtain ⟨a, xs, e, q, r⟩ := h
  exact ⟨a, xs, e, SqT.of q, toDs ds (by simpa [PyData.canLay0] using c) r⟩
 | _, .dict _, c, h => by simp [PyData.canLay0] at c
theorem toDs {H : Hp} : ∀ {xs : List V} (ds : List PyData), PyData.canLayAll0 ds = true -> Are K H xs ds -> L2.AllD K H xs ds
 | _, [], _, h => h
 | _, d :: ds, c, h => by
  obtain ⟨x, r, e, q, t⟩ := h
  simp only [PyData.canLayAll0, Q4] at c
  exact ⟨x, r, e, toD d c.1 q, toDs ds c.2 t⟩
end
noncomputable def okD (d : PyData) : Bool := d.canLay0 && decide (d.depth <= 60)
theorem okD_cmp {d : PyData} (h : okD d = true) : cmpOk d := by
 unfold okD at h
 rw [Q4, decide_eq_true_eq] at h
 exact h
noncomputable def eqD (a b : PyData) : Option PyData := if (okD a && okD b) = true then some (.bool (PyData.eqv a b)) else none
noncomputable def neD (a b : PyData) : Option PyData := if (okD a && okD b) = true then some (.bool (!PyData.eqv a b)) else none
theorem od_eq : OpD K (rEqD K false) eqD := λ F H x y dx dy d Q s hx hy e k => by
 unfold eqD at e
 split at e
 · rename_i c
   rw [Q4] at c
   cases e
   exact ⟨dx, dy, toD dx (okD_cmp c.1).1 (hx.same s), toD dy (okD_cmp c.2).1 (hy.same s), okD_cmp c.1, okD_cmp c.2, k _ H F (Grow.refl s) rfl⟩
 · cases e
theorem od_ne : OpD K (rEqD K true) neD := λ F H x y dx dy d Q s hx hy e k => by
 unfold neD at e
 split at e
 · rename_i c
   rw [Q4] at c
   cases e
   exact ⟨dx, dy, toD dx (okD_cmp c.1).1 (hx.same s), toD dy (okD_cmp c.2).1 (hy.same s), okD_cmp c.1, okD_cmp c.2, k _ H F (Grow.refl s) rfl⟩
 · cases e
noncomputable def dChain (g g' : PyData -> PyData -> Option PyData) (fa fb fc : DSt -> Option PyData) (δ : DSt) : Option PyData := (fa δ).bind λ a => (fb δ).bind λ b => (g a b).bind λ r => match r with
 | .bool true => (fc δ).bind λ c => g' b c
 | .bool false => some (.bool false)
 | _ => none
theorem se_chain {r r' : R2} {g g' : PyData -> PyData -> Option PyData} {ta tb tc : TE} {fa fb fc : DSt -> Option PyData} (o : OpD K r g) (o' : OpD K r' g') (a : SE K ta fa) (b : SE K tb fb) (c : SE K tc fc) : SE K (tChain r r' ta tb tc) (dChain g g' fa fb fc) := λ H0 F0 F σ H δ d Q R e h => by
 obtain ⟨dx, ex, e⟩ := bind_some e
 obtain ⟨dy, ey, e⟩ := bind_some e
 obtain ⟨dz, ez, e⟩ := bind_some e
 refine a H0 F0 F σ H δ dx _ R ex λ v H1 F1 g1 i1 => b H0 F0 F1 σ H1 δ dy _ (R.grow g1) ey λ w H2 F2 g2 i2 => ?_
 refine o F2 H2 v w dx dy dz _ g2.s (i1.same g2.f) i2 ez λ v' H3 F3 g3 i3 => ?_
 split at e
 · refine ⟨true, i3, iteT ?_⟩
   obtain ⟨du, eu, e⟩ := bind_some e
   refine c H0 F0 F3 σ H3 δ du _ ((R.grow (g1.trans g2)).grow g3) eu λ u H4 F4 g4 i4 => ?_
   exact o' F4 H4 w u dy du d Q g4.s ((i2.same g3.f).same g4.f) i4 e λ v5 H5 F5 g5 i5 => h v5 H5 F5 (g1.trans (g2.trans (g3.trans (g4.trans g5)))) i5
 · cases e
   exact ⟨false, i3, iteF (h _ H3 F3 (g1.trans (g2.trans g3)) rfl)⟩
 · cases e
noncomputable def dNeg (f : DSt -> Option PyData) (δ : DSt) : Option PyData := (f δ).bind λ d => match d with
 | .int i => some (.int (-i))
 | _ => none
theorem se_neg {te : TE} {f : DSt -> Option PyData} (a : SE K te f) : SE K (tUn (rU λ i => .int (-i)) te) (dNeg f) := λ H0 F0 F σ H δ d Q R e h => by
 obtain ⟨dx, e1, e2⟩ := bind_some e
 split at e2
 · rename_i i
   cases e2
   exact a H0 F0 F σ H δ _ _ R e1 λ v H1 F1 g1 i1 => ⟨i, i1, h _ H1 F1 g1 rfl⟩
 · cases e2
noncomputable def tyD : PyData -> String
 | .none => "NoneType"
 | .bool _ => "bool"
 | .int _ => "int"
 | .str _ => "str"
 | .list _ => "list"
 | .tuple _ => "tuple"
 | .dict _ => "dict"
noncomputable def isiN (d : PyData) (n : String) : Bool := tyD d == n || (tyD d == "bool" && n == "int")
def rIsiD (K : Fg) : List V -> Hp -> VK -> Prop := λ xs H Q => ∃ x n d, xs = [x, .ty n] /\ Is K H x d /\ (d matches .dict _) = false /\ n ∈ ["int", "bool", "str", "list", "tuple"] /\ Q (.bl (isiN d n)) H
end
section
variable {X : Cx}
theorem kitT {K : Fg} (d : PyData) (hd : (d matches .dict _) = false) (n : String) (hn : n ∈ ["int", "bool", "str", "list", "tuple"]) : PySem.W.kitOne K (.type (tyD d)) (.type n) = some (isiN d n) := by
 have go : ∀ t ∈ ["NoneType", "bool", "int", "str", "list", "tuple"], ∀ n ∈ ["int", "bool", "str", "list", "tuple"],
  (if (Value.type t == Value.type n) = true then some true else if PySem.W.kitMeta n = true then (fastBuiltinMro t).map (·.contains (.type n)) else none) = some (t == n || (t == "bool" && n == "int")) := by decide +kernel
 have ht : tyD d ∈ ["NoneType", "bool", "int", "str", "list", "tuple"] := by
  cases d <;> simp [tyD] at hd ⊢
 exact go _ ht n hn
theorem call_isiD : CallR X (.builtin "isinstance") (rIsiD X.K) := by
 intro pins s σ H xs us Q I rv h
 obtain ⟨x, n, d, rfl, hx, hd, hn, q⟩ := h
 obtain ⟨u, w', rfl, r1, r2⟩ := rv.two
 cases r2
 have e := kitT (K := X.K) d hd n hn
 have fin : ∀ tk, EP X pins σ Q (.bool (isiN d n)) { s with toks := tk } := λ tk => ⟨.bl _, H, I.tok tk, rfl, q⟩
 cases d with
 | none => exact isinst_ok I r1 (by rw [show x = .non from hx]; exact TyOf.non) e fin
 | bool b => exact isinst_ok I r1 (by rw [show x = .bl b from hx]; exact TyOf.bl b) e fin
 | int b => exact isinst_ok I r1 (by rw [show x = .int b from hx]; exact TyOf.int b) e fin
 | str b => exact isinst_ok I r1 (by rw [show x = .str b from hx]; exact TyOf.str b) e fin
 | list ds =>
  obtain ⟨a, ys, rfl, q', _⟩ := hx
  exact isinst_ok I r1 (TyOf.lst q') e fin
 | tuple ds =>
  obtain ⟨a, ys, rfl, q', _⟩ := hx
  exact isinst_ok I r1 (TyOf.tup q') e fin
 | dict _ => cases hd
theorem kx_isiD (K : Fg) (h : X.K = K := by rfl) : CallR X (.builtin "isinstance") (rIsiD K) := h ▸ call_isiD
end
section
variable {K : Fg}
noncomputable def dIsi (n : String) (f : DSt -> Option PyData) (δ : DSt) : Option PyData := (f δ).bind λ d => match d with
 | .dict _ => none
 | d => some (.bool (isiN d n))
theorem se_isi {te : TE} {n : String} {f : DSt -> Option PyData} (a : SE K te f) (hn : n ∈ ["int", "bool", "str", "list", "tuple"] := by decide) : SE K (tCB (rIsiD K) (tCons te (tCons (tC (.ty n)) tNil))) (dIsi n f) := λ H0 F0 F σ H δ d Q R e h => by
 obtain ⟨dx, e1, e2⟩ := bind_some e
 refine a H0 F0 F σ H δ dx _ R e1 λ v H1 F1 g1 i1 => ?_
 cases dx with
 | dict _ => cases e2
 | none => cases e2; exact ⟨v, n, _, rfl, i1.same g1.s, rfl, hn, h _ H1 F1 g1 rfl⟩
 | bool _ => cases e2; exact ⟨v, n, _, rfl, i1.same g1.s, rfl, hn, h _ H1 F1 g1 rfl⟩
 | int _ => cases e2; exact ⟨v, n, _, rfl, i1.same g1.s, rfl, hn, h _ H1 F1 g1 rfl⟩
 | str _ => cases e2; exact ⟨v, n, _, rfl, i1.same g1.s, rfl, hn, h _ H1 F1 g1 rfl⟩
 | list _ => cases e2; exact ⟨v, n, _, rfl, i1.same g1.s, rfl, hn, h _ H1 F1 g1 rfl⟩
 | tuple _ => cases e2; exact ⟨v, n, _, rfl, i1.same g1.s, rfl, hn, h _ H1 F1 g1 rfl⟩
noncomputable def boolsD : List PyData -> Option (List Bool)
 | [] => some []
 | .bool n :: r => (boolsD r).map (n :: ·)
 | _ :: _ => none
theorem boolsD_some : ∀ {ds : List PyData} {ns : List Bool}, boolsD ds = some ns -> ds = ns.map PyData.bool
 | [], ns, h => by cases h; rfl
 | .bool n :: r, ns, h => by
  obtain ⟨ms, e1, e2⟩ := Q0.mp h
  subst e2
  rw [boolsD_some e1]; rfl
 | .none :: r, ns, h => by cases h
 | .int _ :: r, ns, h => by cases h
 | .str _ :: r, ns, h => by cases h
 | .list _ :: r, ns, h => by cases h
 | .tuple _ :: r, ns, h => by cases h
 | .dict _ :: r, ns, h => by cases h
theorem boolsD_map : ∀ ns : List Bool, boolsD (ns.map PyData.bool) = some ns
 | [] => rfl
 | n :: r => by
  show (boolsD (r.map PyData.bool)).map (n :: ·) = _
  rw [boolsD_map r]; rfl
noncomputable def allC : List PyData -> Option PyData
 | [.list ds] => (boolsD ds).map λ bs => .bool (bs.all id)
 | _ => none
theorem cd_all : CallD K (rAll K) allC := λ F H xs ds d Q s ar e k => by
 unfold allC at e
 split at e
 · obtain ⟨bs, e1, e2⟩ := Q0.mp e
   subst e2
   obtain ⟨x, r, rfl, hx, hr⟩ := ar
   rw [show r = [] from hr]
   obtain ⟨p, ys, rfl, q, ar⟩ := hx
   have := boolsD_some e1
   subst this
   have := Are.bools.mp ar
   subst this
   exact ⟨p, bs, rfl, SqL.of (s _ _ q), k _ H F (Grow.refl s) rfl⟩
 · cases e
noncomputable def tupC : List PyData -> Option PyData
 | [.list ds] => some (.tuple ds)
 | [.tuple ds] => some (.tuple ds)
 | _ => none
theorem cd_tup : CallD K (rTupleOf K) tupC := λ F H xs ds d Q s ar e k => by
 unfold tupC at e
 split at e
 · cases e
   obtain ⟨x, r, rfl, hx, hr⟩ := ar
   rw [show r = [] from hr]
   obtain ⟨p, ys, rfl, q, ar⟩ := hx
   exact ⟨p, ys, rfl, .inl ⟨SqL.of (s _ _ q), λ t ht => k _ _ _ (Grow.new s ht) ⟨t, _, rfl, upd_same, ar.same (same_new (s.free ht) _)⟩⟩⟩
 · cases e
   obtain ⟨x, r, rfl, hx, hr⟩ := ar
   rw [show r = [] from hr]
   obtain ⟨p, ys, rfl, q, ar⟩ := hx
   exact ⟨p, ys, rfl, .inr ⟨SqT.of (s _ _ q), k _ H F (Grow.refl s) ⟨p, ys, rfl, q, ar⟩⟩⟩
 · cases e
noncomputable def dListO (fs : DSt -> Option (List PyData)) (δ : DSt) : Option (List PyData) := (fs δ).bind λ ds => match ds with
 | [d] => seqD d
 | _ => none
theorem so_listOf {t : TA} {fs : DSt -> Option (List PyData)} (a : SA K t fs) : SO K (tCB (rListOf K) t) (dListO fs) := λ H0 F0 F σ H δ es Q R e h => by
 obtain ⟨ds, e1, e2⟩ := bind_some e
 refine a H0 F0 F σ H δ ds _ R e1 λ vs H1 F1 g1 ar => ?_
 split at e2
 · rename_i d
   obtain ⟨x, r, rfl, hx, hr⟩ := ar
   rw [show r = [] from hr]
   cases d with
   | list us =>
    cases e2
    obtain ⟨p, ys, rfl, q, ar⟩ := hx
    exact ⟨p, ys, rfl, .inl (SqL.of (g1.s _ _ q)), λ l hl => h l ys _ F1 (g1.trans (Grow.fresh g1.s hl)) (g1.h.free hl) (g1.s.free hl) upd_same ar⟩
   | tuple us =>
    cases e2
    obtain ⟨p, ys, rfl, q, ar⟩ := hx
    exact ⟨p, ys, rfl, .inr (SqT.of (g1.s _ _ q)), λ l hl => h l ys _ F1 (g1.trans (Grow.fresh g1.s hl)) (g1.h.free hl) (g1.s.free hl) upd_same ar⟩
   | _ => cases e2
 · cases e2
noncomputable def dInO (neg : Bool) (i : Nat) (f : DSt -> Option PyData) (δ : DSt) : Option PyData := match δ[i]? with
 | some (some (.ow ds)) => (f δ).bind λ d => match d with
  | .int n => (intsD ds).bind λ ns => some (.bool (if neg = true then !decide (n ∈ ns) else decide (n ∈ ns)))
  | _ => none
 | _ => none
theorem se_inO {te : TE} {f : DSt -> Option PyData} (neg : Bool) (i : Nat) (a : SE K te f) : SE K (tOp (rIn K neg) te (tVar i)) (dInO neg i f) := λ H0 F0 F σ H δ d Q R e h => by
 unfold dInO at e
 split at e
 · rename_i ds q
   obtain ⟨dx, e1, e2⟩ := bind_some e
   split at e2
   · rename_i n
     obtain ⟨ns, e3, e4⟩ := bind_some e2
     cases e4
     obtain ⟨p, xs, q1, q2, q3, q4, q5⟩ := R.ow i ds q
     have ed := intsD_some e3
     subst ed
     have ex := Are.ints.mp q5
     subst ex
     refine a H0 F0 F σ H δ _ _ R e1 λ v H1 F1 g1 i1 => ⟨.ref p, q1, p, _, rfl, .inl (SqL.of (g1.h _ _ q2)), ?_, flat_ints _, ?_⟩
     · rw [show v = .int n from i1]; rfl
     · rw [show v = .int n from i1, inV_int]
       exact h _ H1 F1 g1 (by cases neg <;> rfl)
   · cases e2
 · cases e
end
section
variable {X : Cx}
end
section
variable {K : Fg}
theorem canLays {ds : List PyData} (h : ∀ d ∈ ds, d.canLay0 = true) : PyData.canLayAll0 ds = true := by
 induction ds with
 | nil => simp [PyData.canLayAll0]
 | cons d r ih => simp [PyData.canLayAll0, h d lMs, ih λ x hx => h x (lMc _ hx)]
end
theorem law_spec {K : Fg} {f : List PyData -> Option PyData} {H : Hp} {a : Addr} {ns : List Int} (h : f [scr ns] = some (.bool true)) (q : SqL K H a (ns.map V.int)) (tb : Tb K H) : spD K 1 f [.ref a] H (λ v _ => v = .bl true) λ _ _ _ => False :=
 ⟨H, [scr ns], .bool true, ⟨Same.refl _, tb⟩, rfl, ⟨.ref a, [], rfl, ⟨a, rfl, .inl ⟨ns, rfl, q⟩⟩, rfl⟩, h, λ v H' F' _ i => i⟩
end DL
namespace DL
open PySem L2
theorem loopD_of {fg : PyData -> DSt -> Option DSt} {fb : DSt -> Option DFlow} : ∀ {ds : List PyData} (P : Nat -> DSt -> Prop) {δ : DSt}, P 0 δ ->
 (∀ (i : Nat) (hi : i < ds.length) (δ : DSt), P i δ -> ∃ δ1 δ2, fg ds[i] δ = some δ1 /\ fb δ1 = some (.nx δ2) /\ P (i + 1) δ2) -> ∃ δ', loopD fg fb ds δ = some (.nx δ') /\ P ds.length δ'
 | [], P, δ, h0, _ => ⟨δ, rfl, h0⟩
 | d :: r, P, δ, h0, h => by
  obtain ⟨δ1, δ2, e1, e2, h1⟩ := h 0 (by simp) δ h0
  obtain ⟨δ', e3, h3⟩ := loopD_of (ds := r) (λ i => P (i + 1)) h1 λ i hi δ hp => by
   have := h (i + 1) (by simpa using hi) δ hp
   simpa using this
  refine ⟨δ', ?_, h3⟩
  have e1' : fg d δ = some δ1 := e1
  show ((fg d δ).bind λ δ1 => (fb δ1).bind λ fl => match fl with
   | .nx δ2 => loopD fg fb r δ2
   | .ct δ2 => loopD fg fb r δ2
   | .bk δ2 => some (.nx δ2)
   | .rt v => some (.rt v)
   | .ro v => some (.ro v)) = _
  rw [e1']
  show ((fb δ1).bind λ fl => match fl with
   | .nx δ2 => loopD fg fb r δ2
   | .ct δ2 => loopD fg fb r δ2
   | .bk δ2 => some (.nx δ2)
   | .rt v => some (.rt v)
   | .ro v => some (.ro v)) = _
  rw [e2]
  exact e3
theorem mapM'_map {f : PyData -> Option (Option PyData)} {g : PyData -> PyData} : ∀ {ds : List PyData}, (∀ d ∈ ds, f d = some (some (g d))) -> mapM' f ds = some (ds.map g)
 | [], _ => rfl
 | d :: r, h => by
  show ((f d).bind λ o => match o with
   | some y => (mapM' f r).map (y :: ·)
   | none => mapM' f r) = _
  rw [h d lMs]
  show (mapM' f r).map (g d :: ·) = _
  rw [mapM'_map λ x hx => h x (lMc _ hx)]
  rfl
theorem mapM'_filter {f : PyData -> Option (Option PyData)} {p : PyData -> Bool} {g : PyData -> PyData} : ∀ {ds : List PyData}, (∀ d ∈ ds, f d = some (if p d = true then some (g d) else none)) -> mapM' f ds = some ((ds.filter p).map g)
 | [], _ => rfl
 | d :: r, h => by
  have ih := mapM'_filter (ds := r) (f := f) (p := p) (g := g) λ x hx => h x (lMc _ hx)
  show ((f d).bind λ o => match o with
   | some y => (mapM' f r).map (y :: ·)
   | none => mapM' f r) = _
  rw [h d lMs]
  cases e : p d with
  | true =>
   show (mapM' f r).map (g d :: ·) = _
   rw [ih, List.filter_cons, e]
   rfl
  | false =>
   show mapM' f r = _
   rw [ih, List.filter_cons, e]
   rfl
theorem dCompO_map {n : Nat} {fr : List (Str × Nat)} {fi : DSt -> Option (List PyData)} {fg : PyData -> DSt -> Option DSt} {fc : DSt -> Option Bool} {fe : DSt -> Option PyData} {δ : DSt} {ds : List PyData} (g : PyData -> PyData) (h1 : fi δ = some ds) (hl : ds.length <= LIM)
 (h : ∀ d ∈ ds, ((fg d (st0D n fr δ)).bind λ δ1 => (fc δ1).bind λ b => if b = true then (fe δ1).map some else some none) = some (some (g d))) : dCompO n fr fi fg fc fe δ = some (ds.map g) := by
 unfold dCompO
 rw [h1]
 show (if ds.length <= LIM then _ else none) = _
 rw [if_pos hl]
 exact mapM'_map h
theorem dCompO_filter {n : Nat} {fr : List (Str × Nat)} {fi : DSt -> Option (List PyData)} {fg : PyData -> DSt -> Option DSt} {fc : DSt -> Option Bool} {fe : DSt -> Option PyData} {δ : DSt} {ds : List PyData} (p : PyData -> Bool) (g : PyData -> PyData) (h1 : fi δ = some ds) (hl : ds.length <= LIM)
 (h : ∀ d ∈ ds, ((fg d (st0D n fr δ)).bind λ δ1 => (fc δ1).bind λ b => if b = true then (fe δ1).map some else some none) = some (if p d = true then some (g d) else none)) : dCompO n fr fi fg fc fe δ = some ((ds.filter p).map g) := by
 unfold dCompO
 rw [h1]
 show (if ds.length <= LIM then _ else none) = _
 rw [if_pos hl]
 exact mapM'_filter h
noncomputable def tupI (c : List Int) : PyData := .tuple (c.map PyData.int)
mutual
noncomputable def nb : PyData -> Bool
 | .none => true
 | .bool _ => false
 | .int _ => true
 | .str _ => true
 | .list ds => nbs ds
 | .tuple ds => nbs ds
 | .dict _ => false
noncomputable def nbs : List PyData -> Bool
 | [] => true
 | d :: r => nb d && nbs r
end
mutual
theorem eqv_iff : ∀ (a b : PyData), nb a = true -> nb b = true -> (PyData.eqv a b = true ↔ a = b)
 | .none, b, _, hb => by cases b <;> simp [PyData.eqv, nb] at hb ⊢
 | .bool _, _, ha, _ => by simp [nb] at ha
 | .int i, b, _, hb => by cases b <;> simp [PyData.eqv, nb] at hb ⊢
 | .str i, b, _, hb => by cases b <;> simp [PyData.eqv, nb] at hb ⊢
 | .list xs, b, ha, hb => by
  cases b with
  | list ys =>
   have := eqvs_iff xs ys (by simpa [nb] using ha) (by simpa [nb] using hb)
   simp [PyData.eqv, this]
  | _ => simp [PyData.eqv, nb] at hb ⊢
 | .tuple xs, b, ha, hb => by
  cases b with
  | tuple ys =>
   have := eqvs_iff xs ys (by simpa [nb] using ha) (by simpa [nb] using hb)
   simp [PyData.eqv, this]
  | _ => simp [PyData.eqv, nb] at hb ⊢
 | .dict _, _, ha, _ => by simp [nb] at ha
theorem eqvs_iff : ∀ (a b : List PyData), nbs a = true -> nbs b = true -> (PyData.eqvAll a b = true ↔ a = b)
 | [], [], _, _ => by simp [PyData.eqvAll]
 | [], _ :: _, _, _ => by simp [PyData.eqvAll]
 | _ :: _, [], _, _ => by simp [PyData.eqvAll]
 | x :: xs, y :: ys, ha, hb => by
  simp only [nbs, Q4] at ha hb
  have h1 := eqv_iff x y ha.1 hb.1
  have h2 := eqvs_iff xs ys ha.2 hb.2
  simp [PyData.eqvAll, h1, h2]
end
theorem nbs_all {ds : List PyData} : nbs ds = true ↔ ∀ d ∈ ds, nb d = true := by
 induction ds with
 | nil => simp [nbs]
 | cons d r ih => simp [nbs, ih]
theorem nb_tup {ds : List PyData} (h : ∀ d ∈ ds, nb d = true) : nb (.tuple ds) = true := by simpa [nb] using nbs_all.mpr h
theorem nb_tupI (c : List Int) : nb (tupI c) = true := nb_tup λ d hd => by
 obtain ⟨n, _, rfl⟩ := Qc.mp hd
 rfl
def okN (n : Nat) (d : PyData) : Prop := d.canLay0 = true /\ d.depth <= n
theorem okN.ok {n : Nat} {d : PyData} (h : okN n d) (hn : n <= 60 := by decide) : okD d = true := by
 unfold okD
 rw [Q4, decide_eq_true_eq]
 exact ⟨h.1, Qb h.2 hn⟩
theorem okN_int (i : Int) : okN 0 (.int i) := ⟨by simp [PyData.canLay0], by simp [PyData.depth]⟩
theorem depths {ds : List PyData} {n : Nat} (h : ∀ d ∈ ds, d.depth <= n) : PyData.depthAll ds <= n := by
 induction ds with
 | nil => simp [PyData.depthAll]
 | cons d r ih =>
  have h1 := h d lMs
  have h2 := ih λ x hx => h x (lMc _ hx)
  simp only [PyData.depthAll]
  omega
theorem okN_list {ds : List PyData} {n : Nat} (h : ∀ d ∈ ds, okN n d) : okN (n + 1) (.list ds) := by
 refine ⟨?_, ?_⟩
 · simp only [PyData.canLay0]; exact canLays λ d hd => (h d hd).1
 · simp only [PyData.depth]; have := depths λ d hd => (h d hd).2; omega
theorem okN_tup {ds : List PyData} {n : Nat} (h : ∀ d ∈ ds, okN n d) : okN (n + 1) (.tuple ds) := by
 refine ⟨?_, ?_⟩
 · simp only [PyData.canLay0]; exact canLays λ d hd => (h d hd).1
 · simp only [PyData.depth]; have := depths λ d hd => (h d hd).2; omega
theorem okN_tupI (c : List Int) : okN 1 (tupI c) := okN_tup λ d hd => by
 obtain ⟨n, _, rfl⟩ := Qc.mp hd
 exact okN_int n
theorem tupI_inj {a b : List Int} (h : tupI a = tupI b) : a = b := by
 unfold tupI at h
 injection h with h
 have := congrArg intsD h
 rw [intsD_map, intsD_map] at this
 exact zV this
theorem eqv_tupI (a b : List Int) : PyData.eqv (tupI a) (tupI b) = decide (a = b) := by
 rw [Bool.eq_iff_iff, eqv_iff _ _ (nb_tupI a) (nb_tupI b), decide_eq_true_eq]
 exact ⟨tupI_inj, λ h => by rw [h]⟩
theorem eqv_int (i j : Int) : PyData.eqv (.int i) (.int j) = decide (i = j) := by
 rw [PyData.eqv]
 rfl
theorem eqD_of {a b : PyData} (ha : okD a = true) (hb : okD b = true) : eqD a b = some (.bool (PyData.eqv a b)) := by
 unfold eqD; rw [ha, hb]; rfl
theorem neD_of {a b : PyData} (ha : okD a = true) (hb : okD b = true) : neD a b = some (.bool (!PyData.eqv a b)) := by
 unfold neD; rw [ha, hb]; rfl
theorem eqD_int (i j : Int) : eqD (.int i) (.int j) = some (.bool (decide (i = j))) := by rw [eqD_of (okN_int i).ok (okN_int j).ok, eqv_int]
theorem neD_int (i j : Int) : neD (.int i) (.int j) = some (.bool (!decide (i = j))) := by rw [neD_of (okN_int i).ok (okN_int j).ok, eqv_int]
theorem eqD_tupI (a b : List Int) : eqD (tupI a) (tupI b) = some (.bool (decide (a = b))) := by rw [eqD_of (okN_tupI a).ok (okN_tupI b).ok, eqv_tupI]
theorem neD_tupI (a b : List Int) : neD (tupI a) (tupI b) = some (.bool (!decide (a = b))) := by rw [neD_of (okN_tupI a).ok (okN_tupI b).ok, eqv_tupI]
theorem isi_ii (i : Int) : isiN (.int i) "int" = true := by simp [isiN, tyD]
theorem isi_ib (i : Int) : isiN (.int i) "bool" = false := by simp [isiN, tyD]
theorem isi_tt (ds : List PyData) : isiN (.tuple ds) "tuple" = true := by simp [isiN, tyD]
theorem isi_ll (ds : List PyData) : isiN (.list ds) "list" = true := by simp [isiN, tyD]
theorem add_ii (i j : Int) : addD (.int i) (.int j) = some (.int (i + j)) := rfl
theorem sub_ii (i j : Int) : subD (.int i) (.int j) = some (.int (i - j)) := rfl
theorem lt_ii (i j : Int) : ltD (.int i) (.int j) = some (.bool (decide (i < j))) := rfl
theorem le_ii (i j : Int) : leD (.int i) (.int j) = some (.bool (decide (i <= j))) := rfl
theorem gt_ii (i j : Int) : gtD (.int i) (.int j) = some (.bool (decide (j < i))) := rfl
theorem iadd_ii (i j : Int) : iaddD (.int i) (.int j) = some (.int (i + j)) := rfl
theorem mul_ii (i j : Int) : mulI (.int i) (.int j) = if cMul i j = true then some (.int (i * j)) else none := rfl
theorem mod_ii (i j : Int) : modD (.int i) (.int j) = if cMod i j = true then some (.int (i % j)) else none := rfl
theorem len_t (ds : List PyData) : lenD (.tuple ds) = some ds.length := rfl
theorem len_l (ds : List PyData) : lenD (.list ds) = some ds.length := rfl
theorem scrD_scr (ns : List Int) : scrD (scr ns) = some ns := intsD_map ns
theorem lenD_scr (ns : List Int) : lenD (scr ns) = some ns.length := by
 show (scrD (scr ns)).map List.length = _
 rw [scrD_scr]; rfl
theorem ixD_scr (ns : List Int) (i : Int) : ixD (scr ns) (.int i) = (atI ns i).map PyData.int := by
 show ((scrD (scr ns)).bind λ ns => (atI ns i).map PyData.int) = _
 rw [scrD_scr]; rfl
theorem atI_nat' {α : Type} {xs : List α} {j : Nat} (h : j < xs.length) : atI xs (j : Int) = some xs[j] := atI_nat (gEq h)
end DL
namespace DL
open PySem PySem.Spec PyProof.Rows L2
noncomputable def lits (f : Expr -> Option PyData) : List Expr -> Option (List PyData)
 | [] => some []
 | e :: r => (f e).bind λ d => (lits f r).map (d :: ·)
noncomputable def lit : Nat -> Expr -> Option PyData
 | 0, _ => none
 | n + 1, e => match e with
  | .Constant (.int i) _ _ => some (.int i)
  | .Constant (.bool b) _ _ => some (.bool b)
  | .Constant .none _ _ => some .none
  | .Constant (.str x) _ _ => some (.str x)
  | .Tuple es _ _ => (lits (lit n) es).map .tuple
  | .List es _ => (lits (lit n) es).map .list
  | _ => none
mutual
noncomputable def tOf : PyData -> TE
 | .none => tC .non
 | .bool b => tC (.bl b)
 | .int i => tC (.int i)
 | .str x => tC (.str x)
 | .tuple ds => tTup (tOfs ds)
 | .list ds => tLst (tOfs ds)
 | .dict _ => λ _ _ _ => False
noncomputable def tOfs : List PyData -> TA
 | [] => tNil
 | d :: r => tCons (tOf d) (tOfs r)
end
mutual
noncomputable def litOk : PyData -> Bool
 | .none => true
 | .bool _ => true
 | .int _ => true
 | .str _ => true
 | .tuple ds => decide (ds.length <= LIM) && litsOk ds
 | .list ds => decide (ds.length <= LIM) && litsOk ds
 | .dict _ => false
noncomputable def litsOk : List PyData -> Bool
 | [] => true
 | d :: r => litOk d && litsOk r
end
section
variable {X : Cx}
theorem star_lit {n : Nat} {e : Expr} {d : PyData} {es : List Expr} (h : lit n e = some d) : starEach (e :: es) X.env = (false, eval e X.env) :: starEach es X.env := by
 cases n with
 | zero => cases h
 | succ n => cases e <;> first | rfl | (simp [lit] at h)
theorem pa_litsF {f : Expr -> Option PyData} (hf : ∀ e d, f e = some d -> PE X e (tOf d) /\ ∀ es, starEach (e :: es) X.env = (false, eval e X.env) :: starEach es X.env) : ∀ {es : List Expr} {ds : List PyData}, lits f es = some ds -> PA X es (tOfs ds)
 | [], ds, h => by cases h; exact pa_nil
 | e :: r, ds, h => by
  obtain ⟨d, e1, e2⟩ := bind_some h
  obtain ⟨us, e3, e4⟩ := Q0.mp e2
  subst e4
  exact pa_cons (hf e d e1).1 (pa_litsF hf e3) ((hf e d e1).2 r)
theorem pe_lit : ∀ (n : Nat) (e : Expr) (d : PyData), lit n e = some d -> PE X e (tOf d)
 | 0, _, _, h => by cases h
 | n + 1, e, d, h => by
  unfold lit at h
  split at h
  · cases h; exact pe_int
  · cases h; exact pe_bl
  · cases h; exact pe_non
  · cases h; exact pe_str
  · obtain ⟨us, e3, e4⟩ := Q0.mp h
    subst e4
    exact pe_tup (pa_litsF (λ e d q => ⟨pe_lit n e d q, λ es => star_lit q⟩) e3)
  · obtain ⟨us, e3, e4⟩ := Q0.mp h
    subst e4
    exact pe_lst (pa_litsF (λ e d q => ⟨pe_lit n e d q, λ es => star_lit q⟩) e3)
  · cases h
@[irreducible] noncomputable def tLits (ds : List PyData) : TA := tOfs ds
theorem pa_lits {es : List Expr} (ds : List PyData) (h : lits (lit 4) es = some ds) : PA X es (tLits ds) := by
 unfold tLits
 exact pa_litsF (λ e d q => ⟨pe_lit 4 e d q, λ es => star_lit q⟩) h
theorem ps_lits {i : Nat} {x : Str} {es : List Expr} {p1 p2 pos : Pos} (ds : List PyData) (hN : X.N.Nodup) (hi : X.N[i]? = some x) (hx : Loc X.env.scope x) (h : lits (lit 4) es = some ds) (hs : swapsWith (.List es p2) (some (.Name x p1)) pos.line X.env = pure false) (hf : X.fn x = true \/ X.env.scope.names.lookup x = some .local) :
 PS X (.Assign [.Name x p1] (.List es p2) pos) (tAsg (tLst (tLits ds)) (gName i)) := ps_set hN hi hx (pe_lst (pa_lits ds h)) hs hf
theorem pss_lits {st : Stmt} {rest : List Stmt} {t u : TS} (h1 : PS X st t) (h2 : PSs X rest u) : PSs X (st :: rest) (tSeq t u) := pss_cons h1 h2
end
section
variable {K : Fg}
noncomputable def dLits (ds : List PyData) (_ : DSt) : Option (List PyData) := some ds
mutual
theorem se_lit : ∀ (d : PyData), litOk d = true -> SE K (tOf d) (dC d)
 | .none, _ => se_non
 | .bool _, _ => se_bl
 | .int _, _ => se_int
 | .str _, _ => se_str
 | .tuple ds, h => by
  simp only [litOk, Q4, decide_eq_true_eq] at h
  have q := se_tup (sa_litsF ds h.2)
  intro H0 F0 F σ H δ d Q R e k
  refine q H0 F0 F σ H δ d Q R ?_ k
  cases e
  show ((some ds).bind λ ds => if ds.length <= LIM then some (PyData.tuple ds) else none) = _
  simp [h.1]
 | .list ds, h => by
  simp only [litOk, Q4, decide_eq_true_eq] at h
  have q := se_own (so_lst (sa_litsF ds h.2))
  intro H0 F0 F σ H δ d Q R e k
  refine q H0 F0 F σ H δ d Q R ?_ k
  cases e
  show (((some ds).bind λ ds => if ds.length <= LIM then some ds else none).map PyData.list) = _
  simp [h.1]
 | .dict _, h => by simp [litOk] at h
theorem sa_litsF : ∀ (ds : List PyData), litsOk ds = true -> SA K (tOfs ds) (dLits ds)
 | [], _ => sa_nil
 | d :: r, h => by
  simp only [litsOk, Q4] at h
  have q := sa_cons (se_lit d h.1) (sa_litsF r h.2)
  intro H0 F0 F σ H δ ds Q R e k
  refine q H0 F0 F σ H δ ds Q R ?_ k
  cases e
  rfl
end
theorem sa_lits (ds : List PyData) (h : litsOk ds = true) : SA K (tLits ds) (dLits ds) := by
 unfold tLits
 exact sa_litsF ds h
end
section
variable {X : Cx}
end
section
variable {K : Fg}
end
section
variable {X : Cx}
end
section
variable {K : Fg}
end
end DL
namespace DL
open PySem L2 PyProof.Rows
section
variable {K : Fg}
def spX (K : Fg) (n : Nat) (C : Addr) (g : List PyData -> Bool) : Sp := λ vs H _ E => ∃ F ds, SameT K F H /\ vs.length = n /\ Are K F vs ds /\ g ds = true /\ ∀ ea F' H', Grow F H F' H' -> E (.ref ea) (some C) H'
def SX (K : Fg) (E : XK) (C : Addr) (ts : TS) (fx : DSt -> Bool) : Prop := ∀ (H0 F0 F : Hp) (σ : St) (H : Hp) (δ : DSt) (D : Ends), Rep K H0 F0 F σ H δ -> fx δ = true -> (∀ ea F' H', Grow F0 H0 F' H' -> E (.ref ea) (some C) H') -> ts D σ H
def SXE (K : Fg) (E : XK) (C : Addr) (te : TE) (fx : DSt -> Bool) : Prop := ∀ (H0 F0 F : Hp) (σ : St) (H : Hp) (δ : DSt) (Q : VK), Rep K H0 F0 F σ H δ -> fx δ = true -> (∀ ea F' H', Grow F H F' H' -> E (.ref ea) (some C) H') -> te σ H Q
variable {E : XK} {C : Addr}
noncomputable def xRaise (fs : DSt -> Option (List PyData)) (δ : DSt) : Bool := match fs δ with
 | some ds => decide (ds.length <= 1000)
 | none => false
theorem are_len {F : Hp} : ∀ {xs : List V} {ds : List PyData}, Are K F xs ds -> xs.length = ds.length
 | _, [], h => by cases h; rfl
 | _, d :: ds, h => by
  obtain ⟨x, r, rfl, _, h⟩ := h
  rw [zC, zC, are_len h]
theorem sx_raise {ta : TA} {fs : DSt -> Option (List PyData)} (a : SA K ta fs) : SX K E C (tRaise C E ta) (xRaise fs) := λ H0 F0 F σ H δ D R e k => by
 unfold xRaise at e
 split at e
 · rename_i ds q
   exact a H0 F0 F σ H δ ds _ R q λ vs H' F' g ar => ⟨by rw [are_len ar]; exact small (of_decide_eq_true e), λ ea => k ea F' H' (R.g.trans g)⟩
 · cases e
noncomputable def xIf (c : DSt -> Option Bool) (fx : DSt -> Bool) (δ : DSt) : Bool := match c δ with
 | some true => fx δ
 | _ => false
theorem sx_ifT {c : TT} {fc : DSt -> Option Bool} {t u : TS} {fx : DSt -> Bool} (a : ST K c fc) (b : SX K E C t fx) : SX K E C (tIfS c t u) (xIf fc fx) := λ H0 F0 F σ H δ D R e k => by
 unfold xIf at e
 split at e
 · rename_i q
   exact a H0 F0 F σ H δ true _ R q λ H' F' g => iteT (b H0 F0 F' σ H' δ D (R.grow g) e k)
 · cases e
theorem sx_seq1 {t u : TS} {fx : DSt -> Bool} (b : SX K E C t fx) : SX K E C (tSeq t u) fx := λ H0 F0 F σ H δ D R e k => b H0 F0 F σ H δ _ R e k
noncomputable def xCall (n : Nat) (g : List PyData -> Bool) (fs : DSt -> Option (List PyData)) (δ : DSt) : Bool := match fs δ with
 | some ds => decide (ds.length = n) && g ds
 | none => false
theorem sxe_call {n : Nat} {g : List PyData -> Bool} {t : TA} {fs : DSt -> Option (List PyData)} (a : SA K t fs) : SXE K E C (tCall (spX K n C g) [] E t) (xCall n g fs) := λ H0 F0 F σ H δ Q R e k => by
 unfold xCall at e
 split at e
 · rename_i ds q
   obtain ⟨e1, e2⟩ := Bool.and_eq_true_iff.mp e
   refine a H0 F0 F σ H δ ds _ R q λ vs H' F' g' ar => ?_
   show spX K n C g (vs ++ []) H' Q E
   rw [Q5]
   exact ⟨F', ds, ⟨g'.s, R.tb.same g'.f⟩, by rw [are_len ar]; exact of_decide_eq_true e1, ar, e2, λ ea F2 H2 g2 => k ea F2 H2 (g'.trans g2)⟩
 · cases e
theorem sx_asg {te : TE} {g : TG} {fx : DSt -> Bool} (a : SXE K E C te fx) : SX K E C (tAsg te g) fx := λ H0 F0 F σ H δ D R e k => a H0 F0 F σ H δ _ R e λ ea F' H' g' => k ea F' H' (R.g.trans g')
theorem sx_ret {te : TE} {fx : DSt -> Bool} (a : SXE K E C te fx) : SX K E C (tRet te) fx := λ H0 F0 F σ H δ D R e k => a H0 F0 F σ H δ _ R e λ ea F' H' g' => k ea F' H' (R.g.trans g')
end
section
variable {P : Program} {w : World} {K : Fg} {mg : Str -> Option Value} {base : Heap}
noncomputable def runX (n : Nat) (fx : DSt -> Bool) (ds : List PyData) : Bool := fx (stD n ds)
theorem fun_okX {x qual : Str} {st : Stmt} {f : Addr} {fd : FuncData} {N ps : List Str} {k n m : Nat} {C : Addr} {fx : DSt -> Bool} (F : Fun K x qual st f fd) (S : FnScope N ps (defScope st)) (hN : N.length = n) (hm : ps.length = m)
 (hbody : ∀ (cdv : Value) (A : Around) (outer : List Env) (s : Shared) (H : Hp) (E : XK), Room k (A.deeper (envOfC qual (defScope st) s.heap.objs.size f cdv)) ->
  ∃ t, PSs (cxOf (CXF P w) P w K mg base N qual (defScope st) f cdv A outer s H E) (defBody st) t /\ SX K E C t fx) : FnOk P w K mg base (CXF P w) (k + 1) f fd ps (spX K m C (runX n fx)) := by
 subst hN hm
 obtain ⟨oc, od, kV, doc, pm, an, cdv, ct, osl, rfl, lk, hcd⟩ := F.ex
 refine fn_of lk hcd S (λ vs H Q E h => ?_) (λ A outer s H vs Q E hr h => ?_)
 · obtain ⟨F', ds, _, hl, _⟩ := h
   exact hl
 · obtain ⟨F', ds, sF, hl, ar, e, q⟩ := h
   obtain ⟨t, ht, hs⟩ := hbody cdv A outer s H E hr
   exact ⟨t, ht, hs H F' F' (L2.start N vs) H (stD N.length ds) _ (repStart sF ar) e q⟩
end
section
variable {K : Fg}
def tTold (K : Fg) (C : Addr) (i : Nat) : TS := tRet (tLst (tCons (tCB (rIsiX K) (tCons (tVar i) (tCons (tC (.ref C)) tNil))) (tCons (tCB (rIsiX K) (tCons (tVar i) (tCons (tC (.ty "ValueError")) tNil))) tNil)))
theorem told_ts {C ea : Addr} {i : Nat} {D : Ends} {σ : St} {H : Hp} (hs : σ[i]? = some (some (.ref ea))) (hH : H ea = some (XO ea C)) (k1 : PySem.W.kitOne K (.ref C) (.ref C) = some true) (k2 : PySem.W.kitOne K (.ref C) (.type "ValueError") = some true)
 (h : ∀ p, H p = none -> D.rt (.ref p) (upd H p (.lst [.bl true, .bl true]))) : tTold K C i D σ H :=
 ⟨.ref ea, hs, ea, C, .ref C, .ref C, rfl, .inl ⟨C, rfl, rfl⟩, hH, k1, .ref ea, hs, ea, C, .ty "ValueError", .type "ValueError", rfl, .inr ⟨_, rfl, rfl⟩, hH, k2, small (by decide), h⟩
noncomputable def toldD (g : List PyData -> Option PyData) (x : List PyData -> Bool) (ds : List PyData) : Option PyData := match g ds with
 | some d => some d
 | none => if x ds = true then some (.list [.bool true, .bool true]) else none
theorem told_try {Dc C : Addr} {n : Nat} {ta : TA} {fa : DSt -> Option (List PyData)} {g : List PyData -> Option PyData} {x : List PyData -> Bool} {vs : List V} {ds : List PyData} {d : PyData} {F H : Hp} {Q : VK} {N : List Str} (a : SA K ta fa) (hfa : ∀ ds : List PyData, ds.length = n -> fa (stD (n + 1) ds) = some ds)
 (hN : N.length = n + 1) (s : SameT K F H) (hl : vs.length = n) (ar : Are K F vs ds) (e : toldD g x ds = some d)
 (q : ∀ v H' F', Grow F H F' H' -> Is K F' v d -> Q v H') (hex : PySem.W.exmOne K (.ref C) (.ref Dc) = some true) (k1 : PySem.W.kitOne K (.ref C) (.ref C) = some true) (k2 : PySem.W.kitOne K (.ref C) (.type "ValueError") = some true) :
 (g ds ≠ none /\ tTry K Dc n N.length (λ _ => tRet (tCall (spD K n g) [] E0 ta)) (λ _ => tTold K C n) { nx := λ _ H' => Q .non H', rt := Q } (L2.start N vs) H) \/
 (g ds = none /\ tTry K Dc n N.length (λ E => tRet (tCall (spX K n C x) [] E ta)) (λ _ => tTold K C n) { nx := λ _ H' => Q .non H', rt := Q } (L2.start N vs) H) := by
 have R := repStart (K := K) (N := N) s ar
 have l2 : ds.length = n := by rw [<- are_len ar]; exact hl
 have ea := hfa ds l2
 rw [hN] at R ⊢
 cases hg : g ds with
 | some d' =>
  unfold toldD at e
  rw [hg] at e
  cases e
  refine .inl ⟨by simp, ?_⟩
  refine ss_ret (se_call a) H F F _ H (stD (n + 1) ds) (.rt d) _ R ?_ (λ F2 v H2 g2 i2 => q v H2 F2 g2 i2)
  show (Option.map DFlow.rt ((fa (stD (n + 1) ds)).bind λ ds => if ds.length = n then g ds else none)) = _
  rw [ea]
  show Option.map DFlow.rt (if ds.length = n then g ds else none) = _
  rw [if_pos l2, hg]
  rfl
 | none =>
  unfold toldD at e
  rw [hg] at e
  simp only at e
  split at e
  · rename_i hx
    cases e
    refine .inr ⟨rfl, ?_⟩
    refine sx_ret (sxe_call a) H F F _ H (stD (n + 1) ds) _ R ?_ (λ ea F' H' g' => ⟨C, rfl, hex, λ ea' e' hf σ' hσ => ?_⟩)
    · show (match fa (stD (n + 1) ds) with | some ds => decide (ds.length = n) && x ds | none => false) = true
      rw [ea]
      show (decide (ds.length = n) && x ds) = true
      rw [decide_eq_true l2, hx]
      rfl
    · cases e'
      refine told_ts (by rw [List.getElem?_set_self (by rw [hσ]; exact Q21 n)]) upd_same k1 k2 λ p hp => ?_
      have g1 : Grow F H F' (upd H' ea (XO ea C)) := g'.trans (Grow.fresh g'.s hf)
      have g2 := g1.trans (Grow.new (p := p) (o := .lst [.bl true, .bl true]) g1.s hp)
      exact q (.ref p) _ _ g2 ⟨p, _, rfl, upd_same, .bl true, _, rfl, rfl, .bl true, _, rfl, rfl, rfl⟩
  · cases e
end
structure OwnX (P : Program) (w : World) (K : Fg) (mg : Str -> Option Value) (base : Heap) (k : Nat) (x : Str) (ps : List Str) (sp : Sp) : Prop where
 ex : ∃ (f : Addr) (fd : FuncData), FnOk P w K mg base (CXF P w) k f fd ps sp /\ mg x = some (.ref f) /\ PySem.W.keepIn K (.ref f) = true /\ Binds K fd ps []
section
variable {X : Cx}
theorem pe_ownX {k n : Nat} {x : Str} {ps : List Str} {sp : Sp} {p pos : Pos} {e : Expr} {es : List Expr} {t : TA} {E : XK} (O : OwnX X.prog X.w X.K X.mg X.base k x ps sp) (hr : Room n X.A) (hx : Passes (CXF X.prog X.w) X E) (ha : PA X (e :: es) t) (hkn : k <= n := by decide) (hg : Gl X x := by rfl)
 (hdb : (x == ("__debug__" : Str)) = false := by decide) (he : starEach (e :: es) X.env = (false, eval e X.env) :: starEach es X.env := by rfl) (hpl : (backTo pos (starEach es X.env)).any (·.1) = false := by rfl) :
 PE X (.Call (.Name x p) (e :: es) [] pos) (tCall sp [] E t) := by
 obtain ⟨f, fd, F, m, kp, b⟩ := O.ex
 exact pe_call F (hr.mono hkn) hg m kp b .nil hx ha hdb he hpl
end
end DL
namespace DL
open PySem PySem.Spec PyProof.Rows L2
noncomputable def fnD (nm : Str) : PyData := .dict [(.bool true, .str nm)]
structure OwnN (P : Program) (w : World) (K : Fg) (mg : Str -> Option Value) (base : Heap) (k : Nat) (x : Str) (ps : List Str) (sp : Sp) : Prop where
 ex : ∃ (f : Addr) (fd : FuncData), FnOk P w K mg base CX0 k f fd ps sp /\ PySem.W.nsIn K mainGlobals x = some (some (.ref f)) /\ PySem.W.keepIn K (.ref f) = true /\ Binds K fd ps []
def tCallV (K : Fg) (i : Nat) (nm : Str) (sp : Sp) (t : TA) : TE := λ σ H Q => ∃ f, σ[i]? = some (some (.ref f)) /\ PySem.W.nsIn K mainGlobals nm = some (some (.ref f)) /\ t σ H λ vs H1 => sp (vs ++ []) H1 Q E0
theorem pe_ownV {X : Cx} {k n i : Nat} {x nm : Str} {ps : List Str} {sp : Sp} {p pos : Pos} {e : Expr} {es : List Expr} {t : TA} (O : OwnN X.prog X.w X.K X.mg X.base k nm ps sp) (hr : Room n X.A) (hv : PE X (.Name x p) (tVar i)) (ha : PA X (e :: es) t) (hkn : k <= n := by decide)
 (he : starEach (e :: es) X.env = (false, eval e X.env) :: starEach es X.env := by rfl) (hpl : (backTo pos (starEach es X.env)).any (·.1) = false := by rfl) :
 PE X (.Call (.Name x p) (e :: es) [] pos) (tCallV X.K i nm sp t) := by
 intro pins s σ H Q I h
 obtain ⟨f, hs, hn, h⟩ := h
 obtain ⟨f', fd, F, m, kp, b⟩ := O.ex
 rw [hn] at m
 cases m
 refine wpAny_Call_Name_kw (thn (hv pins s σ H (λ v H1 => v = .ref f /\ H1 = H) I ⟨_, hs, rfl, rfl⟩) λ u s1 ⟨v, H1, I1, r, q⟩ => ?_)
 obtain ⟨rfl, rfl⟩ := q
 obtain rfl : u = .ref f := r
 refine PySem.W.callWith_K (h₀ := X.base) I1.ok.mod.kin kp (thn (ha pos pins s1 σ _ _ I1 h) λ us s2 ⟨vs, H2, I2, r2, q2⟩ => ⟨I2.kIn, ?_⟩) he hpl
 exact run_fn F (hr.mono hkn) b .nil pass0 I2 r2 q2
section
variable {K : Fg}
theorem se_fn {a : Addr} {nm : Str} (h : PySem.W.nsIn K mainGlobals nm = some (some (.ref a))) : SE K (tC (.ref a)) (dC (fnD nm)) := by
 intro H0 F0 F σ H δ d Q R e k
 cases e
 exact k (.ref a) H F (Grow.refl R.g.s) ⟨a, rfl, .inr (.inr (.inl ⟨nm, rfl, h⟩))⟩
noncomputable def isFn (nm : Str) : PyData -> Bool
 | .dict [(.bool true, .str x)] => x == nm
 | _ => false
theorem isFn_self (nm : Str) : isFn nm (fnD nm) = true := by
 show (nm == nm) = true
 simp
noncomputable def dCallV (i : Nat) (nm : Str) (n : Nat) (g : List PyData -> Option PyData) (fs : DSt -> Option (List PyData)) (δ : DSt) : Option PyData := (dVar i δ).bind λ d => if isFn nm d = true then dOwnCall n g fs δ else none
theorem se_callV {i n : Nat} {nm : Str} {g : List PyData -> Option PyData} {t : TA} {fs : DSt -> Option (List PyData)} (a : SA K t fs) : SE K (tCallV K i nm (spD K n g) t) (dCallV i nm n g fs) := by
 intro H0 F0 F σ H δ d Q R e h
 obtain ⟨d0, e1, e2⟩ := bind_some e
 split at e2
 · rename_i hd
   have hf : d0 = fnD nm := by
    unfold isFn at hd
    split at hd
    · rw [show _ = nm from eq_of_beq hd]; rfl
    · cases hd
   subst hf
   unfold dVar at e1
   split at e1
   · rename_i d1 e0
     cases e1
     obtain ⟨v, hv, a0, rfl, hh⟩ := R.fz i _ e0
     rcases hh with ⟨ns, z, _⟩ | ⟨m, z, kv⟩ | ⟨nm', z, hn⟩ | ⟨m, z, kv⟩
     · cases z
     · obtain ⟨q, m', _, q2, _⟩ := kv
       cases q2.1
     · cases z
       exact ⟨a0, hv, hn, se_call (K := K) a H0 F0 F σ H δ d Q R e2 h⟩
     · cases kv.1
   · cases e1
 · cases e2
end
end DL
namespace SRT
open PySem PySem.W PyProof.Rows
noncomputable def Sat {α : Type} (lt : Nat -> Nat -> Bool) (n : Nat) : KasT α -> (α -> Prop) -> Prop
 | .ret a, Q => Q a
 | .ask i j k, Q => i < n /\ j < n /\ Sat lt n (k (lt i j)) Q
theorem sat_mono {α : Type} {lt : Nat -> Nat -> Bool} {n : Nat} {Q Q' : α -> Prop} (h : ∀ a, Q a -> Q' a) : ∀ {t : KasT α}, Sat lt n t Q -> Sat lt n t Q'
 | .ret a, q => h a q
 | .ask i j k, q => ⟨q.1, q.2.1, sat_mono h q.2.2⟩
theorem sat_bind {α β : Type} {lt : Nat -> Nat -> Bool} {n : Nat} {f : α -> KasT β} {Q : β -> Prop} : ∀ {t : KasT α}, Sat lt n t (λ a => Sat lt n (f a) Q) -> Sat lt n (t.bind f) Q
 | .ret a, q => q
 | .ask i j k, q => ⟨q.1, q.2.1, sat_bind q.2.2⟩
theorem sat_wp {α : Type} {lt : Nat -> Nat -> Bool} {n : Nat} {cmp : Nat -> Nat -> (Bool -> Shared -> Prop) -> Shared -> Prop} {J : Shared -> Prop} (hc : ∀ i j C s, i < n -> j < n -> J s -> (∀ s', J s' -> C (lt i j) s') -> cmp i j C s) {Q : α -> Prop} {Q' : α -> Shared -> Prop}
 (h : ∀ a s, Q a -> J s -> Q' a s) : ∀ {t : KasT α} {s : Shared}, J s -> Sat lt n t Q -> t.kasWp cmp Q' s
 | .ret a, s, js, q => h a s q js
 | .ask i j k, s, js, q => hc i j _ s q.1 q.2.1 js λ s' js' => sat_wp hc h js' q.2.2
noncomputable def g (p : Array Nat) (i : Nat) : Nat := (p[i]?).getD 0
theorem getD_g (p : Array Nat) (i : Nat) : p.getD i 0 = g p i := by unfold g; rw [Array.getD_eq_getD_getElem?]
structure Ord (lt : Nat -> Nat -> Bool) (n : Nat) : Prop where
 tr : ∀ a b c, lt a b = true -> lt b c = true -> lt a c = true
 to : ∀ a b, a < n -> b < n -> a ≠ b -> lt a b = false -> lt b a = true
structure Pm (n : Nat) (p : Array Nat) : Prop where
 sz : p.size = n
 lt : ∀ i, i < n -> g p i < n
 inj : ∀ i j, i < n -> j < n -> g p i = g p j -> i = j
 pe : p.Perm (List.range n).toArray
def Asc (lt : Nat -> Nat -> Bool) (p : Array Nat) (m : Nat) : Prop := ∀ i j, i < j -> j < m -> lt (g p i) (g p j) = true
def Dsc (lt : Nat -> Nat -> Bool) (p : Array Nat) (m : Nat) : Prop := ∀ i j, i < j -> j < m -> lt (g p j) (g p i) = true
theorem pm_of {n : Nat} {p : Array Nat} (h : p.Perm (List.range n).toArray) : Pm n p := by
 have hl : p.toList.Perm (List.range n) := by simpa using Q28.mp h
 have hz : p.size = n := by rw [<- Qf, hl.length_eq, Q20]
 have hnd : p.toList.Nodup := hl.nodup_iff.mpr List.nodup_range
 have hg : ∀ i (hi : i < p.toList.length), g p i = p.toList[i] := λ i hi => by
  unfold g
  rw [<- Q1b, gEq hi]
  rfl
 have hlen : p.toList.length = n := by rw [Qf]; exact hz
 refine ⟨hz, λ i hi => ?_, λ i j hi hj e => ?_, h⟩
 · rw [hg i (by omega)]
   have := hl.mem_iff.mp (Q17 (l := p.toList) (n := i) (by omega))
   simpa using this
 · rw [hg i (by omega), hg j (by omega)] at e
   exact (List.getElem_inj hnd).mp e
section
variable {lt : Nat -> Nat -> Bool} {n : Nat} (O : Ord lt n)
include O
theorem asc_snoc {p : Array Nat} {m : Nat} (h1 : 1 <= m) (a : Asc lt p m) (l : lt (g p (m - 1)) (g p m) = true) : Asc lt p (m + 1) := λ i j hij hj => by
 by_cases e : j = m
 · subst e
   by_cases e2 : i = j - 1
   · rw [e2]; exact l
   · exact O.tr _ _ _ (a i (j - 1) (by omega) (by omega)) l
 · exact a i j hij (by omega)
theorem dsc_snoc {p : Array Nat} {m : Nat} (h1 : 1 <= m) (a : Dsc lt p m) (l : lt (g p m) (g p (m - 1)) = true) : Dsc lt p (m + 1) := λ i j hij hj => by
 by_cases e : j = m
 · subst e
   by_cases e2 : i = j - 1
   · rw [e2]; exact l
   · exact O.tr _ _ _ l (a i (j - 1) (by omega) (by omega))
 · exact a i j hij (by omega)
theorem asc_ok {p : Array Nat} (P : Pm n p) : ∀ (f m : Nat), 1 <= m -> m + f = n -> Asc lt p m -> Sat lt n (kas_asc p f m) (λ r => m <= r /\ r <= n /\ Asc lt p r /\ (r < n -> lt (g p r) (g p (r - 1)) = true))
 | 0, m, h1, hm, a => ⟨Q1 _, by omega, a, λ z => absurd z (by omega)⟩
 | f + 1, m, h1, hm, a => by
  unfold kas_asc
  rw [getD_g, getD_g]
  refine ⟨P.lt _ (by omega), P.lt _ (by omega), ?_⟩
  cases c : lt (g p m) (g p (m - 1)) with
  | true => exact ⟨Q1 _, by omega, a, λ _ => c⟩
  | false =>
   have l := O.to _ _ (P.lt m (by omega)) (P.lt (m - 1) (by omega)) (λ e => by have := P.inj m (m - 1) (by omega) (by omega) e; omega) c
   exact sat_mono (λ r q => ⟨by omega, q.2⟩) (asc_ok P f (m + 1) (by omega) (by omega) (asc_snoc O h1 a l))
theorem desc_ok {p : Array Nat} (P : Pm n p) : ∀ (f m : Nat), 1 <= m -> m + f = n -> Dsc lt p m -> Sat lt n (kas_desc f p m 0) (λ r => r.1 = p /\ r.2.2 = 0 /\ m <= r.2.1 /\ r.2.1 <= n /\ Dsc lt p r.2.1)
 | 0, m, h1, hm, a => ⟨rfl, rfl, Q1 _, by show m <= n; omega, a⟩
 | f + 1, m, h1, hm, a => by
  unfold kas_desc
  rw [getD_g, getD_g]
  refine ⟨P.lt _ (by omega), P.lt _ (by omega), ?_⟩
  cases c : lt (g p m) (g p (m - 1)) with
  | true => exact sat_mono (λ r q => ⟨q.1, q.2.1, by omega, q.2.2.2⟩) (desc_ok P f (m + 1) (by omega) (by omega) (dsc_snoc O h1 a c))
  | false =>
   have l := O.to _ _ (P.lt m (by omega)) (P.lt (m - 1) (by omega)) (λ e => by have := P.inj m (m - 1) (by omega) (by omega) e; omega) c
   refine ⟨P.lt _ (by omega), P.lt _ (by omega), ?_⟩
   rw [l]
   exact ⟨rfl, rfl, Q1 _, by show m <= n; omega, a⟩
omit O in
theorem rev_pm {p : Array Nat} (P : Pm n p) (i j : Nat) : Pm n (kas_rev p i j) := pm_of ((mirror_perm _ _ _ _).trans P.pe)
omit O in
theorem rev_asc {p : Array Nat} (P : Pm n p) {m : Nat} (hm : m <= n) (a : Dsc lt p m) : Asc lt (kas_rev p 0 m) m := λ i j hij hj => by
 have e : ∀ k, k < m -> g (kas_rev p 0 m) k = g p (m - 1 - k) := λ k hk => by
  unfold g kas_rev
  rw [getElem?_mirror_all (by rw [P.sz]; exact hm), if_pos ⟨zU _, hk⟩, Nat.zero_add]
 rw [e i (by omega), e j hj]
 exact a _ _ (by omega) (by omega)
theorem count_ok {p : Array Nat} (P : Pm n p) (hn : 2 <= n) : Sat lt n (kas_count n p) (λ r => 1 <= r.1 /\ r.1 <= n /\ Pm n r.2 /\ Asc lt r.2 r.1) := by
 unfold kas_count
 refine sat_bind (sat_mono (λ m q_ => ?_) (asc_ok O P (n - 1) 1 (Q1 _) (by omega) (λ i j hij hj => by omega)))
 obtain ⟨h1, h2, a, h3⟩ := q_
 split
 · exact ⟨h1, h2, P, a⟩
 · rename_i ne
   have hm : m < n := by
    have : m ≠ n := λ z => ne (by rw [z]; exact beq_self_eq_true n)
    omega
   split
   · rename_i g1
     rw [getD_g, getD_g]
     refine ⟨P.lt _ (by omega), P.lt _ (by omega), ?_⟩
     rw [a 0 (m - 1) (by omega) (by omega)]
     exact ⟨h1, h2, P, a⟩
   · rename_i g1
     have m1 : m = 1 := by omega
     subst m1
     unfold kas_descPart
     refine sat_bind (sat_mono (λ r ⟨q1, q2, q3, q4, q5⟩ => ?_) (desc_ok O P (n - (1 + 1)) (1 + 1) (by omega) (by omega) (λ i j hij hj => ?_)))
     · have : i = 0 := by omega
       have : j = 1 := by omega
       subst i j
       exact h3 (by omega)
     · rw [q2, if_neg (by omega), q1]
       unfold kas_tail3
       refine sat_bind (sat_mono (λ m q_ => ?_) (asc_ok O (rev_pm P 0 r.2.1) (n - r.2.1) r.2.1 (by omega) (by omega) (rev_asc P q4 q5)))
       obtain ⟨h1, h2, a, h3⟩ := q_
       exact ⟨by show 1 <= m; omega, h2, rev_pm P 0 r.2.1, a⟩
theorem place_ok {p : Array Nat} (P : Pm n p) {k : Nat} (hk : k < n) (a : Asc lt p k) : ∀ (f l r : Nat), l <= r -> r <= k -> r - l <= f -> (∀ i, i < l -> lt (g p i) (g p k) = true) -> (∀ i, r <= i -> i < k -> lt (g p k) (g p i) = true) ->
 Sat lt n (kas_place p k f l r) (λ m => m <= k /\ (∀ i, i < m -> lt (g p i) (g p k) = true) /\ ∀ i, m <= i -> i < k -> lt (g p k) (g p i) = true)
 | 0, l, r, h1, h2, h3, b1, b2 => ⟨by omega, b1, λ i hi hk => b2 i (by omega) hk⟩
 | f + 1, l, r, h1, h2, h3, b1, b2 => by
  unfold kas_place
  split
  · exact ⟨by omega, b1, λ i hi hk => b2 i (by omega) hk⟩
  · rename_i hlr
    rw [getD_g, getD_g]
    have hmid : (l + r) / 2 < r := by omega
    refine ⟨P.lt _ hk, P.lt _ (by omega), ?_⟩
    cases c : lt (g p k) (g p ((l + r) / 2)) with
    | true =>
     refine place_ok P hk a f l ((l + r) / 2) (by omega) (by omega) (by omega) b1 λ i hi hik => ?_
     by_cases e : i = (l + r) / 2
     · rw [e]; exact c
     · exact O.tr _ _ _ c (a _ i (by omega) hik)
    | false =>
     have q := O.to _ _ (P.lt k hk) (P.lt ((l + r) / 2) (by omega)) (λ e => by have := P.inj _ _ hk (by omega) e; omega) c
     refine place_ok P hk a f ((l + r) / 2 + 1) r (by omega) h2 (by omega) (λ i hi => ?_) b2
     by_cases e : i = (l + r) / 2
     · rw [e]; exact q
     · exact O.tr _ _ _ (a i _ (by omega) (by omega)) q
theorem bin_ok : ∀ (f : Nat) {p : Array Nat} (_ : Pm n p) (k : Nat), k + f = n -> Asc lt p k -> Sat lt n (kas_bin f p k) (λ q => Pm n q /\ Asc lt q n)
 | 0, p, P, k, hk, a => ⟨P, by rw [<- hk]; exact a⟩
 | f + 1, p, P, k, hk, a => by
  unfold kas_bin
  refine sat_bind (sat_mono (λ l q_ => ?_) (place_ok O P (by omega) a k 0 k (zU _) (Q1 _) (by omega) (λ i hi => absurd hi (Nat.not_lt_zero _)) (λ i hi hk => by omega)))
  obtain ⟨hl, b1, b2⟩ := q_
  have e : ∀ i, i <= k -> g (bubble p k (k - l)) i = if i = l then g p k else if l < i then g p (i - 1) else g p i := λ i hi => by
   unfold g
   rw [getElem?_bubble (by rw [P.sz]; omega) (k - l) (by omega)]
   by_cases c1 : i = l
   · rw [if_pos (by omega), if_pos c1]
   · rw [if_neg (by omega), if_neg c1]
     by_cases c2 : l < i
     · rw [if_pos (by omega), if_pos c2]
     · rw [if_neg (by omega), if_neg c2]
  refine bin_ok f (pm_of ((bubble_perm _ _ _).trans P.pe)) (k + 1) (by omega) λ i j hij hj => ?_
  rw [e i (by omega), e j (by omega)]
  by_cases c1 : i = l
  · rw [if_pos c1, if_neg (by omega), if_pos (by omega)]
    exact b2 _ (by omega) (by omega)
  · rw [if_neg c1]
    by_cases c2 : j = l
    · rw [if_pos c2, if_neg (by omega)]
      exact b1 _ (by omega)
    · rw [if_neg c2]
      by_cases c3 : l < i
      · rw [if_pos c3, if_pos (by omega)]
        exact a _ _ (by omega) (by omega)
      · rw [if_neg c3]
        by_cases c4 : l < j
        · rw [if_pos c4]
          exact a _ _ (by omega) (by omega)
        · rw [if_neg c4]
          exact a _ _ hij (by omega)
theorem sort_ok (hn : 2 <= n) : Sat lt n (kas_sort n) (λ q => Pm n q /\ Asc lt q n) := by
 unfold kas_sort
 refine sat_bind (sat_mono (λ r q_ => ?_) (count_ok O (pm_of (Array.Perm.refl _)) hn))
 obtain ⟨h1, h2, P, a⟩ := q_
 split
 · have : max r.1 1 = r.1 := by omega
   rw [this]
   exact bin_ok O _ P r.1 (by omega) a
 · have : r.1 = n := by omega
   exact ⟨P, by rw [<- this]; exact a⟩
end
end SRT
namespace L2
open PySem PySem.Spec PyProof.Rows PySem.W Att
noncomputable def lexI : List Int -> List Int -> Bool
 | [], [] => false
 | [], _ :: _ => true
 | _ :: _, [] => false
 | a :: x, c :: y => if a = c then lexI x y else decide (a < c)
noncomputable def lexB (fin : Bool) : List Int -> List Int -> Bool
 | a :: x, c :: y => if a = c then lexB fin x y else decide (a < c)
 | _, _ => fin
theorem lexB_eq : ∀ (x y : List Int), lexB (decide (x.length < y.length)) x y = lexI x y
 | [], [] => rfl
 | [], _ :: _ => by simp [lexB, lexI]
 | _ :: _, [] => by simp [lexB, lexI]
 | a :: x, c :: y => by
  have e : decide ((a :: x).length < (c :: y).length) = decide (x.length < y.length) := by simp
  rw [e]
  unfold lexB lexI
  rw [lexB_eq x y]
theorem lexI_tr : ∀ (x y z : List Int), lexI x y = true -> lexI y z = true -> lexI x z = true
 | [], [], _, h, _ => by cases h
 | [], _ :: _, [], _, h => by cases h
 | [], _ :: _, _ :: _, _, _ => rfl
 | _ :: _, [], _, h, _ => by cases h
 | _ :: _, _ :: _, [], _, h => by cases h
 | a :: x, b :: y, c :: z, h1, h2 => by
  unfold lexI at h1 h2 ⊢
  by_cases e1 : a = b
  · rw [if_pos e1] at h1
    by_cases e2 : b = c
    · rw [if_pos e2] at h2
      rw [if_pos (e1.trans e2)]
      exact lexI_tr x y z h1 h2
    · rw [if_neg e2] at h2
      rw [if_neg (by omega), e1]
      exact h2
  · rw [if_neg e1] at h1
    have l1 := of_decide_eq_true h1
    by_cases e2 : b = c
    · rw [if_neg (by omega), <- e2]
      exact h1
    · rw [if_neg e2] at h2
      have l2 := of_decide_eq_true h2
      rw [if_neg (by omega)]
      exact decide_eq_true (by omega)
theorem lexI_to : ∀ (x y : List Int), x ≠ y -> lexI x y = false -> lexI y x = true
 | [], [], h, _ => absurd rfl h
 | [], _ :: _, _, h => by cases h
 | _ :: _, [], _, _ => rfl
 | a :: x, c :: y, hn, h => by
  unfold lexI at h ⊢
  by_cases e : a = c
  · rw [if_pos e] at h
    rw [if_pos e.symm]
    exact lexI_to x y (λ z => hn (by rw [e, z])) h
  · rw [if_neg e] at h
    rw [if_neg (λ z => e z.symm)]
    have := of_decide_eq_false h
    exact decide_eq_true (by omega)
section
variable {prog : Program} {w : World} {A : Around} {E : Value -> Shared -> Prop} {s : Shared} {b : Bool} {Q : Bool -> Shared -> Prop}
theorem oneLt_ints {p : Bool} {x y : Int} {t u : Tok} (h : Q (decide (x < y)) s) : wpAny (model prog w) A (oneLt' p (.int x t) (.int y u)) Q E s := by
 cases p with
 | true => exact oneLt_int h
 | false => exact kat_one _ _ (lt_int h)
theorem katlex_ints {fin : Bool} {xs ys : List Value} {ns ms : List Int} (hx : IntsAre xs ns) (hy : IntsAre ys ms) : ∀ i, Q (lexB fin ns ms) s -> KatLex prog w A b fin Q (xs.zip ys) i s := by
 induction hx generalizing ys ms with
 | nil => exact λ i h => kat_nil h
 | cons a t hx ih =>
  intro i h
  cases hy with
  | nil => exact kat_nil h
  | cons c u hy =>
   refine kat_cons (wpAny_eqBool_int ?_)
   unfold lexB at h
   by_cases e : a = c
   · rw [if_pos e] at h
     rw [show (a == c) = true from beq_iff_eq.mpr e]
     exact kat_yes (ih hy (i + 1) h)
   · rw [if_neg e] at h
     rw [show (a == c) = false from beq_eq_false_iff_ne.mpr e]
     exact kat_no (oneLt_ints h)
end
def TpI (h : Heap) (v : Value) (k : List Int) : Prop := ∃ a o arr n, v = .ref a /\ h.get? a = some o /\ o.cls = .type "tuple" /\ o.data = .seq arr n /\ IntsAre arr.toList k
theorem TpI.firsts {h : Heap} {vs : List Value} {ks : List (List Int)} (p : Paired (TpI h) vs ks) (hp : ∀ k ∈ ks, k ≠ []) : ∃ fs, KatTups h vs fs /\ fs.length = vs.length /\ ∀ f ∈ fs, ∃ n t, f = Value.int n t := by
 induction p with
 | nil => exact ⟨[], KatTups.nil, rfl, λ f hf => nomatch hf⟩
 | cons q r ih =>
  obtain ⟨a, o, arr, n, e1, e2, e3, e4, e5⟩ := q
  obtain ⟨fs, h1, h2, h3⟩ := ih λ k hk => hp k (lMc _ hk)
  subst e1
  have ne := hp _ lMs
  generalize hl : arr.toList = l at e5
  cases e5 with
  | nil => exact absurd rfl ne
  | cons x t hx =>
   refine ⟨.int x t :: fs, KatTups.cons e2 e3 e4 (by rw [<- Q1b, hl]; rfl) h1, by rw [zC, zC, h2], λ f hf => ?_⟩
   rcases Q2.mp hf with rfl | hf
   · exact ⟨x, t, rfl⟩
   · exact h3 f hf
theorem pgetD {α β : Type} {R : α -> β -> Prop} {x : α} {y : β} : ∀ {l : List α} {m : List β} (i : Nat), Paired R l m -> i < l.length -> R (l.getD i x) (m.getD i y)
 | _, _, _, .nil, h => absurd h (Nat.not_lt_zero _)
 | _, _, 0, .cons r _, _ => r
 | _ :: _, _ :: _, i + 1, .cons _ t, h => pgetD i t (Nat.lt_of_succ_lt_succ h)
section
variable {prog : Program} {w : World} {A : Around} {E : Value -> Shared -> Prop} {s : Shared}
theorem lsort_tups2 {L D : Addr} {m : Str -> Option Value} {c : Nat} {vs : List Value} {ks : List (List Int)} {Q : Value -> Shared -> Prop} (hL : s.heap.Ns L m) (hne : D ≠ L) (hD : s.heap.get? D = some (listOf vs.toArray c)) (ht : Paired (TpI s.heap) vs ks)
 (hnd : ks.Nodup) (hpos : ∀ k ∈ ks, k ≠ []) (h2 : 2 <= vs.length) (h64 : vs.length < 64)
 (k : ∀ h' c' (q : Array Nat), (∀ b o, b ≠ L -> b ≠ D -> s.heap.get? b = some o -> h'.get? b = some o) -> h'.Ns L m -> h'.get? D = some (listOf (q.toList.map λ i => vs.getD i .none).toArray c') ->
  SRT.Pm vs.length q -> SRT.Asc (λ i j => lexI (ks.getD i []) (ks.getD j [])) q vs.length -> Q .none { s with heap := h' }) :
 wpAny (model prog w) A (call (.builtin "list.sort") [.ref D]) Q E s := by
 have hlen : vs.length = ks.length := Paired.length ht
 have led : ∀ p ∈ ledger s.heap L D, p.1 ≠ D := λ ⟨_, _⟩ hp => (mem_ledger.mp hp).2.1
 refine kat_lsort (h₀ := noObjs s.heap) (L := L) (m := m) (news := (D, listOf vs.toArray c) :: ledger s.heap L D) (g := λ o => (D, o) :: ledger s.heap L D) (its := vs.toArray) (fr_all hL) (news_ledger hne hD) (.head led) (by simp) h2 h64 λ e1 h' F' N' => ?_
 have keep : ∀ b o, b ≠ L -> b ≠ D -> s.heap.get? b = some o -> h'.get? b = some o := λ b o n1 n2 e => (N' (b, o) (lMc _ (mem_ledger.mpr ⟨n1, n2, e⟩))).1
 obtain ⟨oL, esL, epL, hoL, hdL, _⟩ := hL
 have tup : ∀ {v : Value} {kk : List Int}, TpI s.heap v kk -> TpI h' v kk := λ q => by
  obtain ⟨a, o, arr, n, e1, e2, e3, e4, e5⟩ := q
  exact ⟨a, o, arr, n, e1, keep a o (λ z => by rw [z, hoL] at e2; cases e2; rw [hdL] at e4; cases e4) (λ z => by rw [z, hD] at e2; cases e2; exact absurd (Value.type.inj e3) (by decide)) e2, e3, e4, e5⟩
 have ht' : Paired (TpI h') vs ks := Paired.mapP ht λ a b q => tup q
 obtain ⟨fs, t1, t2, t3⟩ := TpI.firsts ht' hpos
 refine kat_kind (T := .type "int") t1 (by omega) (λ v hv => by obtain ⟨n, t, rfl⟩ := t3 v hv; exact Looks.of_pure rfl) rfl ?_
 have O : SRT.Ord (λ i j => lexI (ks.getD i []) (ks.getD j [])) vs.length := ⟨λ a b c => lexI_tr _ _ _, λ a b ha hb hab => lexI_to _ _ λ e => hab (by
  rw [gDq, gDq, gEq (by omega), gEq (by omega)] at e
  exact (List.getElem_inj hnd).mp e)⟩
 refine SRT.sat_wp (lt := λ i j => lexI (ks.getD i []) (ks.getD j [])) (n := vs.length) (J := λ s' => s' = { s with heap := h' }) (λ i j C s' hi hj js hC => ?_) (λ p s' hp js => ?_) rfl (SRT.sort_ok O h2)
 · subst js
   obtain ⟨a1, o1, r1, n1, x1, x2, x3, x4, x5⟩ := pgetD (x := Value.none) (y := []) i ht' hi
   obtain ⟨a2, o2, r2, n2, y1, y2, y3, y4, y5⟩ := pgetD (x := Value.none) (y := []) j ht' hj
   unfold kas_ask
   rw [x1, y1]
   refine kat_lt x2 x4 y2 y4 (katlex_ints x5 y5 0 ?_)
   have z1 : r1.size = (ks.getD i []).length := by rw [<- Qf]; exact x5.length
   have z2 : r2.size = (ks.getD j []).length := by rw [<- Qf]; exact y5.length
   rw [z1, z2, lexB_eq]
   exact hC _ rfl
 · subst js
   refine KasFin.intro F' N' (.head led) λ h'' c' F'' N'' => ?_
   exact k h'' c' p (λ b o n1 n2 e => (N'' (b, o) (lMc _ (mem_ledger.mpr ⟨n1, n2, e⟩))).1) F''.ns (N'' _ lMs).1 hp.1 hp.2
theorem lsort_short {D : Addr} {c : Nat} {vs : List Value} {Q : Value -> Shared -> Prop} (hD : s.heap.get? D = some (listOf vs.toArray c)) (h2 : vs.length < 2)
 (k : ∀ h' c', (∀ b o, b ≠ D -> s.heap.get? b = some o -> h'.get? b = some o) -> h'.get? D = some (listOf vs.toArray c') -> Q .none { s with heap := h' }) : wpAny (model prog w) A (call (.builtin "list.sort") [.ref D]) Q E s := by
 refine wpAny_call_entry slot_list_sort ⟨_, hD, rfl⟩ entry_list_sort ?_ (args_list_sort _); rw [list_sort_plain]
 have ha : D < s.heap.objs.size := hLs hD
 refine wB (listItems_at hD rfl ?_); refine wB (listUpdate_at hD rfl ?_ (hsz := by rw [zM, sizeLine_eq]; omega))
 obtain ⟨e1, ho1⟩ : ∃ e1, (s.heap.update D (Obj.mapSeq λ _ => #[])).get? D = some (seqObj "list" #[] e1) := ⟨_, get?_update_seq hD (λ _ => #[])⟩
 have kk : ∀ b o, b ≠ D -> s.heap.get? b = some o -> (s.heap.update D (Obj.mapSeq λ _ => #[])).get? b = some o := λ b o nb e => (hUo _ _ (Ne.symm nb)).trans e
 generalize s.heap.update D (Obj.mapSeq λ _ => #[]) = G0 at ho1 kk
 refine wB (seqEpoch_at ho1 rfl ?_); refine wB (wpAny_newTuple ?_ (by rw [List.toList_toArray, sizeLine_eq]; omega)); refine wB (wpAny_newList ?_); refine wpAny_holding ?_
 have ho2 := hPo (seqObj "list" #[] 0) (hPo (seqObj "tuple" vs.toArray 0) ho1)
 have k2 : ∀ b o, b ≠ D -> s.heap.get? b = some o -> ((G0.push (seqObj "tuple" vs.toArray 0)).push (seqObj "list" #[] 0)).get? b = some o := λ b o nb e => hPo _ (hPo _ (kk b o nb e))
 show wpAny (model prog w) _ _ _ _ { s with heap := (G0.push (seqObj "tuple" vs.toArray 0)).push (seqObj "list" #[] 0) }
 generalize (G0.push (seqObj "tuple" vs.toArray 0)).push (seqObj "list" #[] 0) = G at ho2 k2
 have h2' : vs.toArray.size < 2 := by rw [zM]; exact h2
 rw [if_pos h2', if_pos h2']; refine wB (wP ?_); dsimp only; rw [StateT.run_pure]; refine wB (wP ?_); dsimp only
 have out : (arrOf (SortSt.mk' general' (vs.toArray.zip vs.toArray) #[] 7 none)).map (·.2) = vs.toArray := by
  show (vs.toArray.zip vs.toArray).map (·.2) = vs.toArray
  rcases vs with _ | ⟨v, _ | ⟨u, r⟩⟩
  · simp
  · simp
  · exact absurd h2 (Nat.not_lt.mpr (Nat.le_add_left 2 _))
 rw [out]
 refine wB (seqEpoch_at ho2 rfl ?_); refine wB (listUpdate_at ho2 rfl ?_ (hsz2 := by show vs.toArray.size <= _; rw [sizeLine_eq]; omega))
 simp only [bne_self_eq_false, zN, if_false]
 exact wP ⟨_, rfl, k _ _ (λ b o nb e => (hUo _ _ (Ne.symm nb)).trans (k2 b o nb e)) (get?_update_seq ho2 (λ _ => vs.toArray))⟩
theorem pm_short {n : Nat} (h : n < 2) (lt : Nat -> Nat -> Bool) : SRT.Pm n (Array.range n) /\ SRT.Asc lt (Array.range n) n := by
 refine ⟨SRT.pm_of (by rw [show Array.range n = (List.range n).toArray by simp]), λ i j hij hj => ?_⟩
 omega
theorem out_short {vs : List Value} (h : vs.length < 2) : ((Array.range vs.length).toList.map λ i => vs.getD i .none) = vs := by
 rcases vs with _ | ⟨v, _ | ⟨u, r⟩⟩
 · rfl
 · rfl
 · exact absurd h (Nat.not_lt.mpr (Nat.le_add_left 2 _))
theorem lsort_tups {L D : Addr} {m : Str -> Option Value} {c : Nat} {vs : List Value} {ks : List (List Int)} {Q : Value -> Shared -> Prop} (hL : s.heap.Ns L m) (hne : D ≠ L) (hD : s.heap.get? D = some (listOf vs.toArray c)) (ht : Paired (TpI s.heap) vs ks)
 (hnd : ks.Nodup) (hpos : ∀ k ∈ ks, k ≠ []) (h64 : vs.length < 64)
 (k : ∀ h' c' (q : Array Nat), (∀ b o, b ≠ L -> b ≠ D -> s.heap.get? b = some o -> h'.get? b = some o) -> h'.Ns L m -> h'.get? D = some (listOf (q.toList.map λ i => vs.getD i .none).toArray c') ->
  SRT.Pm vs.length q -> SRT.Asc (λ i j => lexI (ks.getD i []) (ks.getD j [])) q vs.length -> Q .none { s with heap := h' }) :
 wpAny (model prog w) A (call (.builtin "list.sort") [.ref D]) Q E s := by
 by_cases h2 : 2 <= vs.length
 · exact lsort_tups2 hL hne hD ht hnd hpos h2 h64 k
 · have h2' : vs.length < 2 := by omega
   obtain ⟨p1, p2⟩ := pm_short h2' (λ i j => lexI (ks.getD i []) (ks.getD j []))
   exact lsort_short hD h2' λ h' c' kp hD' => k h' c' (Array.range vs.length) (λ b o _ nb e => kp b o nb e) (by obtain ⟨o, es, ep, e1, e2⟩ := hL; exact ⟨o, es, ep, kp _ _ hne.symm e1, e2⟩) (by rw [out_short h2']; exact hD') p1 p2
end
end L2
namespace L2
open PySem PySem.Spec PyProof.Rows PySem.W
def Raw (h : Heap) (d : Addr) (es : Array DictEntry) (ep : Nat) : Prop := ∃ ob, h.get? d = some ob /\ ob.ExactDict /\ ob.data = .dict es ep
theorem Raw.ty {s : Shared} {d : Addr} {es : Array DictEntry} {ep : Nat} (x : Raw s.heap d es ep) : s.TypeIs (.ref d) "dict" := let ⟨ob, e, c, _⟩ := x; ⟨ob, e, c.1⟩
theorem Raw.lt {h : Heap} {d : Addr} {es : Array DictEntry} {ep : Nat} (x : Raw h d es ep) : d < h.objs.size := let ⟨_, e, _⟩ := x; hLs e
theorem Raw.stay {h h' : Heap} {d : Addr} {es : Array DictEntry} {ep : Nat} (x : Raw h d es ep) (k : ∀ o, h.get? d = some o -> h'.get? d = some o) : Raw h' d es ep := let ⟨ob, e, r⟩ := x; ⟨ob, k _ e, r⟩
section
variable {prog : Program} {w : World} {A : Around} {E : Value -> Shared -> Prop} {s : Shared} {d it : Addr} {es : Array DictEntry} {ep : Nat}
theorem raw_iter {Q : Value -> Shared -> Prop} (nsm : (d == sysModules) = false) (x : Raw s.heap d es ep)
 (q : Q (.ref s.heap.objs.size) { s with heap := s.heap.push { cls := .type "dict_keyiterator", data := .fields #[.ref d, .int 0 0, .int es.size 0, .int ep 0] } }) : wpAny (model prog w) A (pyIter (.ref d)) Q E s := by
 have ty := x.ty
 obtain ⟨ob, at_, ex, dat⟩ := x
 refine wpAny_pyIter_slot ty F.slot_dict_iter (wpAny_call_entry F.slot_dict_iter ty F.entry_dict_iter ?_ (F.args_dict_iter_1 _))
 unfold Builtin.«dict.__iter__»; refine wB ?_; unfold Builtin.Dict.dictSlotNone; refine wB (wpAny_notOrdered_dict ty ?_)
 show wpAny _ _ (pure (Value.ref d)) _ _ s; refine wP ?_; show wpAny _ _ (Builtin.Dict.showsAll d >>= _) _ _ s; unfold Builtin.Dict.showsAll
 rw [if_neg (by rw [nsm]; exact Q8)]
 refine wB (wP ?_); refine wB (wpAny_dictEntries at_ dat ?_)
 refine wB (wpAny_dictEpoch at_ dat ?_)
 refine wB (wpAny_newObj_type (wP ⟨_, rfl, "dict_keyiterator", _, ⟨_, hPs _ rfl, rfl⟩, F.slot_dict_keyiterator_next.lookup, ?_⟩)); simpa [rawInt] using q
theorem raw_next {i : Nat} {Q : Option Value -> Shared -> Prop} (ki : s.heap.IsKeyIter it d i es.size ep) (x : Raw s.heap d es ep) (hi : i < es.size)
 (q : ∀ h', h'.IsKeyIter it d (i + 1) es.size ep -> Heap.SameBut it s.heap h' -> Q (some es[i].key) { s with heap := h' }) : wpAny (model prog w) A (pyNext (.ref it)) Q E s := by
 obtain ⟨oi, ati, ci, di⟩ := id ki
 obtain ⟨ob, at_, ex, dat⟩ := id x
 unfold pyNext
 refine wB (wpAny_attempt (wpAny_callSpecial?_slot (name := Str.ofString "__next__") ki.typeIs F.slot_dict_keyiterator_next (wpAny_call_entry F.slot_dict_keyiterator_next ki.typeIs F.entry_dict_keyiterator_next ?_ (F.args_dict_keyiterator_next_1 _))))
 refine wB (wP (wB (wB ?_)))
 first | refine wB (wpAny_typeNameOfWhole_keyiter ki.typeIs (wP ?_)) | refine wB (wpAny_typeNameOf_keyiter ki.typeIs (wP ?_))
 refine wB (wpAny_fieldsOf ati di ?_)
 simp only [show Builtin.Dict_items.ownsTuple "dict_keyiterator" = false by decide, zN, if_false]
 show wpAny _ _ (if (Value.ref d == Value.none) = true then _ else _) _ _ s; rw [if_neg (show ¬ ((Value.ref d == Value.none) = true) from Q8)]; refine wB (wP (wB (wpAny_dictEntries at_ dat ?_)))
 rw [if_neg (by simp)]
 refine wB (wP (wB (wpAny_dictEpoch at_ dat ?_)))
 rw [if_neg (by simp)]
 refine wP ?_
 simp only [show ¬ ((i : Int) < 0) from by omega, if_false, Q2c, Array.getElem?_eq_getElem hi]
 refine wB ?_
 first | refine wB (wpAny_typeNameOfWhole_keyiter ki.typeIs (wP ?_)) | refine wB (wpAny_typeNameOf_keyiter ki.typeIs (wP ?_))
 refine wB (wpAny_isOneOf_keyiter ki.typeIs ?_)
 show wpAny _ _ (setField (.ref it) 1 (rawInt ((i : Int) + 1)) >>= _) _ _ s; refine wB (wpAny_setField ati di (by simp) ?_)
 have k2 : (s.heap.update it (Obj.mapFields (·.setIfInBounds 1 (rawInt ((i : Int) + 1))))).IsKeyIter it d (i + 1) es.size ep :=
  ⟨_, hUs _ ati (Obj.isFreed_of_fields (Obj.data_mapFields di _)), (Obj.cls_mapFields ..).trans ci, by rw [Obj.data_mapFields di]; simp [rawInt]⟩
 refine wB (wpAny_holding ?_); refine wB (wpAny_isOneOf_keyiter (s := { s with heap := s.heap.update it (Obj.mapFields (·.setIfInBounds 1 (rawInt ((i : Int) + 1)))) }) k2.typeIs ?_)
 show wpAny _ _ (pure es[i].key) _ _ _; exact wP (wP ⟨_, rfl, wP (q _ k2 (Heap.SameBut.update ..))⟩)
theorem raw_end {i : Nat} {Q : Option Value -> Shared -> Prop} (hh : A.handled = none) (ki : s.heap.IsKeyIter it d i es.size ep) (x : Raw s.heap d es ep) (hi : es.size <= i)
 (q : ∀ h', Heap.ExtBut it s.heap h' -> Q none { s with heap := h' }) : wpAny (model prog w) A (pyNext (.ref it)) Q E s := by
 obtain ⟨oi, ati, ci, di⟩ := id ki
 obtain ⟨ob, at_, ex, dat⟩ := id x
 unfold pyNext
 refine wB (wpAny_attempt (wpAny_callSpecial?_slot (name := Str.ofString "__next__") ki.typeIs F.slot_dict_keyiterator_next (wpAny_call_entry F.slot_dict_keyiterator_next ki.typeIs F.entry_dict_keyiterator_next ?_ (F.args_dict_keyiterator_next_1 _))))
 refine wB (wP (wB (wB ?_)))
 first | refine wB (wpAny_typeNameOfWhole_keyiter ki.typeIs (wP ?_)) | refine wB (wpAny_typeNameOf_keyiter ki.typeIs (wP ?_))
 refine wB (wpAny_fieldsOf ati di ?_)
 simp only [show Builtin.Dict_items.ownsTuple "dict_keyiterator" = false by decide, zN, if_false]
 show wpAny _ _ (if (Value.ref d == Value.none) = true then _ else _) _ _ s; rw [if_neg (show ¬ ((Value.ref d == Value.none) = true) from Q8)]; refine wB (wP (wB (wpAny_dictEntries at_ dat ?_)))
 rw [if_neg (by simp)]
 refine wB (wP (wB (wpAny_dictEpoch at_ dat ?_)))
 rw [if_neg (by simp)]
 refine wP ?_
 simp only [show ¬ ((i : Int) < 0) from by omega, if_false, Q2c, Array.getElem?_eq_none hi]
 refine wB ?_
 first | refine wB (wpAny_typeNameOfWhole_keyiter ki.typeIs (wP ?_)) | refine wB (wpAny_typeNameOf_keyiter ki.typeIs (wP ?_))
 show wpAny _ _ (setField (.ref it) 0 .none >>= _) _ _ s; refine wB (wpAny_setField ati di (by simp) ?_)
 show wpAny _ _ (newExc (.type "StopIteration") [] >>= _) _ _ _; refine wB ?_; simp only [newExc, newTuple]; refine wB (wpAny_newObj_type ?_ (by size_fits))
 refine wB (m := firstArgMember _ _) (wpAny_of_eq (a := Value.none) (by first | rfl | (simp only [firstArgMember]; rfl)) ?_); refine wpAny_newObj_type ?_ (by size_fits); simp only [raiseNew]; refine wB (wpAny_handled ?_)
 rw [show A.in1.handled = none from hh]; refine wB (wP (wpAny_throw (wB ?_)))
 refine wpAny_isInstance (T := "StopIteration") (b := true) ⟨_, hPs _ rfl, rfl⟩ isSubtype_stop ?_
 exact wP (q _ (((Heap.SameBut.update ..).extBut.push _).push _))
end
theorem raw_src {prog : Program} {w : World} {d : Addr} {es : Array DictEntry} {ep : Nat} (nsm : (d == sysModules) = false) : KdlSrc prog w "dict" d d es.size (λ i v => ∃ e, es[i]? = some e /\ v = e.key) (λ h => Raw h d es ep) where
 type := λ _ x => x.ty
 there := λ _ x => ⟨x.lt, x.lt⟩
 keep := λ _ _ x k => x.stay λ o e => k d (.inl rfl) o e
 notList := by decide
 notTuple := by decide
 hint := λ _ _ _ _ x q => kdl_hint_dict x.ty q
 iter := λ A s hh x => ⟨_, λ i h => h.IsKeyIter s.heap.objs.size d i es.size ep /\ Raw h d es ep, (λ _ _ q => raw_iter nsm x q), {
  sub := λ b hb => Q2.mpr (.inl (by simpa using hb))
  frame := λ _ _ _ st k => ⟨st.1.at λ o e => k _ (by simp) o e, st.2.stay λ o e => k d (by simp) o e⟩
  item := λ i s2 Q E hi st q => raw_next st.1 st.2 hi λ h' k2 sb => q es[i].key h' s2.toks ⟨es[i], by simp [hi], rfl⟩ ⟨k2, st.2.stay λ o e => sb.extBut d o (nNl x.lt) e⟩ λ b o hb e => sb.extBut b o (λ z => hb (by simp [z])) e
  done := λ s2 Q E st q => raw_end hh st.1 st.2 (Q1 _) λ h' xb => q h' s2.toks λ b o hb e => xb b o (λ z => hb (by simp [z])) e
  self := λ _ _ _ _ st q => wpAny_pyIter_keyiter st.1 q },
  ⟨⟨_, hPs _ rfl, rfl, rfl⟩, x.stay λ o e => hPo _ e⟩⟩
end L2
namespace L2
open PySem PySem.Spec PyProof.Rows PySem.W Att
theorem ns_unique {h : Heap} {L : Addr} {m m' : Str -> Option Value} (a : h.Ns L m) (b : h.Ns L m') : m = m' := by
 obtain ⟨o, es, ep, e1, e2, e3, e4⟩ := a
 obtain ⟨o', es', ep', f1, f2, f3, f4⟩ := b
 rw [e1] at f1
 cases f1
 rw [e2] at f2
 cases f2
 funext x
 rw [<- e4 x, <- f4 x]
theorem ints_of_vals {ks : List Int} {us : List Value} (h : Vals (ks.map V.int) us) : IntsAre us ks := by
 induction ks generalizing us with
 | nil => cases h; exact .nil
 | cons k ks ih => cases h with
  | cons r t =>
   obtain ⟨tk, e⟩ := (show ∃ t, _ = Value.int k t from r)
   rw [e]
   exact .cons k tk (ih t)
theorem key_ints (k : List Int) : (k.map (Sum.inl : Int -> Key)).map kV = k.map V.int := by
 rw [zO]
 rfl
theorem paired_of {α β : Type} {R : α -> β -> Prop} {x : α} {y : β} : ∀ {l : List α} {m : List β}, l.length = m.length -> (∀ i, i < l.length -> R (l.getD i x) (m.getD i y)) -> Paired R l m := by
 intro l
 induction l with
 | nil => intro m e h; cases m with
  | nil => exact .nil
  | cons _ _ => cases e
 | cons a l ih => intro m e h; cases m with
  | nil => cases e
  | cons b m => exact .cons (h 0 (Nat.succ_pos _)) (ih (Nat.succ.inj e) λ i hi => h (i + 1) (Nat.succ_lt_succ hi))
theorem paired_fst {α β γ : Type} {R : α × β -> α × γ -> Prop} (hR : ∀ p q, R p q -> p.1 = q.1) : ∀ {l : List (α × β)} {m : List (α × γ)}, Paired R l m -> l.map (·.1) = m.map (·.1) := by
 intro l m h
 induction h with
 | nil => rfl
 | cons r t ih => rw [zI, zI, hR _ _ r, ih]
theorem vals_refs : ∀ bs : List Addr, Vals (bs.map V.ref) (bs.map Value.ref)
 | [] => .nil
 | b :: bs => .cons rfl (vals_refs bs)
theorem getD_map {α β : Type} (f : α -> β) (l : List α) (i : Nat) (x : α) : (l.map f).getD i (f x) = f (l.getD i x) := by
 rw [gDq, gDq, zK]
 cases l[i]? <;> rfl
def rSortT : List V -> Hp -> VK -> Prop := λ xs H Q => ∃ a kvs, ∃ ks : List (List Int), xs = [.ref a] /\ H a = some (.dT kvs) /\ kvs.map (·.1) = ks.map (λ k => k.map Sum.inl) /\ (∀ k ∈ ks, k ≠ []) /\ ks.length < 64 /\
 ∀ p (bs : List Addr) (q : Array Nat), H p = none -> SRT.Pm ks.length q -> SRT.Asc (λ i j => lexI (ks.getD i []) (ks.getD j [])) q ks.length -> bs.length = ks.length ->
  (∀ i, i < ks.length -> H (bs.getD i 0) = some (.tup ((ks.getD (SRT.g q i) []).map V.int))) -> Q (.ref p) (upd H p (.lst (bs.map V.ref)))
theorem call_sortT {X : Cx} (hc : X.calm = true) : CallR X (.builtin "sorted") rSortT := by
 intro pins s σ H xs us Q I rv h
 obtain ⟨a, kvs, ks, rfl, ha, hks, hpos, h64, q⟩ := h
 obtain ⟨u, rfl, ru⟩ := vals1 rv
 cases (show u = Value.ref a from ru)
 obtain ⟨hlen, nsm, ys, rel, ob, es, ep, at_, ex, dat, hes, nd, _⟩ := (show ObjOk X.prog X.w H s.heap a (.dT kvs) from I.hok a _ ha)
 obtain ⟨m, hns, _⟩ := id I.loc
 have neA : a ≠ X.env.locals := λ z => by rw [z, I.free] at ha; cases ha
 have relLen : kvs.length = ys.length := Paired.length rel
 have ksLen : ks.length = kvs.length := by rw [<- zJ (f := λ k : List Int => k.map (Sum.inl : Int -> Key)), <- hks, zJ]
 have esz : es.size = ys.length := by rw [<- Qf, hes, zJ]
 have kE : ∀ i, (kvs.getD i ([], .non)).1 = (ks.getD i []).map Sum.inl := λ i => by
  have e := congrArg (λ l : List (List Key) => l.getD i []) hks
  have e1 := getD_map (λ p : List Key × V => p.1) kvs i ([], .non)
  have e2 := getD_map (λ k : List Int => k.map (Sum.inl : Int -> Key)) ks i []
  exact e1.symm.trans (e.trans e2)
 have yk : ∀ i, i < ks.length -> H (ys.getD i ([], 0, .none)).2.1 = some (.tup ((ks.getD i []).map V.int)) := λ i hi => by
  have r := (pgetD (x := (([], V.non) : List Key × V)) (y := (([], 0, Value.none) : List Key × Addr × Value)) i rel (by omega)).2.1
  rw [kE i, key_ints] at r
  exact r
 have ksnd : ks.Nodup := by
  have e := paired_fst (λ p q z => z.1) rel
  rw [<- e, hks] at nd
  exact (List.pairwise_map.mp nd).imp λ z e => z (by rw [e])
 refine kdu_sorted (raw_src (es := es) (ep := ep) nsm) (I.ok.hd hc) (fr_all hns) (news_ledger neA at_) ⟨ob, at_, ex, dat⟩ (by rw [esz, <- relLen]; exact hlen) λ D h' tk vs F' N' lt hl hP => ?_
 have nD := N' (D, listOf vs.toArray 0) lMs
 have inNews : ∀ b o, b ≠ X.env.locals -> s.heap.get? b = some o -> (b, o) ∈ ([] ++ (a, ob) :: ledger s.heap X.env.locals a) := λ b o nb e => by
  by_cases z : b = a
  · subst z
    rw [at_] at e
    cases e
    exact lMs
  · exact lMc _ (mem_ledger.mpr ⟨nb, z, e⟩)
 have kp : ∀ b o, b ≠ X.env.locals -> s.heap.get? b = some o -> h'.get? b = some o := λ b o nb e => (N' _ (lMc _ (inNews b o nb e))).1
 have Dnew : s.heap.get? D = none := by
  cases z : s.heap.get? D with
  | none => rfl
  | some o => exact absurd (lt _ (inNews D o nD.2.1 z)) (zT _)
 have HD : H D = none := by
  cases z : H D with
  | none => rfl
  | some o =>
   obtain ⟨_, e⟩ := (I.hok D o z).there
   rw [Dnew] at e
   cases e
 have vlen : vs.length = ks.length := by omega
 have vE : ∀ i, i < ks.length -> vs.getD i .none = .ref (ys.getD i ([], 0, .none)).2.1 := λ i hi => by
  have hv : i < vs.length := by omega
  have hy : i < ys.length := by omega
  obtain ⟨e, e1, e2⟩ := hP i vs[i] (gEq hv)
  rw [<- Q1b, hes, zK, gEq hy] at e1
  cases e1
  rw [gDq, gEq hv, gDq, gEq hy]
  exact e2
 have ht : Paired (TpI h') vs ks := paired_of (x := Value.none) (y := []) vlen λ i hi => by
  rw [vE i (by omega)]
  have tr := yk i (by omega)
  obtain ⟨_, its, rl, ⟨o, e1, e2, n, e3⟩, _⟩ := (show ObjOk X.prog X.w H s.heap _ (.tup _) from I.hok _ _ tr)
  refine ⟨_, o, _, n, rfl, kp _ o (λ z => by rw [z, I.free] at tr; cases tr) e1, e2, e3, ?_⟩
  rw [List.toList_toArray]
  exact ints_of_vals rl
 refine lsort_tups (s := { s with heap := h', toks := tk }) (L := X.env.locals) (D := D) (m := m) (c := 0) F'.ns nD.2.1 nD.1 ht ksnd hpos (by omega) λ h2 c2 qq kp2 ns2 hD2 P2 A2 => ?_
 rw [vlen] at P2 A2
 have hb : ∀ i, i < ks.length -> SRT.g qq i < ks.length := P2.lt
 have outE : (qq.toList.map λ i => vs.getD i .none) = (qq.toList.map λ i => (ys.getD i ([], 0, Value.none)).2.1).map Value.ref := by
  rw [zO]
  apply Q26
  intro i hi
  have hl2 : qq.toList.Perm (List.range ks.length) := by simpa using Q28.mp P2.pe
  have : i < ks.length := by simpa using hl2.mem_iff.mp hi
  exact vE i this
 rw [outE] at hD2
 have kp3 : ∀ b o, b ≠ X.env.locals -> s.heap.get? b = some o -> h2.get? b = some o := λ b o nb e => kp2 b o nb (λ z => by rw [z, Dnew] at e; cases e) (kp b o nb e)
 have bl : (qq.toList.map λ i => (ys.getD i ([], 0, Value.none)).2.1).length = ks.length := by rw [zJ, Qf, P2.sz]
 have hokN : HOk X.prog X.w (upd H D (.lst ((qq.toList.map λ i => (ys.getD i ([], 0, Value.none)).2.1).map V.ref))) h2 := λ b u e => by
  by_cases z : b = D
  · subst z
    rw [upd_same] at e
    cases e
    exact ⟨by rw [zJ, bl]; exact small (by omega), _, c2, vals_refs _, hD2⟩
  · rw [upd_ne z] at e
    refine (I.hok b u e).stay (λ c v hc e1 => kp3 c v (λ y => ?_) e1) (λ c y => by rw [upd_ne (ne_of_none y HD)]; exact y) (λ c xs y => by rw [upd_ne (ne_of_none y HD)]; exact y) λ c ob xs y => by rw [upd_ne (ne_of_none y HD)]; exact y
    subst y
    rcases hc with y | y
    · rw [<- y, I.free] at e; cases e
    · rw [I.free] at y; cases y
 have I2 : Inv X pins σ (upd H D (.lst ((qq.toList.map λ i => (ys.getD i ([], 0, Value.none)).2.1).map V.ref))) { s with heap := h2, gens := s.gens, drawn := s.drawn, toks := tk } :=
  Inv.step (s := s) (ch := []) I (λ _ z => nomatch z) (λ b o nb _ _ e _ => kp3 b o nb e) (λ b o nb _ _ e _ => ⟨o.slots, kp3 b o nb e⟩) (λ b o _ e n => by rw [upd_ne (λ z => by rw [z, Dnew] at e; cases e)]; exact n)
   (λ b o _ e => by
    by_cases z : b = X.env.locals
    · subst z
      obtain ⟨o2, _, _, e2, _⟩ := ns2
      exact ⟨o2, e2⟩
    · exact ⟨o, kp3 b o z e⟩)
   (λ b xs e => by rw [upd_ne (ne_of_none e HD)]; exact e) (λ b o xs e => by rw [upd_ne (ne_of_none e HD)]; exact e) (λ b ps e => ⟨#[], by rw [upd_ne (ne_of_none e HD), e]; simp⟩) (λ m2 hm2 => ns_unique hns hm2 ▸ ns2) hokN I.bare
 refine ⟨.ref D, _, I2, rfl, q D _ qq HD P2 A2 bl λ i hi => ?_⟩
 have e : (qq.toList.map λ i => (ys.getD i ([], 0, Value.none)).2.1).getD i 0 = (ys.getD (SRT.g qq i) ([], 0, Value.none)).2.1 := by
  have hq : i < qq.toList.length := by rw [Qf, P2.sz]; exact hi
  rw [gDq, zK, gEq hq]
  show (ys.getD qq.toList[i] ([], 0, Value.none)).2.1 = _
  congr 3
  unfold SRT.g
  rw [<- Q1b, gEq hq]
  rfl
 rw [e]
 exact yk _ (hb i hi)
end L2
namespace DL
open PySem L2
noncomputable def leI (a b : List Int) : Bool := lexI a b || decide (a = b)
noncomputable def sortK (ks : List (List Int)) : List (List Int) := ks.mergeSort leI
theorem lexI_irr : ∀ x : List Int, lexI x x = false
 | [] => rfl
 | a :: x => by unfold lexI; rw [if_pos rfl]; exact lexI_irr x
theorem leI_tr (a b c : List Int) (h1 : leI a b = true) (h2 : leI b c = true) : leI a c = true := by
 unfold leI at *
 rcases Bool.or_eq_true_iff.mp h1 with h1 | h1
 · rcases Bool.or_eq_true_iff.mp h2 with h2 | h2
   · rw [lexI_tr a b c h1 h2]; rfl
   · rw [<- of_decide_eq_true h2, h1]; rfl
 · rw [of_decide_eq_true h1]; exact h2
theorem leI_to (a b : List Int) : (leI a b || leI b a) = true := by
 unfold leI
 by_cases e : a = b
 · simp [e]
 · cases h : lexI a b with
   | true => rfl
   | false => rw [lexI_to a b e h]; simp
theorem sorted_unique : ∀ {l m : List (List Int)}, l.Perm m -> l.Pairwise (λ a b => lexI a b = true) -> m.Pairwise (λ a b => lexI a b = true) -> l = m
 | [], m, p, _, _ => by rw [List.nil_perm.mp p]
 | a :: x, [], p, _, _ => absurd p.length_eq (by simp)
 | a :: x, b :: y, p, s1, s2 => by
  have e : a = b := by
   have ha : a ∈ b :: y := p.mem_iff.mp lMs
   have hb : b ∈ a :: x := p.mem_iff.mpr lMs
   rcases Q2.mp ha with ha | ha
   · exact ha
   · rcases Q2.mp hb with hb | hb
     · exact hb.symm
     · have l1 := (Q18.mp s1).1 b hb
       have l2 := (Q18.mp s2).1 a ha
       have := lexI_tr a b a l1 l2
       rw [lexI_irr] at this
       cases this
  subst e
  rw [sorted_unique (List.Perm.cons_inv p) (Q18.mp s1).2 (Q18.mp s2).2]
theorem sortK_of {ks l : List (List Int)} (nd : ks.Nodup) (p : l.Perm ks) (s : l.Pairwise λ a b => lexI a b = true) : l = sortK ks := by
 have p2 : (sortK ks).Perm ks := List.mergeSort_perm ks leI
 have s2 : (sortK ks).Pairwise λ a b => leI a b = true := List.pairwise_mergeSort leI_tr leI_to ks
 have n2 : (sortK ks).Nodup := p2.nodup_iff.mpr nd
 refine sorted_unique (p.trans p2.symm) s ((s2.and n2).imp λ h => ?_)
 rcases Bool.or_eq_true_iff.mp h.1 with z | z
 · exact z
 · exact absurd (of_decide_eq_true z) h.2
theorem sortK_q {ks : List (List Int)} {q : Array Nat} (nd : ks.Nodup) (P : SRT.Pm ks.length q) (A : SRT.Asc (λ i j => lexI (ks.getD i []) (ks.getD j [])) q ks.length) : ((List.range ks.length).map λ i => ks.getD (SRT.g q i) []) = sortK ks := by
 have hl2 : q.toList.Perm (List.range ks.length) := by simpa using Q28.mp P.pe
 have ql : q.toList = (List.range ks.length).map (SRT.g q) := by
  apply List.ext_getElem
  · rw [Qf, P.sz, zJ, Q20]
  · intro i h1 h2
    rw [List.getElem_map, Q1d]
    unfold SRT.g
    rw [<- Q1b, gEq h1]
    rfl
 have kr : (List.range ks.length).map (λ i => ks.getD i []) = ks := by
  apply List.ext_getElem
  · rw [zJ, Q20]
  · intro i h1 h2
    rw [List.getElem_map, Q1d, gDq, gEq h2]
    rfl
 refine sortK_of nd ?_ ?_
 · have : ((List.range ks.length).map λ i => ks.getD (SRT.g q i) []) = q.toList.map λ i => ks.getD i [] := by rw [ql, zO]; rfl
   rw [this]
   have p := hl2.map (λ i => ks.getD i [])
   rw [kr] at p
   exact p
 · rw [List.pairwise_map]
   refine List.pairwise_iff_getElem.mpr λ i j hi hj hij => ?_
   rw [Q1d, Q1d]
   exact A i j hij (by simpa using hj)
noncomputable def keyD : PyData -> Option (List Int)
 | .tuple ds => intsD ds
 | _ => none
noncomputable def keysD : List (PyData × PyData) -> Option (List (List Int))
 | [] => some []
 | p :: r => (keyD p.1).bind λ k => (keysD r).map (k :: ·)
noncomputable def sortC : List PyData -> Option PyData
 | [.dict kvs] => (keysD kvs).bind λ ks => if (ks.all (λ k => !k.isEmpty) && decide (ks.length < 64) && decide ks.Nodup) = true then some (.list ((sortK ks).map λ k => .tuple (k.map .int))) else none
 | _ => none
theorem kD_ints : ∀ {q : List Key} {ns : List Int}, q.map kD = ns.map PyData.int -> q = ns.map Sum.inl
 | [], [], _ => rfl
 | [], _ :: _, h => by cases h
 | _ :: _, [], h => by cases h
 | k :: q, n :: ns, h => by
  rw [zI, zI] at h
  injection h with h1 h2
  cases k with
  | inl i => injection h1 with h1; rw [h1, kD_ints h2]; rfl
  | inr x => cases h1
section
variable {K : Fg}
theorem kvs_keys {H : Hp} : ∀ {m : List (List Key × V)} {kvs : List (PyData × PyData)} {ks : List (List Int)}, Kvs K H m kvs -> keysD kvs = some ks -> m.map (·.1) = ks.map λ k => k.map Sum.inl
 | _, [], ks, h, e => by
  cases e
  rw [show _ = [] from h]
  rfl
 | _, (k, d) :: r, ks, h, e => by
  obtain ⟨q, m', rfl, ⟨h1, _⟩, h2⟩ := h
  unfold keysD at e
  obtain ⟨k1, e1, e2⟩ := bind_some e
  obtain ⟨k2, e3, e4⟩ := Q0.mp e2
  subst e4
  rw [h1] at e1
  have e5 := kD_ints (intsD_some e1)
  rw [zI, zI, e5, kvs_keys h2 e3]
theorem are_tups {F : Hp} : ∀ {bs : List Addr} {ks : List (List Int)}, bs.length = ks.length -> (∀ i, i < ks.length -> F (bs.getD i 0) = some (.tup ((ks.getD i []).map V.int))) -> Are K F (bs.map V.ref) (ks.map λ k => .tuple (k.map .int))
 | [], [], _, _ => rfl
 | [], _ :: _, e, _ => by cases e
 | _ :: _, [], e, _ => by cases e
 | b :: bs, k :: ks, e, h => ⟨.ref b, _, rfl, ⟨b, _, rfl, h 0 (Nat.succ_pos _), Are.ints.mpr rfl⟩, are_tups (Nat.succ.inj e) λ i hi => h (i + 1) (Nat.succ_lt_succ hi)⟩
theorem Grow.tups {F H : Hp} (s : Same F H) (bs : List Addr) (hb : ∀ b ∈ bs, ∃ xs, H b = some (.tup xs)) : ∃ F', Grow F H F' H /\ ∀ b ∈ bs, F' b = H b := by
 refine ⟨λ b => if b ∈ bs then H b else F b, ⟨λ b u e => ?_, λ b u e => ?_, Same.refl _, λ b u e t n => ?_⟩, λ b hb => if_pos hb⟩
 · show (if b ∈ bs then H b else F b) = some u
   split
   · exact s b u e
   · exact e
 · have e : (if b ∈ bs then H b else F b) = some u := e
   split at e
   · exact e
   · exact s b u e
 · show (if b ∈ bs then H b else F b) = none
   split
   · rename_i hm
     obtain ⟨xs, z⟩ := hb b hm
     rw [z] at e
     cases e
     exact absurd rfl (t xs)
   · exact n
theorem cd_sort : CallD K rSortT sortC := λ F H xs ds d Q s ar e k => by
 unfold sortC at e
 split at e
 · rename_i kvs
   obtain ⟨ks, e1, e2⟩ := bind_some e
   split at e2
   · rename_i c
     cases e2
     simp only [Q4, decide_eq_true_eq, Q12] at c
     obtain ⟨⟨c1, c3⟩, c4⟩ := c
     obtain ⟨x, r, rfl, ⟨a, rfl, hx⟩, hr⟩ := ar
     rw [show r = [] from hr]
     rcases hx with ⟨ns, z, _⟩ | ⟨m, z, kv⟩ | ⟨nm, z, _⟩ | ⟨m, z, kv⟩
     · subst z
       cases e1
     rotate_left
     · subst z
       cases e1
     · cases kvs with
       | nil => exact kv.elim
       | cons p r =>
        obtain ⟨rfl, _⟩ := kv
        cases e1
     · refine ⟨a, m, ks, rfl, s _ _ z, kvs_keys kv e1, (λ k hk y => absurd (c1 k hk) (by rw [y]; decide)), c3, λ p bs q hp P A hbl hbs => ?_⟩
       have allT : ∀ b ∈ bs, ∃ xs, H b = some (.tup xs) := λ b hb => by
        obtain ⟨i, hi, rfl⟩ := List.getElem_of_mem hb
        have := hbs i (by omega)
        rw [gDq, gEq hi] at this
        exact ⟨_, this⟩
       obtain ⟨F1, g1, f1⟩ := Grow.tups s bs allT
       have g2 := g1.trans (Grow.new (p := p) (o := .lst (bs.map V.ref)) g1.s hp)
       refine k (.ref p) _ _ g2 ⟨p, _, rfl, upd_same, ?_⟩
       have sk := sortK_q c4 P A
       have len : (sortK ks).length = ks.length := by rw [<- sk, zJ, Q20]
       refine (are_tups (F := F1) (by rw [len]; exact hbl) λ i hi => ?_).same (same_new (g1.s.free hp) _)
       have hi' : i < ks.length := by omega
       have mem : bs.getD i 0 ∈ bs := by
        rw [gDq, gEq (by omega)]
        exact Q17 _
       rw [f1 _ mem, hbs i hi']
       have : (sortK ks).getD i [] = ks.getD (SRT.g q i) [] := by
        rw [<- sk, gDq, zK, List.getElem?_range hi']
        rfl
       rw [this]
   · cases e2
 · cases e
end
end DL
namespace L2
open PySem
section
variable {prog : Program} {w : World} {K : Type} [DecidableEq K] {knd : HeapKind prog w K} {A : Around} {E : Value -> Shared -> Prop} {s : Shared} {d a : Addr} {xs : List (K × Addr × Value)} {k : K} {v : Value} {o : Obj} {es : Array DictEntry} {ep : Nat}
theorem setItem_ep {Q : Unit -> Shared -> Prop} (hu : knd.room A.in1) (hkey : knd.is s.heap k a) (ho : s.heap.get? d = some o) (hc : o.ExactDict) (hd : o.data = .dict es ep) (he : es.toList = xs.map (entryOfKey knd)) (his : ∀ x ∈ xs, knd.is s.heap x.1 x.2.1) (hn : (xs.map (·.1)).Nodup) (hep : ep = xs.length)
 (hQ : ∀ h' o' es', h'.get? d = some o' -> o'.ExactDict -> o'.data = .dict es' (storedH xs k a v).length -> es'.toList = (storedH xs k a v).map (entryOfKey knd) -> ((storedH xs k a v).map (·.1)).Nodup -> Heap.SameBut d s.heap h' -> Q () { s with heap := h', toks := s.toks + knd.draws k }) (hsz : xs.length <= sizeLine) :
 wpAny (model prog w) A (setItem (.ref d) (.ref a) v) Q E s := by
 have hm : s.heap.DictOfH knd d xs := ⟨o, es, ep, ho, hc, hd, he, his, hn⟩
 unfold setItem; (try with_reducible refine wpAny_holding ?_); refine wB (wpAny_sequenceKey hm.typeIs (by decide) ?_)
 refine wB (wpAny_callSpecial?_slot (name := Str.ofString "__setitem__") hm.typeIs slot_dict_setitem (wpAny_call_entry slot_dict_setitem hm.typeIs entry_dict_setitem ?_ (args_dict_setitem _ _ _)))
 show wpAny _ _ (Builtin.Dict.notOrdered "__setitem__" ⟨[.ref d, .ref a, v], []⟩ >>= _) _ _ s; refine wB (wpAny_notOrdered_dict hm.typeIs ?_)
 show wpAny _ _ (dictSet d (.ref a) v >>= _) _ _ s; refine wB ?_
 unfold dictSet; (try with_reducible refine wpAny_holding ?_); refine wB (knd.pyHash hu hkey ?_)
 unfold dictSetHashed; (try with_reducible refine wpAny_holding ?_)
 refine wB (wpAny_dictFind_heap (s := { s with toks := s.toks + knd.draws k }) hu hkey ho hd he his hn ?_ ?_)
 · intro hno
   have hnot : k ∉ xs.map (·.1) := not_mem_keys_of_get hno
   have st := storedH_new (atKey_none_of_get hno) a v
   refine wB (wpAny_rule (wpAny_updateDictKeys (hz := by have e := size_of_entries he; omega) (s := { s with toks := s.toks + knd.draws k }) ho hd ?_))
   refine wP ⟨.none, rfl, wP (hQ _ _ (es.push ⟨knd.hash k, .ref a, v⟩) (hUs _ ho (Obj.isFreed_of_dict (Obj.data_mapDictKeys hd _))) (hc.mapDictKeys _) ?_ ?_ ?_ (Heap.SameBut.update ..))⟩
   · rw [st, zQ, Q29, <- hep]; exact Obj.data_mapDictKeys hd _
   · rw [st]; simp [he, entryOfKey]
   · rw [st, Q1c, List.nodup_append]; refine ⟨hn, by simp, λ x hx y hy => ?_⟩
     simp only [zI, zL, Q13] at hy; subst hy; exact λ e => hnot (e ▸ hx)
 · intro j p hj
   have st := storedH_old (atKey_of_get hn hj) a v
   refine wB (wpAny_rule (wB (wpAny_updateDict (s := { s with toks := s.toks + knd.draws k }) ho hd (wpAny_point ?_))))
   refine wP ⟨.none, rfl, wP (hQ _ _ (es.modify j λ e => { e with val := v }) (hUs _ ho (Obj.isFreed_of_dict (Obj.data_mapDict hd _))) (hc.mapDict _) ?_ ?_ ?_ (Heap.SameBut.update ..))⟩
   · rw [st, zJ, <- hep]; exact Obj.data_mapDict hd _
   · rw [st]
     have := modify_map_putAt (entryOfKey knd) (λ e : DictEntry => { e with val := v }) k v (λ _ _ => rfl) hn hj
     rw [<- he] at this; obtain ⟨l⟩ := es; simpa using this
   · rw [st, keys_map_putAt]; exact hn
end
end L2
namespace L2
open PySem PySem.Spec PyProof.Rows
section
variable {κ : Type} [DecidableEq κ]
noncomputable def valV (kvs : List (κ × V)) (k : κ) : Option V := (kvs.find? λ kv => decide (kv.1 = k)).map (·.2)
noncomputable def putK (kvs : List (κ × V)) (k : κ) (v : V) : List (κ × V) :=
 if (kvs.any λ kv => decide (kv.1 = k)) = true then kvs.map (λ kv => if kv.1 = k then (kv.1, v) else kv) else kvs ++ [(k, v)]
theorem valV_pos {p : κ × V} {r : List (κ × V)} {k : κ} (e : p.1 = k) : valV (p :: r) k = some p.2 := by simp [valV, List.find?_cons, e]
theorem valV_neg {p : κ × V} {r : List (κ × V)} {k : κ} (e : ¬ p.1 = k) : valV (p :: r) k = valV r k := by simp [valV, List.find?_cons, e]
theorem valV_any (k : κ) : ∀ kvs : List (κ × V), (kvs.any λ kv => decide (kv.1 = k)) = (valV kvs k).isSome
 | [] => rfl
 | p :: r => by
  rw [List.any_cons]
  by_cases e : p.1 = k
  · simp only [valV_pos e, decide_eq_true e, Bool.true_or, Option.isSome_some]
  · rw [valV_neg e, decide_eq_false e, Bool.false_or]; exact valV_any k r
theorem length_putK (kvs : List (κ × V)) (k : κ) (v : V) : (putK kvs k v).length <= kvs.length + 1 := by
 unfold putK
 split
 · rw [zJ]; omega
 · rw [zQ, zC, zH]; omega
theorem RelO.isSome_eq {o : Option V} {u : Option Value} (r : RelO o u) : o.isSome = u.isSome := by
 cases o with
 | none => cases u with
  | none => rfl
  | some _ => exact (show False from r).elim
 | some _ => cases u with
  | none => exact (show False from r).elim
  | some _ => rfl
theorem RelO.getD {o : Option V} {u : Option Value} {d : V} {d' : Value} (r : RelO o u) (rd : RelV d d') : RelV (o.getD d) (u.getD d') := by
 cases o with
 | none => cases u with
  | none => exact rd
  | some _ => exact (show False from r).elim
 | some _ => cases u with
  | none => exact (show False from r).elim
  | some _ => exact r
theorem KV.val {kvs : List (κ × V)} {vs : List (κ × Value)} (r : KV kvs vs) (k : κ) : RelO (valV kvs k) (valueAt vs k) := by
 unfold KV at r
 induction r with
 | nil => exact True.intro
 | @cons p q ps qs h t ih =>
  obtain ⟨h1, h2⟩ := h
  by_cases e : p.1 = k
  · have e' : q.1 = k := h1.symm.trans e
    have b : valueAt (q :: qs) k = some q.2 := by simp [valueAt, List.find?_cons, e']
    rw [valV_pos e, b]; exact h2
  · have e' : ¬ q.1 = k := λ z => e (h1.trans z)
    have b : valueAt (q :: qs) k = valueAt qs k := by simp [valueAt, List.find?_cons, e']
    rw [valV_neg e, b]; exact ih
theorem KV.any {kvs : List (κ × V)} {vs : List (κ × Value)} (r : KV kvs vs) (k : κ) : (kvs.any λ kv => decide (kv.1 = k)) = vs.any λ kv => decide (kv.1 = k) := by
 unfold KV at r
 induction r with
 | nil => rfl
 | cons h t ih => rw [List.any_cons, List.any_cons, ih, h.1]
theorem KV.repl {kvs : List (κ × V)} {vs : List (κ × Value)} (r : KV kvs vs) (k : κ) {y : V} {u : Value} (ry : RelV y u) :
 KV (kvs.map λ kv => if kv.1 = k then (kv.1, y) else kv) (vs.map λ kv => if kv.1 = k then (kv.1, u) else kv) := by
 unfold KV at r ⊢
 induction r with
 | nil => exact .nil
 | @cons p q ps qs h t ih =>
  rw [zI, zI]
  refine .cons ?_ ih
  obtain ⟨h1, h2⟩ := h
  by_cases e : p.1 = k
  · rw [if_pos e, if_pos (h1.symm.trans e)]; exact ⟨h1, ry⟩
  · rw [if_neg e, if_neg (λ z => e (h1.trans z))]; exact ⟨h1, h2⟩
theorem KV.put {kvs : List (κ × V)} {vs : List (κ × Value)} (r : KV kvs vs) (k : κ) {y : V} {u : Value} (ry : RelV y u) : KV (putK kvs k y) (stored vs k u) := by
 unfold putK stored
 rw [r.any k]
 by_cases e : (vs.any λ kv => decide (kv.1 = k)) = true
 · rw [if_pos e, if_pos e]; exact r.repl k ry
 · rw [if_neg e, if_neg e]; exact Paired.snoc r ⟨rfl, ry⟩
theorem KV.length {kvs : List (κ × V)} {vs : List (κ × Value)} (r : KV kvs vs) : kvs.length = vs.length := Paired.length r
end
theorem kV_is {P : Program} {w : World} {k : Key} {u : Value} (r : RelV (kV k) u) : (mixKind P w).is k u = true := by
 cases k with
 | inl i => obtain ⟨t, e⟩ := (show ∃ t, u = Value.int i t from r); subst e; exact mixKind_int P w i t
 | inr x => obtain ⟨t, e⟩ := (show ∃ t, u = Value.str x t from r); subst e; exact mixKind_str P w x t
theorem items_are {P : Program} {w : World} : ∀ {ks : List Key} {us : List Value}, Vals (ks.map kV) us -> ItemsAre (mixKind P w) ks us
 | [], _, r => by rw [zL] at r; cases r; exact .nil
 | k :: ks, _, r => by
  rw [zI] at r
  cases r with
  | cons h t => exact .cons (kV_is h) (items_are t)
abbrev KT (H : Hp) : List (List Key × V) -> List (List Key × Addr × Value) -> Prop := Paired λ p q => p.1 = q.1 /\ H q.2.1 = some (.tup (p.1.map kV)) /\ RelV p.2 q.2.2
theorem KT.val {H : Hp} {kvs : List (List Key × V)} {xs : List (List Key × Addr × Value)} (r : KT H kvs xs) (k : List Key) : RelO (valV kvs k) ((atKey xs k).map (·.2)) := by
 induction r with
 | nil => exact True.intro
 | @cons p q ps qs h t ih =>
  obtain ⟨h1, _, h2⟩ := h
  by_cases e : p.1 = k
  · have e' : q.1 = k := h1.symm.trans e
    have b : atKey (q :: qs) k = some q.2 := by simp [atKey, List.find?_cons, e']
    rw [valV_pos e, b]; exact h2
  · have e' : ¬ q.1 = k := λ z => e (h1.trans z)
    have b : atKey (q :: qs) k = atKey qs k := by simp [atKey, List.find?_cons, e']
    rw [valV_neg e, b]; exact ih
theorem KT.repl {H : Hp} {kvs : List (List Key × V)} {xs : List (List Key × Addr × Value)} (r : KT H kvs xs) (k : List Key) {y : V} {u : Value} (ry : RelV y u) :
 KT H (kvs.map λ kv => if kv.1 = k then (kv.1, y) else kv) (xs.map (putAt k u)) := by
 induction r with
 | nil => exact .nil
 | @cons p q ps qs h t ih =>
  rw [zI, zI]
  refine .cons ?_ ih
  obtain ⟨h1, h2, h3⟩ := h
  unfold putAt
  by_cases e : p.1 = k
  · rw [if_pos e, if_pos (h1.symm.trans e)]; exact ⟨h1, h2, ry⟩
  · rw [if_neg e, if_neg (λ z => e (h1.trans z))]; exact ⟨h1, h2, h3⟩
theorem KT.put {H : Hp} {kvs : List (List Key × V)} {xs : List (List Key × Addr × Value)} (r : KT H kvs xs) (k : List Key) {b : Addr} {y : V} {u : Value} (hb : H b = some (.tup (k.map kV))) (ry : RelV y u) :
 KT H (putK kvs k y) (storedH xs k b u) := by
 have e : (kvs.any λ kv => decide (kv.1 = k)) = (atKey xs k).isSome := by
  rw [valV_any, (r.val k).isSome_eq, Option.isSome_map]
 unfold putK storedH
 rw [e]
 by_cases q : (atKey xs k).isSome = true
 · rw [if_pos q, if_pos q]; exact r.repl k ry
 · rw [if_neg q, if_neg q]; exact Paired.snoc r ⟨rfl, hb, ry⟩
theorem KT.keeps {H H' : Hp} {kvs : List (List Key × V)} {xs : List (List Key × Addr × Value)} (r : KT H kvs xs) (ht : ∀ b ys, H b = some (.tup ys) -> H' b = some (.tup ys)) : KT H' kvs xs :=
 Paired.mapP r λ _ _ z => ⟨z.1, ht _ _ z.2.1, z.2.2⟩
section
variable {P : Program} {w : World} {H : Hp} {h : Heap} {a : Addr}
theorem rd_of {u : HO} (ok : HOk P w H h) (e : Rd H a u) : ObjOk P w H h a u := e.ok ok
theorem dk_rd {kvs : List (Key × V)} (ok : HOk P w H h) (e : Rd H a (.dK kvs)) : kvs.length <= sizeLine /\ (a == sysModules) = false /\ ∃ vs, KV kvs vs /\ h.DictOf (mixKind P w) a vs :=
 show ObjOk P w H h a (.dK kvs) from rd_of ok e
theorem dk_of {kvs : List (Key × V)} (ok : HOk P w H h) (e : H a = some (.dK kvs)) : kvs.length <= sizeLine /\ (a == sysModules) = false /\ ∃ vs, KV kvs vs /\ h.DictOf (mixKind P w) a vs := dk_rd ok (.inl e)
theorem key_of {ks : List Key} (ok : HOk P w H h) (e : H a = some (.tup (ks.map kV))) : (tupleKind (mixKind P w)).is h ks a := by
 obtain ⟨_, its, r, ⟨o, h1, h2, n, h3⟩, _⟩ := (show ObjOk P w H h a (.tup (ks.map kV)) from ok a _ e)
 exact ⟨o, its.toArray, n, h1, h2, h3, by simpa using items_are r⟩
theorem kt_all {kvs : List (List Key × V)} {xs : List (List Key × Addr × Value)} (ok : HOk P w H h) (r : KT H kvs xs) : ∀ x ∈ xs, (tupleKind (mixKind P w)).is h x.1 x.2.1 := by
 have all : ∀ {l : List (List Key × V)} {m : List (List Key × Addr × Value)}, KT H l m -> ∀ x ∈ m, (tupleKind (mixKind P w)).is h x.1 x.2.1 := by
  intro l m q
  induction q with
  | nil => intro x hx; exact nomatch hx
  | @cons p q ps qs hq t ih =>
   intro x hx
   rcases Q2.mp hx with e | hx
   · subst e
     exact key_of ok (by rw [<- hq.1]; exact hq.2.1)
   · exact ih x hx
 exact all r
theorem dt_rd {kvs : List (List Key × V)} (ok : HOk P w H h) (e : Rd H a (.dT kvs)) : kvs.length <= sizeLine /\ (a == sysModules) = false /\
 ∃ xs, KT H kvs xs /\ h.DictOfH (tupleKind (mixKind P w)) a xs := by
 obtain ⟨z, y, xs, r, o, es, ep, h1, h2, h3, h4, h5, _⟩ := (show ObjOk P w H h a (.dT kvs) from rd_of ok e)
 refine ⟨z, y, xs, r, o, es, ep, h1, h2, h3, h4, λ x hx => ?_, h5⟩
 have all : ∀ {l : List (List Key × V)} {m : List (List Key × Addr × Value)}, KT H l m -> ∀ x ∈ m, (tupleKind (mixKind P w)).is h x.1 x.2.1 := by
  intro l m q
  induction q with
  | nil => intro x hx; exact nomatch hx
  | @cons p q ps qs hq t ih =>
   intro x hx
   rcases Q2.mp hx with e | hx
   · subst e
     exact key_of ok (by rw [<- hq.1]; exact hq.2.1)
   · exact ih x hx
 exact all r x hx
end
def DGet (H : Hp) (a : Addr) (y : V) (r : Option V) : Prop :=
 (∃ kvs k, Rd H a (.dK kvs) /\ y = kV k /\ r = valV kvs k) \/ ∃ kvs k b, Rd H a (.dT kvs) /\ y = .ref b /\ H b = some (.tup (k.map kV)) /\ r = valV kvs k
def DPut (H : Hp) (a : Addr) (y v : V) (H' : Hp) : Prop :=
 (∃ kvs k, H a = some (.dK kvs) /\ y = kV k /\ kvs.length < sizeLine /\ H' = upd H a (.dK (putK kvs k v))) \/
 ∃ kvs k b, H a = some (.dT kvs) /\ y = .ref b /\ H b = some (.tup (k.map kV)) /\ kvs.length < sizeLine /\ H' = upd H a (.dT (putK kvs k v))
theorem DGet.k {H : Hp} {a : Addr} {kvs : List (Key × V)} {k : Key} (e : H a = some (.dK kvs)) : DGet H a (kV k) (valV kvs k) := .inl ⟨kvs, k, .inl e, rfl, rfl⟩
theorem DGet.t {H : Hp} {a b : Addr} {kvs : List (List Key × V)} {k : List Key} (e : H a = some (.dT kvs)) (eb : H b = some (.tup (k.map kV))) : DGet H a (.ref b) (valV kvs k) := .inr ⟨kvs, k, b, .inl e, rfl, eb, rfl⟩
theorem DPut.t {H : Hp} {a b : Addr} {kvs : List (List Key × V)} {k : List Key} {v : V} (e : H a = some (.dT kvs)) (eb : H b = some (.tup (k.map kV))) (hl : kvs.length < sizeLine) :
 DPut H a (.ref b) v (upd H a (.dT (putK kvs k v))) := .inr ⟨kvs, k, b, e, rfl, eb, hl, rfl⟩
section
variable {X : Cx} {pins : List (Addr × Obj)} {σ : St} {H : Hp} {s : Shared} {a : Addr} {y v : V} {u r : Value} {o : Option V} {A : Around} {E : Value -> Shared -> Prop}
theorem Inv.big (I : Inv X pins σ H s) : sysModules < s.heap.objs.size := by
 have h : mainGlobals < s.heap.objs.size := (I.mod.glob.keeps I.bk).lt
 exact Nat.lt_trans (by decide) h
theorem d_getItem {Q : Value -> Shared -> Prop} (hu : A.units + 1 < cLine) (I : Inv X pins σ H s) (g : DGet H a y (some v)) (ry : RelV y u) (h : ∀ w' s', Inv X pins σ H s' -> RelV v w' -> Q w' s') :
 wpAny (model X.prog X.w) A (getItem (.ref a) u) Q E s := by
 rcases g with ⟨kvs, k, e, ey, l⟩ | ⟨kvs, k, b, e, ey, eb, l⟩
 · subst ey
   obtain ⟨z, hd, vs, rel, dd⟩ := dk_rd I.hok e
   obtain ⟨w', hw, rw'⟩ := RelO.some_of (v := v) (o := valueAt vs k) (by rw [l]; exact rel.val k)
   exact wpAny_getItem_of (kV_is ry) dd.mapOf hw (h w' _ (I.tok _) rw')
 · subst ey
   cases (show u = Value.ref b from ry)
   obtain ⟨z, hd, xs, rel, dd⟩ := dt_rd I.hok e
   obtain ⟨w', hw, rw'⟩ := RelO.some_of (v := v) (o := (atKey xs k).map (·.2)) (by rw [l]; exact rel.val k)
   obtain ⟨p, hp, hp2⟩ := Q0.mp hw
   refine wpAny_getItem_heap (tupleKind_room_in1 hu) (key_of I.hok eb) dd hp ?_
   rw [hp2]
   exact h w' _ (I.tok _) rw'
theorem d_notIn {Q : Value -> Shared -> Prop} (hu : A.units + 1 < cLine) (I : Inv X pins σ H s) (g : DGet H a y o) (ry : RelV y u) (h : ∀ s', Inv X pins σ H s' -> Q (.bool (!o.isSome)) s') :
 wpAny (model X.prog X.w) A (compareOp .NotIn u (.ref a)) Q E s := by
 rcases g with ⟨kvs, k, e, ey, l⟩ | ⟨kvs, k, b, e, ey, eb, l⟩
 · subst ey
   obtain ⟨z, hd, vs, rel, dd⟩ := dk_rd I.hok e
   refine wpAny_notIn_of (kV_is ry) hd dd.mapOf ?_
   rw [<- (rel.val k).isSome_eq, <- l]
   exact h _ (I.tok _)
 · subst ey
   cases (show u = Value.ref b from ry)
   obtain ⟨z, hd, xs, rel, dd⟩ := dt_rd I.hok e
   refine wpAny_notIn_heap (tupleKind_room_in1 hu) (key_of I.hok eb) hd dd ?_
   have q := (rel.val k).isSome_eq
   rw [Option.isSome_map] at q
   rw [<- q, <- l]
   exact h _ (I.tok _)
theorem d_write {h' : Heap} {t' : Nat} {ob : HO} (I : Inv X pins σ H s) (mu : Mut (H a)) (hs : Heap.SameBut a s.heap h') (he : ∃ q, h'.get? a = some q) (new : ObjOk X.prog X.w (upd H a ob) h' a ob) :
 Inv X pins σ (upd H a ob) { s with heap := h', toks := t' } :=
 I.write (x := a) (e := a) mu (.inl rfl) (λ b q hb z => (hs.2 b hb).trans z) he new
theorem dk_new {P : Program} {w : World} {H' : Hp} {h' : Heap} {kvs : List (Key × V)} {vs : List (Key × Value)} (z : kvs.length <= sizeLine) (hd : (a == sysModules) = false) (rel : KV kvs vs) (dd : h'.DictOf (mixKind P w) a vs) :
 ObjOk P w H' h' a (.dK kvs) := ⟨z, hd, vs, rel, dd⟩
theorem d_setItem {H' : Hp} {Q : Unit -> Shared -> Prop} (hu : A.units + 1 < cLine) (I : Inv X pins σ H s) (g : DPut H a y v H') (ry : RelV y u) (rv : RelV v r) (h : ∀ s', Inv X pins σ H' s' -> Q () s') :
 wpAny (model X.prog X.w) A (setItem (.ref a) u r) Q E s := by
 rcases g with ⟨kvs, k, e, ey, l, eH⟩ | ⟨kvs, k, b, e, ey, eb, l, eH⟩
 · subst ey eH
   obtain ⟨z, hd, vs, rel, dd⟩ := dk_of I.hok e
   have hz : vs.length <= sizeLine := by rw [<- rel.length]; exact z
   have hl : (putK kvs k v).length <= sizeLine := by have := length_putK kvs k v; omega
   refine wpAny_setItem_pairs (hsz := hz) (kV_is ry) dd λ h' dd' hs => h _ ?_
   have he : ∃ q, h'.get? a = some q := let ⟨q, _, _, hq, _⟩ := dd'; ⟨q, hq⟩
   exact d_write I (by rw [e]; exact True.intro) hs he (dk_new hl hd (rel.put k rv) dd')
 · subst ey eH
   cases (show u = Value.ref b from ry)
   obtain ⟨z, hd, xs, rel, o, es, ep, h1, h2, h3, h4, h5, h6⟩ := (show ObjOk X.prog X.w H s.heap a (.dT kvs) from I.hok a _ e)
   have rel : KT H kvs xs := rel
   have hz : xs.length <= sizeLine := by rw [<- Paired.length rel]; exact z
   have hl : (putK kvs k v).length <= sizeLine := by have := length_putK kvs k v; omega
   refine setItem_ep (tupleKind_room_in1 hu) (key_of I.hok eb) h1 h2 h3 h4 (kt_all I.hok rel) h5 h6 (λ h' q es' hq g2 g3 g4 g5 hs => h _ ?_) hz
   refine d_write I (by rw [e]; exact True.intro) hs ⟨q, hq⟩ ⟨hl, hd, _, (rel.put k eb rv).keeps λ c ys ec => ?_, q, es', _, hq, g2, g3, g4, g5, rfl⟩
   rw [upd_ne (ne_of ec e (λ z => nomatch z))]
   exact ec
end
section
variable {X : Cx} {pins : List (Addr × Obj)} {σ : St} {H : Hp} {s : Shared} {a : Addr} {kvs : List (Key × V)} {k : Key} {u : Value} {A : Around} {E : Value -> Shared -> Prop}
end
def NoSl (i : Expr) : Prop := ∀ ov iv, subscripted i false ov iv = operate [ov, iv] (getItem ov iv)
theorem subD_of {prog : Program} {w : World} {A : Around} {E : Value -> Shared -> Prop} {s : Shared} {env : Env} {value slice : Expr} {pos : Pos} {T id : String} {Q : Value -> Shared -> Prop}
 (hl : typeLookup (.type T) "__getitem__" = pure (some (.builtin id))) (hs : NoSl slice)
 (h : wpAny (model prog w) A (eval value env) (λ o s₁ => wpAny (model prog w) A (eval slice env) (λ i s₂ => s₂.TypeIs o T /\ wpAny (model prog w) A (getItem o i) Q E s₂) E s₁) E s) :
 wpAny (model prog w) A (eval (.Subscript value slice pos) env) Q E s := by
 refine Subscript_ (wpAny_mono h (λ o s₁ h₁ => wpAny_mono h₁ (λ i s₂ h₂ => ?_) λ _ _ x => x) λ _ _ x => x)
 obtain ⟨hT, h₂⟩ := h₂
 unfold subscriptTail
 refine wB ?_
 rw [getitemInPython_of_ne hT.not_modules]
 refine wB (wpAny_specialOf hT hl ?_)
 have fin : wpAny (model prog w) A (subscripted slice false o i) (λ r s₃ => wpAny (model prog w) A (letTemporaryGo value o r >>= λ _ => pure r) Q E s₃) E s₂ := by
  rw [hs o i]
  exact wpAny_operating (wpAny_mono h₂ (λ r s₃ h₃ => wB (wpAny_letTemporaryGo (wP h₃))) λ _ _ x => x)
 first
  | exact wP (wB fin)
  | exact wB (wP (wB fin))
  | exact wB fin
theorem dict_typeIs {X : Cx} {pins : List (Addr × Obj)} {σ : St} {H : Hp} {s : Shared} {a : Addr} {y : V} {o : Option V} (I : Inv X pins σ H s) (g : DGet H a y o) : s.TypeIs (.ref a) "dict" := by
 rcases g with ⟨kvs, k, e, _, _⟩ | ⟨kvs, k, b, e, _, _, _⟩
 · obtain ⟨_, _, vs, _, dd⟩ := dk_rd I.hok e
   exact dd.typeIs
 · obtain ⟨_, _, xs, _, dd⟩ := dt_rd I.hok e
   exact dd.typeIs
def tDGet (td ty : TE) : TE := λ σ H Q => td σ H λ x H1 => ty σ H1 λ y H2 => ∃ a v, x = .ref a /\ DGet H2 a y (some v) /\ Q v H2
def tDNotIn (ty td : TE) : TE := λ σ H Q => ty σ H λ y H1 => td σ H1 λ x H2 => ∃ a o, x = .ref a /\ DGet H2 a y o /\ Q (.bl (!o.isSome)) H2
def sDPut (td ty tv : TE) : TS := λ D σ H => tv σ H λ v H1 => td σ H1 λ x H2 => ty σ H2 λ y H3 => ∃ a H4, x = .ref a /\ DPut H3 a y v H4 /\ D.nx σ H4
section
variable {X : Cx} {o i e value : Expr} {pos pos' tpos : Pos} {td ty tv : TE}
theorem pe_dget (hu : X.A.units + 1 < cLine) (ho : PE X o td) (hi : PE X i ty) (hs : NoSl i) : PE X (.Subscript o i pos) (tDGet td ty) := by
 intro pins s σ H Q I h
 refine subD_of PySem.F.slot_dict_getitem.lookup hs (thn (ho pins s σ H _ I h) λ u s1 ⟨x, H1, I1, rx, q1⟩ => thn (hi pins s1 σ H1 _ I1 q1) λ iv s2 q_ => ?_)
 obtain ⟨y, H2, I2, ry, a, v, ex, g, q2⟩ := q_
 subst ex
 obtain rfl : u = Value.ref a := rx
 exact ⟨dict_typeIs I2 g, d_getItem hu I2 g ry λ w' s3 I3 rw' => ⟨v, H2, I3, rw', q2⟩⟩
theorem pc_dnotin (hu : X.A.units + 1 < cLine) (hi : PE X i ty) (ho : PE X o td) : PC X .NotIn i o (tDNotIn ty td) := by
 intro pins s σ H Q I h
 refine thn (hi pins s σ H _ I h) λ iv s1 ⟨y, H1, I1, ry, q1⟩ => thn (ho pins s1 σ H1 _ I1 q1) λ u s2 q_ => ?_
 obtain ⟨x, H2, I2, rx, a, ov, ex, g, q2⟩ := q_
 subst ex
 obtain rfl : u = Value.ref a := rx
 exact d_notIn hu I2 g ry λ s3 I3 => ⟨.bl (!ov.isSome), H2, I3, rfl, q2⟩
theorem ps_dput (hu : X.A.units + 1 < cLine) (ho : PE X o td) (hi : PE X i ty) (hv : PE X value tv) (hs : swapsWith value (some (.Subscript o i pos')) pos.line X.env = pure false) :
 PS X (.Assign [.Subscript o i pos'] value pos) (sDPut td ty tv) := by
 intro pins s σ H D I h
 refine wpAny_Assign_Subscript (thn (hv pins s σ H _ I h) λ r s1 ⟨v, H1, I1, rv, q1⟩ => thn (ho pins s1 σ H1 _ I1 q1) λ u s2 ⟨x, H2, I2, rx, q2⟩ => thn (hi pins s2 σ H2 _ I2 q2) λ iv s3 q_ => ?_) hs
 obtain ⟨y, H3, I3, ry, a, H4, ex, g, q3⟩ := q_
 subst ex
 obtain rfl : u = Value.ref a := rx
 exact d_setItem hu I3 g ry rv λ s4 I4 => ⟨σ, H4, I4, q3⟩
end
theorem dt_empty {P : Program} {w : World} {H : Hp} (h : Heap) (hb : sysModules < h.objs.size) : ObjOk P w H (h.push { cls := .type "dict", data := .dict #[] }) h.objs.size (.dT []) :=
 ⟨zU _, beq_eq_false_iff_ne.mpr (Ne.symm (nNl hb)), [], .nil, _, #[], 0, hPs _ rfl, ⟨rfl, rfl, rfl⟩, rfl, rfl, List.nodup_nil, rfl⟩
def tDNewT : TE := λ _ H Q => ∀ p, H p = none -> Q (.ref p) (upd H p (.dT []))
section
variable {X : Cx} {pos : Pos}
theorem pe_dnewT : PE X (.Dict [] [] pos) tDNewT := λ pins s σ H Q I h =>
 wpAny_Dict_empty ⟨.ref s.heap.objs.size, _, I.laid (a := s.heap.objs.size) (o := .dT []) (t' := s.toks) (λ _ _ q => hPo _ q) (Q1 _) (dt_empty s.heap I.big), rfl, h _ (I.hok.fresh (Q1 _))⟩
end
structure M2 (X : Cx) (o : Expr) (m : Str) (apos : Pos) (e f : Expr) (cpos : Pos) : Prop where
 base : attributeBase o m X.env (eval o X.env) = eval o X.env
 few : ((backTo cpos (starEach [e, f] X.env)).all (λ x => !x.1) && (backToKw cpos (keywordEach [] X.env)).all (λ x => x.1.isSome)
  && decide (([e, f] : List Expr).length + ([] : List Keyword).length + (if ([] : List Keyword).isEmpty then 0 else 1) < 30)) = true
 line : (apos.endLine == cpos.line) = true
 trees : backTo cpos (starEach [e, f] X.env) = [(false, eval e X.env), (false, eval f X.env)]
def IsDc (H : Hp) (a : Addr) : Prop := (∃ kvs, Rd H a (.dK kvs)) \/ ∃ kvs, Rd H a (.dT kvs)
theorem isD_at {X : Cx} {pins : List (Addr × Obj)} {σ : St} {H : Hp} {s : Shared} {a : Addr} (I : Inv X pins σ H s) (d : IsDc H a) :
 s.TypeIs (.ref a) "dict" /\ (∀ b, Value.ref a = .ref b -> ∃ ob, s.heap.get? b = some ob /\ ob.dict = none) /\ (a == sysModules) = false := by
 rcases d with ⟨kvs, e⟩ | ⟨kvs, e⟩
 · obtain ⟨_, hd, vs, _, dd⟩ := dk_rd I.hok e
   refine ⟨dd.typeIs, λ b q => ?_, hd⟩
   cases q
   obtain ⟨ob, _, _, h1, h2, _⟩ := dd
   exact ⟨ob, h1, h2.2.1⟩
 · obtain ⟨_, hd, xs, _, dd⟩ := dt_rd I.hok e
   refine ⟨dd.typeIs, λ b q => ?_, hd⟩
   cases q
   obtain ⟨ob, _, _, h1, h2, _⟩ := dd
   exact ⟨ob, h1, h2.2.1⟩
section
variable {X : Cx} {pins : List (Addr × Obj)} {σ : St} {H : Hp} {s : Shared} {a : Addr} {y d : V} {u r : Value} {o : Option V} {A : Around} {E : Value -> Shared -> Prop}
theorem d_get2 {Q : Value -> Shared -> Prop} (hu : A.units + 1 < cLine) (I : Inv X pins σ H s) (g : DGet H a y o) (ry : RelV y u) (rd : RelV d r) (h : ∀ w' s', Inv X pins σ H s' -> RelV (o.getD d) w' -> Q w' s') :
 wpAny (model X.prog X.w) A (call (.builtin "dict.get") [.ref a, u, r]) Q E s := by
 rcases g with ⟨kvs, k, e, ey, l⟩ | ⟨kvs, k, b, e, ey, eb, l⟩
 · subst ey
   obtain ⟨z, hd, vs, rel, dd⟩ := dk_rd I.hok e
   refine call_meetsIn PySem.F.slot_dict_get dd.typeIs PySem.F.entry_dict_get (PySem.F.args_dict_get_3 _ _ _) (meets_dict_get_default (mixKind X.prog X.w) a (kV_is ry) hd r) ⟨_, dd.mapOf, h _ _ (I.tok _) ?_⟩
   rw [l]
   exact (rel.val k).getD rd
 · subst ey
   cases (show u = Value.ref b from ry)
   obtain ⟨z, hd, xs, rel, dd⟩ := dt_rd I.hok e
   refine call_meetsIn PySem.F.slot_dict_get dd.typeIs PySem.F.entry_dict_get (PySem.F.args_dict_get_3 _ _ _) (meetsH_dict_get_default (tupleKind (mixKind X.prog X.w)) a b hd r) ⟨tupleKind_room_in1 hu, k, xs, key_of I.hok eb, dd, h _ _ (I.tok _) ?_⟩
   rw [l]
   exact (rel.val k).getD rd
end
def tDGet2 (td ty tx : TE) : TE := λ σ H Q => td σ H λ x H1 => ∃ a, x = .ref a /\ IsDc H1 a /\ ty σ H1 λ y H2 => tx σ H2 λ z H3 => ∃ o, DGet H3 a y o /\ Q (o.getD z) H3
section
variable {X : Cx} {o e f : Expr} {apos cpos : Pos} {td ty tx : TE}
theorem pe_dget2 (hu : X.A.units + 1 < cLine) (ho : PE X o td) (he : PE X e ty) (hf : PE X f tx) (m : M2 X o "get" apos e f cpos) : PE X (.Call (.Attribute o "get" apos) [e, f] [] cpos) (tDGet2 td ty tx) := by
 intro pins s σ H Q I h
 refine wpAny_Call_method m.base m.few m.line PySem.F.plainAttrs_dict PySem.F.slot_dict_get PySem.F.type_dict_get (thn (ho pins s σ H _ I h) λ u s1 q_ => ?_)
 obtain ⟨x, H1, I1, rx, a, ex, d, q1⟩ := q_
 subst ex
 obtain rfl : u = Value.ref a := rx
 obtain ⟨t1, t2, _⟩ := isD_at I1 d
 refine ⟨t1, t2, ?_⟩
 rw [m.trees]
 refine Calls.callWith_builtin rfl (Calls.evalArgs_plain (Calls.spliced_cons (thn (he pins s1 σ H1 _ I1 q1) λ iv s2 ⟨y, H2, I2, ry, q2⟩ =>
  Calls.spliced_cons (thn (hf pins s2 σ H2 _ I2 q2) λ fv s3 ⟨z, H3, I3, rz, ov, g, q3⟩ => Calls.spliced_nil ?_))))
 exact d_get2 hu I3 g ry rz λ w' s4 I4 rw' => ⟨_, H3, I4, rw', q3⟩
end
section
variable {X : Cx} {pins : List (Addr × Obj)} {σ : St} {H : Hp} {s : Shared} {a : Addr} {kvs : List (Key × V)} {A : Around} {E : Value -> Shared -> Prop}
end
section
variable {X : Cx} {pins : List (Addr × Obj)} {σ : St} {H : Hp} {s : Shared} {a : Addr} {y : V} {u : Value} {A : Around} {E : Value -> Shared -> Prop}
end
end L2
namespace DL
open PySem L2
section
variable {K : Fg} {H0 F0 F : Hp} {σ : St} {H : Hp} {δ : DSt}
theorem Rep.setD (R : Rep K H0 F0 F σ H δ) {i : Nat} {a : Addr} {m : HO} {kvs : List (PyData × PyData)} (ha : H a = some m) (hf : F a = none) (h0 : H0 a = none) (h : DcO K F m kvs)
 (hn : ∀ j es, j ≠ i -> δ[j]? = some (some (.od es)) -> σ[j]? ≠ some (some (.ref a))) : Rep K H0 F0 F (σ.set i (some (.ref a))) H (δ.set i (some (.od kvs))) where
 g := R.g
 len := by rw [Qe, Qe]; exact R.len
 fz := λ j e q => by
  rcases get_set q with ⟨rfl, z⟩ | ⟨n, q⟩
  · cases z
  · rw [set_get_ne n]; exact R.fz j e q
 ow := λ j es q => by
  rcases get_set q with ⟨rfl, z⟩ | ⟨n, q⟩
  · cases z
  · rw [set_get_ne n]; exact R.ow j es q
 ap := λ j k ds es b q1 q2 q3 q4 => by
  rcases get_set q1 with ⟨rfl, z⟩ | ⟨n1, q1⟩
  · cases z
  · rcases get_set q2 with ⟨rfl, z⟩ | ⟨n2, q2⟩
    · cases z
    · rw [set_get_ne n1] at q3
      rw [set_get_ne n2] at q4
      exact R.ap j k ds es b q1 q2 q3 q4
 od := λ j es q => by
  have hj := lt_of_get q
  rw [Qe] at hj
  rcases get_set q with ⟨rfl, z⟩ | ⟨n, q⟩
  · injection z with z
    injection z with z
    subst z
    exact ⟨a, m, set_get (by rw [R.len]; exact hj), ha, hf, h0, h⟩
  · rw [set_get_ne n]; exact R.od j es q
 ad := λ j k ds' es' b q1 q2 q3 q4 => by
  have hj := lt_of_get q1
  have hk := lt_of_get q2
  rw [Qe] at hj hk
  rcases get_set q1 with ⟨ej, z⟩ | ⟨n1, p1⟩
  · rcases get_set q2 with ⟨ek, z2⟩ | ⟨n2, p2⟩
    · rw [ej, ek]
    · rw [ej, set_get (by rw [R.len, <- ej]; exact hj)] at q3
      rw [set_get_ne n2] at q4
      cases q3
      exact absurd q4 (hn k es' n2 p2)
  · rcases get_set q2 with ⟨ek, z⟩ | ⟨n2, p2⟩
    · rw [ek, set_get (by rw [R.len, <- ek]; exact hk)] at q4
      rw [set_get_ne n1] at q3
      cases q4
      exact absurd q3 (hn j ds' n1 p1)
    · rw [set_get_ne n1] at q3
      rw [set_get_ne n2] at q4
      exact R.ad j k ds' es' b p1 p2 q3 q4
 tb := R.tb
theorem Rep.mutD (R : Rep K H0 F0 F σ H δ) {i : Nat} {a : Addr} {m : HO} {es ds : List (PyData × PyData)} (e : δ[i]? = some (some (.od es))) (hs : σ[i]? = some (some (.ref a))) (hf : F a = none) (h0 : H0 a = none) (h : DcO K F m ds) :
 Rep K H0 F0 F σ (upd H a m) (δ.set i (some (.od ds))) where
 g := ⟨R.g.f, λ b u q => by rw [upd_ne (ne_of_none q hf)]; exact R.g.s b u q, λ b u q => by rw [upd_ne (ne_of_none q h0)]; exact R.g.h b u q, R.g.o⟩
 len := by rw [Qe]; exact R.len
 fz := λ j d q => by
  rcases get_set q with ⟨rfl, z⟩ | ⟨n, q⟩
  · cases z
  · exact R.fz j d q
 ow := λ j us q => by
  rcases get_set q with ⟨rfl, z⟩ | ⟨n, q⟩
  · cases z
  · obtain ⟨b, m, q1, q2, q3, q4, q5⟩ := R.ow j us q
    have nb : b ≠ a := λ z => by
     subst z
     obtain ⟨b2, ys, w1, w2, _, _, w5⟩ := R.od i es e
     rw [hs] at w1
     cases w1
     rw [q2] at w2
     exact w5.nlst _ (zV w2).symm
    exact ⟨b, m, q1, by rw [upd_ne nb]; exact q2, q3, q4, q5⟩
 ap := λ j k ds' es' b q1 q2 q3 q4 => by
  rcases get_set q1 with ⟨rfl, z⟩ | ⟨n1, q1⟩
  · cases z
  · rcases get_set q2 with ⟨rfl, z⟩ | ⟨n2, q2⟩
    · cases z
    · exact R.ap j k ds' es' b q1 q2 q3 q4
 od := λ j us q => by
  rcases get_set q with ⟨rfl, z⟩ | ⟨n, q⟩
  · injection z with z
    injection z with z
    subst z
    exact ⟨a, m, hs, upd_same, hf, h0, h⟩
  · obtain ⟨b, ys, q1, q2, q3, q4, q5⟩ := R.od j us q
    have nb : b ≠ a := λ z => by subst z; exact n (R.ad j i us es b q e q1 hs)
    exact ⟨b, ys, q1, by rw [upd_ne nb]; exact q2, q3, q4, q5⟩
 ad := λ j k ds' es' b q1 q2 q3 q4 => by
  have f : ∀ {m : Nat} {us : List (PyData × PyData)}, (δ.set i (some (Sl.od ds)))[m]? = some (some (Sl.od us)) -> ∃ us' : List (PyData × PyData), δ[m]? = some (some (Sl.od us')) := λ {m us} q => by
   rcases get_set q with ⟨em, z⟩ | ⟨n, q⟩
   · exact ⟨es, by rw [em]; exact e⟩
   · exact ⟨us, q⟩
  obtain ⟨u1, p1⟩ := f q1
  obtain ⟨u2, p2⟩ := f q2
  exact R.ad j k u1 u2 b p1 p2 q3 q4
 tb := R.tb
end
section
variable {K : Fg}
noncomputable def dSetD (i : Nat) (δ : DSt) : Option DFlow := some (.nx (δ.set i (some (.od []))))
theorem ss_setD (i : Nat) : SS K (tAsg tDNewT (gName i)) (dSetD i) := by
 intro H0 F0 F σ H δ r D R e h
 cases e
 intro p hp
 have g1 : Grow F H F (upd H p (.dT [])) := Grow.fresh R.g.s hp
 refine h F _ _ ((R.grow g1).setD upd_same (R.g.s.free hp) (R.g.h.free hp) (.inl ⟨[], rfl, rfl⟩) λ j es nj ej => ?_) (Same.refl _)
 obtain ⟨b, ys, q1, q2, _⟩ := R.od j es ej
 rw [q1]
 intro z
 cases z
 rw [q2] at hp
 cases hp
noncomputable def putP (kvs : List (PyData × PyData)) (k : List Int) (v : PyData) : List (PyData × PyData) :=
 if (kvs.any λ p => decide (keyD p.1 = some k)) = true then kvs.map λ p => if keyD p.1 = some k then (p.1, v) else p else kvs ++ [(.tuple (k.map .int), v)]
end
section
variable {K : Fg}
theorem key_iff {q : List Key} {k : List Int} : keyD (.tuple (q.map kD)) = some k ↔ q = k.map Sum.inl := by
 constructor
 · intro h
   exact kD_ints (intsD_some h)
 · intro h
   subst h
   show intsD ((k.map Sum.inl).map kD) = some k
   rw [zO]
   exact intsD_map k
theorem kvs_len {F : Hp} : ∀ {m : List (List Key × V)} {kvs : List (PyData × PyData)}, Kvs K F m kvs -> m.length = kvs.length
 | _, [], h => by rw [show _ = [] from h]; rfl
 | _, p :: r, h => by
  obtain ⟨q, m', rfl, _, h2⟩ := h
  rw [zC, zC, kvs_len h2]
theorem kvs_any {F : Hp} {k : List Int} : ∀ {m : List (List Key × V)} {kvs : List (PyData × PyData)}, Kvs K F m kvs -> (m.any λ kv => decide (kv.1 = k.map Sum.inl)) = kvs.any λ p => decide (keyD p.1 = some k)
 | _, [], h => by rw [show _ = [] from h]; rfl
 | _, (pk, pd) :: r, h => by
  obtain ⟨q, m', rfl, ⟨h1, _⟩, h2⟩ := h
  rw [List.any_cons, List.any_cons, kvs_any h2, h1]
  congr 1
  exact decide_eq_decide.mpr key_iff.symm
theorem kvs_repl {F : Hp} {k : List Int} {v : V} {d : PyData} (hv : Is K F v d) : ∀ {m : List (List Key × V)} {kvs : List (PyData × PyData)}, Kvs K F m kvs -> Kvs K F (m.map λ kv => if kv.1 = k.map Sum.inl then (kv.1, v) else kv) (kvs.map λ p => if keyD p.1 = some k then (p.1, d) else p)
 | _, [], h => by rw [show _ = [] from h]; exact rfl
 | _, (pk, pd) :: r, h => by
  obtain ⟨q, m', rfl, ⟨h1, h3⟩, h2⟩ := h
  refine ⟨_, _, rfl, ?_, kvs_repl hv h2⟩
  show Kv K F (if q.1 = k.map Sum.inl then (q.1, v) else q) (if keyD pk = some k then (pk, d) else (pk, pd))
  by_cases e : q.1 = k.map Sum.inl
  · rw [if_pos e, if_pos (by rw [h1]; exact key_iff.mpr e)]
    exact ⟨h1, hv⟩
  · rw [if_neg e, if_neg (by rw [h1]; exact λ z => e (key_iff.mp z))]
    exact ⟨h1, h3⟩
theorem kvs_snoc {F : Hp} {k : List Key} {v : V} {d : PyData} (hv : Is K F v d) : ∀ {m : List (List Key × V)} {kvs : List (PyData × PyData)}, Kvs K F m kvs -> Kvs K F (m ++ [(k, v)]) (kvs ++ [(.tuple (k.map kD), d)])
 | _, [], h => by rw [show _ = [] from h]; exact ⟨(k, v), [], rfl, ⟨rfl, hv⟩, rfl⟩
 | _, p :: r, h => by
  obtain ⟨q, m', rfl, h1, h2⟩ := h
  exact ⟨q, _, rfl, h1, kvs_snoc hv h2⟩
theorem kvs_put {F : Hp} {k : List Int} {v : V} {d : PyData} (hv : Is K F v d) {m : List (List Key × V)} {kvs : List (PyData × PyData)} (h : Kvs K F m kvs) : Kvs K F (putK m (k.map Sum.inl) v) (putP kvs k d) := by
 unfold putK putP
 rw [kvs_any h]
 split
 · exact kvs_repl hv h
 · have := kvs_snoc (k := k.map Sum.inl) hv h
   rw [zO] at this
   exact this
noncomputable def tkd : List (PyData × PyData) -> Bool
 | (.none, _) :: _ => false
 | _ => true
theorem tkd_no {F : Hp} {m : List (Key × V)} {kvs : List (PyData × PyData)} (h : KvsS K F m kvs) : tkd kvs = false := by
 cases kvs with
 | nil => exact h.elim
 | cons p r =>
  obtain ⟨rfl, _⟩ := h
  rfl
noncomputable def dPut (i : Nat) (fk fv : DSt -> Option PyData) (δ : DSt) : Option DFlow := (fv δ).bind λ v => (fk δ).bind λ k => match δ[i]? with
 | some (some (.od kvs)) => (keyD k).bind λ ks => if kvs.length < LIM then if tkd kvs = true then some (.nx (δ.set i (some (.od (putP kvs ks v))))) else none else none
 | _ => none
theorem ss_dput (i : Nat) {tv ty : TE} {fk fv : DSt -> Option PyData} (b : SE K ty fk) (a : SE K tv fv) : SS K (sDPut (tVar i) ty tv) (dPut i fk fv) := by
 intro H0 F0 F σ H δ r D R e h
 obtain ⟨v, e1, e⟩ := bind_some e
 obtain ⟨kk, e2, e⟩ := bind_some e
 split at e
 · rename_i kvs q
   obtain ⟨ks, e3, e⟩ := bind_some e
   split at e
   · rename_i hl
     split at e
     rotate_left
     · cases e
     rename_i ht
     cases e
     obtain ⟨p, o, q1, q2, q3, q4, q5⟩ := R.od i kvs q
     refine a H0 F0 F σ H δ v _ R e1 λ x H1 F1 g1 i1 => ⟨.ref p, q1, b H0 F0 F1 σ H1 δ kk _ (R.grow g1) e2 λ y H2 F2 g2 i2 => ?_⟩
     unfold keyD at e3
     split at e3
     · rename_i ds
       obtain ⟨c, xs, rfl, w1, w2⟩ := i2
       rw [intsD_some e3] at w2
       have w3 := Are.ints.mp w2
       subst w3
       have hm : H2 p = some o := g2.h _ _ (g1.h _ _ q2)
       have hc : H2 c = some (.tup ((ks.map (Sum.inl : Int -> Key)).map kV)) := by
        rw [key_ints]
        exact g2.s _ _ w1
       have g := g1.trans g2
       rcases q5 with ⟨m, rfl, q5⟩ | ⟨m, rfl, q5⟩
       · refine ⟨p, _, rfl, DPut.t hm hc (by rw [kvs_len q5]; exact lim_lt (nLe hl)), ?_⟩
         exact h F2 σ _ ((R.grow g).mutD q q1 (g.o _ _ q2 (λ _ z => nomatch z) q3) q4 (.inl ⟨_, rfl, kvs_put (i1.same g2.f) (Kvs.same g.f _ q5)⟩)) g.f
       · rw [tkd_no q5] at ht
         cases ht
     · cases e3
   · cases e
 · cases e
end
end DL
namespace L2
open PySem PySem.Spec PyProof.Rows
mutual
noncomputable def ltD : PyData -> PyData -> Option Bool
 | .int i, .int j => some (decide (i < j))
 | .bool p, .bool q => some (decide (b2i p < b2i q))
 | .tuple xs, .tuple ys => ltL xs ys
 | _, _ => none
noncomputable def ltL : List PyData -> List PyData -> Option Bool
 | [], [] => some false
 | [], _ :: _ => some true
 | _ :: _, [] => some false
 | x :: xs, y :: ys => if PyData.eqv x y = true then ltL xs ys else ltD x y
end
def LtAt (A : Around) (s : Shared) (a b : Value) (r : Bool) : Prop :=
 ∀ (prog : Program) (w : World) (E : Value -> Shared -> Prop) (Q : Value -> Shared -> Prop), Q (.bool r) s -> wpAny (model prog w) A (richCompare .Lt a b) Q E s
noncomputable def LexAt (A : Around) (s : Shared) (fin : Bool) : List Value -> List Value -> Bool -> Prop
 | v :: vs, w :: ws, r => (SeqAt.EqAt A s v w true /\ LexAt A s fin vs ws r) \/ (SeqAt.EqAt A s v w false /\ LtAt A s v w r)
 | _, _, r => r = fin
section
open PySem.SeqAt
open PySem.AutoSeq1 (wpAny_loadPart')
open PySem.MeetsSeq PySem.MeetsSeq2 PySem.MeetsSeq3
theorem tuple_lt_gen (l b : Addr) (items items2 : Array Value) (n n2 : Nat) (dd dd2 : Option Addr) (sl sl2 : Array (Option Value)) (r : Bool) :
 Meets (Builtin.«tuple.__lt__» ⟨[.ref l, .ref b], []⟩)
  (λ A R s => s.heap.get? l = some { cls := .type "tuple", dict := dd, data := .seq items n, slots := sl } /\ s.heap.get? b = some { cls := .type "tuple", dict := dd2, data := .seq items2 n2, slots := sl2 } /\
   LexAt A.in1 s (decide (items.size < items2.size)) items.toList items2.toList r /\ R (.ok (.ret (.bool r))) s) :=
 .of_wp λ prog w A R s h => by
  obtain ⟨hp, g, d, tk, os⟩ := s; obtain ⟨hl, hb, hx, h⟩ := h
  have f2 := AutoSeq1.sub_tuple_tuple
  wp_walk using wpAny_loadPart' hl, wpAny_loadPart' hb, wpAny_forIn_list _ (λ rest b s' => b.1 = none /\ s' = ⟨hp, g, d, tk, os⟩ /\ ∃ (vs ws : List Value), rest = vs.zip ws /\
   LexAt A.in1 ⟨hp, g, d, tk, os⟩ (decide (items.size < items2.size)) vs ws r) _
  case turn =>
   rintro ⟨y, x⟩ rest b s' ⟨hb', rfl, vs, ws, hz, hL⟩
   cases vs with
   | nil => rw [List.zip_nil_left] at hz; cases hz
   | cons v vs =>
    cases ws with
    | nil => rw [List.zip_nil_right] at hz; cases hz
    | cons u ws =>
     rw [List.zip_cons_cons] at hz
     injection hz with hyx hrest
     injection hyx with hy hx
     subst hy hx
     rcases hL with ⟨he, hL⟩ | ⟨he, hlt⟩
     · refine wB (he prog w _ _ ?_)
       wp_walk
       exact ⟨rfl, rfl, _, _, hrest, hL⟩
     · refine wB (he prog w _ _ ?_)
       have hri := hlt prog w
       wp_walk using hri
       exact ⟨_, rfl, by simpa using h⟩
  case fin =>
   rintro ⟨b1, b2⟩ s' ⟨hb', rfl, vs, ws, hz, hL⟩
   simp only at hb'
   subst hb'
   have hv : r = decide (items.size < items2.size) := by
    cases vs with
    | nil => cases ws <;> exact hL
    | cons v vs =>
     cases ws with
     | nil => exact hL
     | cons u ws => rw [List.zip_cons_cons] at hz; cases hz
   subst hv
   wp_walk
   exact ⟨_, rfl, by simpa [Builtin.Tuple.tupleCompareSizes] using h⟩
  case h =>
   exact ⟨rfl, rfl, items.toList, items2.toList, rfl, hx⟩
end
theorem ltAt_tup {A : Around} {s : Shared} {l b : Addr} {items items2 : Array Value} {r : Bool} (hl : s.heap.IsTuple l items) (hb : s.heap.IsTuple b items2) (hu : A.units < cLine) (hx : LexAt A.in1 s (decide (items.size < items2.size)) items.toList items2.toList r) :
 LtAt A s (.ref l) (.ref b) r := by
 intro prog w E Q h
 obtain ⟨⟨cls, dd, data, sl⟩, ho, hc, n, hd⟩ := id hl
 obtain ⟨⟨cls2, dd2, data2, sl2⟩, ho2, hc2, n2, hd2⟩ := id hb
 simp only at hc hd hc2 hd2
 subst hc hd hc2 hd2
 exact richCompare_meets_room (op := .Lt) ⟨_, ho, rfl⟩ ⟨_, ho2, rfl⟩ PySem.F.slot_tuple_lt PySem.F.entry_tuple_lt (PySem.F.args_tuple_lt_2 _ _) (tuple_lt_gen l b items items2 n n2 dd dd2 sl sl2 r)
  ⟨ho, ho2, hx, show Value.bool r ≠ Value.notImplemented /\ Q (.bool r) s from ⟨(λ x => nomatch x), h⟩⟩ hu
open PySem.SeqAt (room_here room_in room_head room_tail)
theorem ltL_fin {xs ys : List PyData} {r : Bool} (h : ltL xs ys = some r) (e : xs = [] \/ ys = []) : r = decide (xs.length < ys.length) := by
 cases xs with
 | nil =>
  cases ys with
  | nil => cases h; rfl
  | cons y ys => cases h; simp
 | cons x xs =>
  cases ys with
  | nil => cases h; simp
  | cons y ys => rcases e with e | e <;> cases e
mutual
theorem ltAt_reads : ∀ (da db : PyData) (A : Around) (s : Shared) (a b : Value) (as bs : List Addr) (r : Bool), Reads s.heap a da as -> Reads s.heap b db bs -> da.canLay0 = true -> db.canLay0 = true ->
 A.units + min da.depth db.depth < cLine -> ltD da db = some r -> LtAt A s a b r
 | .int x, db, A, s, _, _, _, _, r, ra, rb, _, hb, hu, e => by
  cases ra with
  | int _ t =>
   cases rb with
   | int y u =>
    cases e
    exact λ prog w E Q h => (PyProof.Rows.lt_int h : wpAny (model prog w) A (compareOp .Lt _ _) Q E s)
   | _ => cases e
 | .bool x, db, A, s, _, _, _, _, r, ra, rb, _, hb, hu, e => by
  cases ra
  cases rb with
  | bool y =>
   cases e
   exact λ prog w E Q h => (PyProof.Rows.lt_bool h : wpAny (model prog w) A (compareOp .Lt _ _) Q E s)
  | _ => cases e
 | .tuple xs, db, A, s, _, _, _, _, r, ra, rb, ha, hb, hu, e => by
  cases ra with
  | @tuple l o vs n _ as₁ h1 h2 h3 h4 =>
   cases rb with
   | @tuple l' o' vs' n' ys bs₁ k1 k2 k3 k4 =>
    have hl : s.heap.IsTuple l vs := ⟨_, h1, h2, _, h3⟩
    have hl' : s.heap.IsTuple l' vs' := ⟨_, k1, k2, _, k3⟩
    have n1 : vs.size = xs.length := by simpa using SeqAt.ReadsAll.length _ _ _ h4
    have n2 : vs'.size = ys.length := by simpa using SeqAt.ReadsAll.length _ _ _ k4
    refine ltAt_tup hl hl' (room_here hu) ?_
    have e2 : ltL xs ys = some r := by rw [ltD] at e; exact e
    exact lexAt_reads xs ys A.in1 s vs.toList vs'.toList _ _ r _ h4 k4 ha hb (room_in hu) e2 ⟨0, by rw [n1, n2]; rfl⟩
   | _ => simp [ltD] at e
 | .none, _, _, _, _, _, _, _, _, _, _, _, _, _, e => by simp [ltD] at e
 | .str _, _, _, _, _, _, _, _, _, _, _, _, _, _, e => by simp [ltD] at e
 | .list _, _, _, _, _, _, _, _, _, _, _, _, _, _, e => by simp [ltD] at e
 | .dict _, _, _, _, _, _, _, _, _, _, _, _, _, _, e => by simp [ltD] at e
theorem lexAt_reads : ∀ (xs ys : List PyData) (A : Around) (s : Shared) (vs ws : List Value) (as bs : List Addr) (r fin : Bool), ReadsAll s.heap vs xs as -> ReadsAll s.heap ws ys bs -> PyData.canLayAll0 xs = true -> PyData.canLayAll0 ys = true ->
 A.units + min (PyData.depthAll xs) (PyData.depthAll ys) < cLine -> ltL xs ys = some r -> (∃ k, fin = decide (xs.length + k < ys.length + k)) -> LexAt A s fin vs ws r
 | [], ys, A, s, _, ws, _, _, r, fin, ra, rb, _, _, _, e, ⟨k, hf⟩ => by
  cases ra
  have q := ltL_fin e (.inl rfl)
  rw [hf, q]
  show decide _ = decide _
  exact decide_eq_decide.mpr (by omega)
 | x :: xs, [], A, s, _, _, _, _, r, fin, ra, rb, _, _, _, e, ⟨k, hf⟩ => by
  cases rb
  have q := ltL_fin e (.inr rfl)
  cases ra
  rw [hf, q]
  show decide _ = decide _
  exact decide_eq_decide.mpr (by omega)
 | x :: xs, y :: ys, A, s, _, _, _, _, r, fin, ra, rb, ha, hb, hu, e, ⟨k, hf⟩ => by
  have ha' : x.canLay0 = true /\ PyData.canLayAll0 xs = true := by simpa [PyData.canLayAll0] using ha
  have hb' : y.canLay0 = true /\ PyData.canLayAll0 ys = true := by simpa [PyData.canLayAll0] using hb
  cases ra with
  | cons r1 rs =>
   cases rb with
   | cons r1' rs' =>
    have eq := SeqAt.eqAt_reads x y A s _ _ _ _ r1 r1' ha'.1 hb'.1 (room_head hu)
    rw [ltL] at e
    by_cases c : PyData.eqv x y = true
    · rw [if_pos c] at e
      rw [c] at eq
      exact .inl ⟨eq, lexAt_reads xs ys A s _ _ _ _ r fin rs rs' ha'.2 hb'.2 (room_tail hu) e ⟨k + 1, by rw [hf]; exact decide_eq_decide.mpr (by simp only [zC]; omega)⟩⟩
    · rw [if_neg c] at e
      have c' : PyData.eqv x y = false := by simpa using c
      rw [c'] at eq
      exact .inr ⟨eq, ltAt_reads x y A s _ _ _ _ r r1 r1' ha'.1 hb'.1 (room_head hu) e⟩
end
end L2
namespace DL
open PySem L2
section
variable {K : Fg}
noncomputable def isI (n : Int) : PyData -> Bool
 | .int i => decide (i = n)
 | _ => false
theorem isI_kD {n : Int} (q : Key) : isI n (kD q) = decide (q = Sum.inl n) := by
 cases q with
 | inl i => exact decide_eq_decide.mpr ⟨λ e => by rw [e], λ e => Sum.inl.inj e⟩
 | inr x => exact (decide_eq_false (λ e => nomatch e)).symm
noncomputable def putI (kvs : List (PyData × PyData)) (k : Int) (v : PyData) : List (PyData × PyData) :=
 if (kvs.any λ p => isI k p.1) = true then kvs.map λ p => if isI k p.1 = true then (p.1, v) else p else kvs ++ [(.int k, v)]
noncomputable def OvIs (K : Fg) (F : Hp) (ov : Option V) : Option PyData -> Prop
 | none => ov = none
 | some d => ∃ v, ov = some v /\ Is K F v d
noncomputable def kvGetI (n : Int) : List (PyData × PyData) -> Option (Option PyData)
 | (.none, .none) :: r => some ((r.find? λ p => isI n p.1).map (·.2))
 | _ => none
noncomputable def kvGet (kvs : List (PyData × PyData)) : PyData -> Option (Option PyData)
 | .int n => kvGetI n kvs
 | .tuple ds => (intsD ds).bind λ ks => if tkd kvs = true then some ((kvs.find? λ p => decide (keyD p.1 = some ks)).map (·.2)) else none
 | _ => none
theorem kvs_find {F : Hp} {k : List Int} : ∀ {m : List (List Key × V)} {kvs : List (PyData × PyData)}, Kvs K F m kvs -> OvIs K F (valV m (k.map Sum.inl)) ((kvs.find? λ p => decide (keyD p.1 = some k)).map (·.2))
 | _, [], h => by rw [show _ = [] from h]; rfl
 | _, (pk, pd) :: r, h => by
  obtain ⟨q, m', rfl, ⟨h1, h3⟩, h2⟩ := h
  have ih := kvs_find (k := k) h2
  unfold valV at ih ⊢
  by_cases e : q.1 = k.map Sum.inl
  · rw [Q15 (by exact decide_eq_true e), Q15 (by show decide _ = true; rw [h1]; exact decide_eq_true (key_iff.mpr e))]
    exact ⟨_, rfl, h3⟩
  · rw [Q16 (by exact λ z => e (of_decide_eq_true z)), Q16 (by show ¬ decide _ = true; rw [h1]; exact λ z => e (key_iff.mp (of_decide_eq_true z)))]
    exact ih
theorem kvsI_find {F : Hp} {k : Int} : ∀ {m : List (Key × V)} {kvs : List (PyData × PyData)}, KvsI K F m kvs -> OvIs K F (valV m (Sum.inl k)) ((kvs.find? λ p => isI k p.1).map (·.2))
 | _, [], h => by rw [show _ = [] from h]; rfl
 | _, (pk, pd) :: r, h => by
  obtain ⟨q, m', rfl, ⟨h1, h3⟩, h2⟩ := h
  have ih := kvsI_find (k := k) h2
  have e0 : isI k pk = decide (q.1 = Sum.inl k) := by rw [h1]; exact isI_kD q.1
  unfold valV at ih ⊢
  by_cases e : q.1 = Sum.inl k
  · rw [Q15 (by exact decide_eq_true e), Q15 (by show isI k pk = true; rw [e0]; exact decide_eq_true e)]
    exact ⟨_, rfl, h3⟩
  · rw [Q16 (by exact λ z => e (of_decide_eq_true z)), Q16 (by show ¬ isI k pk = true; rw [e0, decide_eq_false e]; decide)]
    exact ih
theorem dget_of {F H : Hp} {a : Addr} {o : HO} {kvs : List (PyData × PyData)} {y : V} {k : PyData} {r : Option PyData} (s : Same F H) (ha : H a = some o) (hd : DcO K F o kvs) (hy : Is K F y k) (e : kvGet kvs k = some r) :
 ∃ ov, DGet H a y ov /\ OvIs K F ov r := by
 cases k with
 | int n =>
  cases (show y = V.int n from hy)
  have e : kvGetI n kvs = some r := e
  unfold kvGetI at e
  split at e
  · rename_i kr
    cases e
    rcases hd with ⟨m, rfl, q⟩ | ⟨m, rfl, q⟩
    · obtain ⟨z, m', _, q6, _⟩ := q
      cases q6.1
    · exact ⟨_, DGet.k (k := Sum.inl n) ha, kvsI_find q.2⟩
  · cases e
 | tuple ds =>
  obtain ⟨ks, e1, e2⟩ := bind_some (show ((intsD ds).bind λ ks => if tkd kvs = true then some ((kvs.find? λ p => decide (keyD p.1 = some ks)).map (·.2)) else none) = some r from e)
  split at e2
  · rename_i ht
    cases e2
    obtain ⟨c, xs, rfl, w1, w2⟩ := hy
    rw [intsD_some e1] at w2
    have w3 := Are.ints.mp w2
    subst w3
    have hc : H c = some (.tup ((ks.map (Sum.inl : Int -> Key)).map kV)) := by
     rw [key_ints]
     exact s _ _ w1
    rcases hd with ⟨m, rfl, q⟩ | ⟨m, rfl, q⟩
    · exact ⟨_, DGet.t ha hc, kvs_find q⟩
    · rw [tkd_no q] at ht
      cases ht
  · cases e2
 | none => cases e
 | bool b => cases e
 | str x => cases e
 | list ds => cases e
 | dict ds => cases e
noncomputable def slotD (i : Nat) (δ : DSt) : Option (List (PyData × PyData)) := match δ[i]? with
 | some (some (.od kvs)) => some kvs
 | _ => none
theorem slotD_at {H0 F0 F : Hp} {σ : St} {H : Hp} {δ : DSt} {i : Nat} {kvs : List (PyData × PyData)} (R : Rep K H0 F0 F σ H δ) (e : slotD i δ = some kvs) : ∃ a o, σ[i]? = some (some (.ref a)) /\ H a = some o /\ DcO K F o kvs := by
 unfold slotD at e
 split at e
 · rename_i kv q
   cases e
   obtain ⟨p, o, q1, q2, q3, q4, q5⟩ := R.od i _ q
   exact ⟨p, o, q1, q2, q5⟩
 · cases e
theorem isDc_of {F H : Hp} {a : Addr} {o : HO} {kvs : List (PyData × PyData)} (ha : H a = some o) (hd : DcO K F o kvs) : IsDc H a := by
 rcases hd with ⟨m, rfl, _⟩ | ⟨m, rfl, _⟩
 · exact .inr ⟨m, .inl ha⟩
 · exact .inl ⟨m, .inl ha⟩
noncomputable def dGet2E (i : Nat) (fk fz : DSt -> Option PyData) (δ : DSt) : Option PyData := (slotD i δ).bind λ kvs => (fk δ).bind λ k => (fz δ).bind λ z => (kvGet kvs k).map λ r => r.getD z
theorem se_dget2E {ty tz : TE} {fk fz : DSt -> Option PyData} (i : Nat) (b : SE K ty fk) (c : SE K tz fz) : SE K (tDGet2 (tVar i) ty tz) (dGet2E i fk fz) := by
 intro H0 F0 F σ H δ d Q R e h
 obtain ⟨kvs, e1, e⟩ := bind_some e
 obtain ⟨k, e2, e⟩ := bind_some e
 obtain ⟨z, e4, e⟩ := bind_some e
 obtain ⟨r, e3, e⟩ := Q0.mp e
 subst e
 obtain ⟨a, o, q1, q2, q3⟩ := slotD_at R e1
 refine ⟨.ref a, q1, a, rfl, isDc_of q2 q3, b H0 F0 F σ H δ k _ R e2 λ y H1 F1 g1 i1 => c H0 F0 F1 σ H1 δ z _ (R.grow g1) e4 λ zv H2 F2 g2 i2 => ?_⟩
 have g := g1.trans g2
 obtain ⟨ov, dg, iv⟩ := dget_of g2.s (g.h _ _ q2) (q3.same g.f) (i1.same g2.f) e3
 refine ⟨ov, dg, h _ H2 F2 g ?_⟩
 cases r with
 | none => rw [show ov = none from iv]; exact i2
 | some d =>
  obtain ⟨v, rfl, iv⟩ := iv
  exact iv
end
end DL
namespace L2
open PySem PySem.Spec PyProof.Rows
noncomputable def mIx (lt : Nat -> Nat -> Bool) : Nat -> Nat
 | 0 => 0
 | n + 1 => if lt (n + 1) (mIx lt n) = true then n + 1 else mIx lt n
theorem mIx_le (lt : Nat -> Nat -> Bool) : ∀ n, mIx lt n <= n
 | 0 => Q1 _
 | n + 1 => by
  unfold mIx
  split
  · exact Q1 _
  · exact Nat.le_succ_of_le (mIx_le lt n)
theorem vals_get {xs : List V} {us : List Value} (r : Vals xs us) {i : Nat} {u : Value} (e : us[i]? = some u) : ∃ x, xs[i]? = some x /\ RelV x u := by
 induction r generalizing i with
 | nil => simp at e
 | cons h _ ih =>
  cases i with
  | zero =>
   simp at e
   subst e
   exact ⟨_, rfl, h⟩
  | succ i => exact ih (by simpa using e)
section
variable {X : Cx} {pins : List (Addr × Obj)} {σ : St} {S I l : Addr} {xs : List V} {F H0 : Hp} {lt : Nat -> Nat -> Bool} {R : Result -> Shared -> Prop}
end
end L2
namespace DL
open PySem L2
section
variable {K : Fg}
end
end DL
namespace L2
open PySem PySem.Spec PyProof.Rows
section
variable {X : Cx}
end
section
variable {prog : Program} {w : World} {A : Around} {E : Value -> Shared -> Prop} {s : Shared}
end
section
variable {X : Cx}
end
end L2
namespace DL
open PySem L2
section
variable {K : Fg}
end
section
variable {X : Cx}
end
end DL
namespace L2
open PySem PySem.Spec PyProof.Rows PySem.W PySem.Calls PySem.Builtin PySem.Builtin.ObjectAttr PySem.Builtin.Getset_descriptor
section
variable {pr : Program} {wd : World} {Ar : Around} {Ex : Value -> Shared -> Prop} {t : Shared} {K : Frag} {x C : Addr}
end
end L2
namespace DL
open PySem L2 PyProof.Rows
section
variable {X : Cx}
def tNoS : TS := λ _ _ _ => False
theorem pss_any {sts : List Stmt} : PSs X sts tNoS := λ _ _ _ _ _ _ h => h.elim
end
section
variable {K : Fg} {E : XK} {C : Addr}
end
end DL
namespace L2
open PySem PySem.Spec PyProof.Rows
def GtAt (A : Around) (s : Shared) (a b : Value) (r : Bool) : Prop :=
 ∀ (prog : Program) (w : World) (E : Value -> Shared -> Prop) (Q : Value -> Shared -> Prop), Q (.bool r) s -> wpAny (model prog w) A (richCompare .Gt a b) Q E s
noncomputable def gtI : PyData -> PyData -> Bool
 | .int i, .int j => decide (i > j)
 | _, _ => false
theorem maxArgs (a : Value) : argsOk "max" ⟨[a], []⟩ := by unfold argsOk; kernel_rfl
section
variable {X : Cx} {pins : List (Addr × Obj)} {σ : St} {S I l : Addr} {xs : List V} {F H0 : Hp} {lt : Nat -> Nat -> Bool} {R : Result -> Shared -> Prop}
theorem maxMine (hcm : X.calm = true) (hFl : F l = some (.lst xs)) (hFS : F S = none) (hSI : S ≠ I)
 (hc : ∀ (i j : Nat) (x y : V) (u v : Value) (H : Hp) (s : Shared), xs[i]? = some x -> xs[j]? = some y -> Inv X pins σ H s -> Same F H -> RelV x u -> RelV y v -> GtAt X.A.in1 s u v (lt i j))
 (hR : ∀ (v : V) (u : Value) (H' : Hp) (s' : Shared), xs[mIx lt (xs.length - 1)]? = some v -> RelV v u -> Inv X pins σ H' s' -> Same F H' -> (∀ b, b ≠ S -> H' b = H0 b) -> R (.ok (.ret u)) s') :
 ∀ (r j : Nat) (H : Hp) (s : Shared) (vb : V), xs.length - (j + 1) = r -> j + 1 <= xs.length -> Inv X pins σ H s -> Same F H -> (∀ b, b ≠ S -> H b = H0 b) -> H S = some (.lst [vb, vb]) -> xs[mIx lt j]? = some vb -> FpOk X pins H I -> s.heap.IsListIter I l (j + 1) ->
  codeAny (model X.prog X.w) X.A (.builtin "max.loop" ⟨[.ref I, .none, .ref S], []⟩) R s := by
 have hname : (toString "max" ++ toString ".loop" : String) = "max.loop" := by decide
 intro r
 induction r with
 | zero =>
  intro j H s vb hr hj J sF hb hS hvb hI hit
  have hin : j + 1 = xs.length := by omega
  have hl := sF _ _ hFl
  have hlI : l ≠ I := λ z => by rw [z, hI.1] at hl; cases hl
  obtain ⟨zl, its, n, rl, ll, el⟩ := J.lstM hl
  obtain ⟨zS, itS, nS, rS, lS, eS⟩ := J.lstM hS
  obtain ⟨u1, u2, rfl, r1, r2⟩ := rS.two
  have W := Walks.list (prog := X.prog) (w := X.w) (A := X.A.in1) (J.ok.hd hcm) I l hlI its.toArray
  have hsz : its.toArray.size = its.length := zM ..
  refine codeAny_builtin PySem.F.entry_max_loop ?_
  rw [Around.under_plainId PySem.F.plain_max_loop _]
  show wpAny _ X.A.in1 (seqItems? (.ref S) >>= _) _ _ _
  refine wB (wpAny_seqItems eS rfl ?_)
  show wpAny _ X.A.in1 (tryCatch (pyNext (.ref I)) _ >>= _) _ _ _
  refine wB (wpAny_tryCatch (W.done _ _ _ ⟨by rw [hsz, <- ll, <- hin]; exact hit, ⟨_, el, rfl, _, rfl⟩⟩ λ h' tk' hk' => ?_))
  have J1 : Inv X pins σ H { s with heap := h', toks := tk' } := J.turned (it := I) (λ b o hb e => hk' b o (by simpa using hb) e) hI.1 hI.2.1 hI.2.2.2.1 hI.2.2.2.2.1 hI.2.2.2.2.2
  have eS1 : h'.get? S = some { cls := .type "list", data := .seq [u1, u2].toArray nS } := hk' S _ (by simpa using hSI) eS
  show wpAny _ X.A.in1 (updateSeq S (λ _ => #[]) >>= _) _ _ _
  refine wB ?_
  refine wpAny_updateSeq eS1 rfl (wB (wpAny_letGo (wP ?_)))
  have J2 := J1.lset (l := S) (ys := []) (its' := []) (f := λ _ => #[]) (t' := tk') hS eS1 rfl .nil (zU _)
  refine hR vb u1 _ _ (by rw [<- hin]; exact hvb) r1 J2 (λ b o e => ?_) λ b n => by rw [upd_ne n]; exact hb b n
  rw [upd_ne (λ z => by rw [z, hFS] at e; cases e)]
  exact sF b o e
 | succ r ih =>
  intro j H s vb hr hj J sF hb hS hvb hI hit
  have hlt : j + 1 < xs.length := by omega
  have hl := sF _ _ hFl
  have hlI : l ≠ I := λ z => by rw [z, hI.1] at hl; cases hl
  obtain ⟨zl, its, n, rl, ll, el⟩ := J.lstM hl
  obtain ⟨zS, itS, nS, rS, lS, eS⟩ := J.lstM hS
  obtain ⟨u1, u2, rfl, r1, r2⟩ := rS.two
  have W := Walks.list (prog := X.prog) (w := X.w) (A := X.A.in1) (J.ok.hd hcm) I l hlI its.toArray
  have hsz : its.toArray.size = its.length := zM ..
  refine codeAny_builtin PySem.F.entry_max_loop ?_
  rw [Around.under_plainId PySem.F.plain_max_loop _]
  show wpAny _ X.A.in1 (seqItems? (.ref S) >>= _) _ _ _
  refine wB (wpAny_seqItems eS rfl ?_)
  show wpAny _ X.A.in1 (tryCatch (pyNext (.ref I)) _ >>= _) _ _ _
  refine wB (wpAny_tryCatch (W.item (j + 1) _ _ _ (by rw [hsz, <- ll]; exact hlt) ⟨hit, ⟨_, el, rfl, _, rfl⟩⟩ λ u h' tk' hP hst' hk' => ?_))
  have hv : its[j + 1]? = some u := by simpa using hP
  obtain ⟨x, hx, rx⟩ := vals_get rl hv
  have J1 : Inv X pins σ H { s with heap := h', toks := tk' } := J.turned (it := I) (λ b o hb e => hk' b o (by simpa using hb) e) hI.1 hI.2.1 hI.2.2.2.1 hI.2.2.2.2.1 hI.2.2.2.2.2
  have eS1 : h'.get? S = some { cls := .type "list", data := .seq [u1, u2].toArray nS } := hk' S _ (by simpa using hSI) eS
  have cm := hc (j + 1) (mIx lt j) x vb u u2 H _ hx hvb J1 sF rx r2
  show wpAny _ X.A.in1 (pure u >>= _) _ _ _
  refine wB (wP ?_)
  show wpAny _ X.A.in1 (tryCatch (holding [u, u] (richCompare .Gt u u2 >>= _)) _ >>= _) _ _ _
  refine wB (wpAny_tryCatch (wpAny_holding (wB (cm _ _ _ _ ?_))))
  refine wB (wpAny_holding (wpAny_truthy_bool ?_))
  refine wB (wpAny_letGo (wP ?_))
  by_cases c : lt (j + 1) (mIx lt j) = true
  · rw [c]
    simp only [if_true]
    refine wB ?_
    refine wpAny_updateSeq eS1 rfl (wB (wpAny_letGo ?_))
    rw [hname]
    have J2 := J1.lset (l := S) (ys := [x, x]) (its' := [u, u]) (f := λ _ => #[u, u]) (t' := tk') hS eS1 rfl (.cons rx (.cons rx .nil)) (small (show 2 <= 1000 by decide))
    obtain ⟨oI, hoI, hoc, hod⟩ := id hst'.1
    refine wP ⟨plainId_quiet PySem.F.plain_max_loop _, ih (j + 1) _ _ x (by omega) hlt J2 (λ b o e => ?_) (λ b n => by rw [upd_ne n]; exact hb b n) upd_same (by rw [mIx, if_pos c]; exact hx) ⟨by rw [upd_ne hSI.symm]; exact hI.1, hI.2⟩ ⟨oI, ?_, hoc, hod⟩⟩
    · rw [upd_ne (λ z => by rw [z, hFS] at e; cases e)]
      exact sF b o e
    · exact (hUo h' _ hSI).trans hoI
  · have c' : lt (j + 1) (mIx lt j) = false := by simpa using c
    rw [c']
    simp only [zN, if_false]
    refine wB (wpAny_letGo ?_)
    rw [hname]
    exact wP ⟨plainId_quiet PySem.F.plain_max_loop _, ih (j + 1) H _ vb (by omega) hlt J1 sF hb hS (by rw [mIx, if_neg c]; exact hvb) hI hst'.1⟩
end
def rMax (K : Fg) : List V -> Hp -> VK -> Prop := λ as H Q => ∃ (l : Addr) (xs : List V) (F : Hp) (ds : List PyData), as = [.ref l] /\ F l = some (.lst xs) /\ Same F H /\ DL.Are K F xs ds /\ xs ≠ [] /\ (∀ d ∈ ds, ∃ n, d = PyData.int n) /\
 ∀ (v : V) (H' : Hp), xs[mIx (λ i j => gtI (ds.getD i .none) (ds.getD j .none)) (xs.length - 1)]? = some v -> Same F H' -> Same H H' -> Q v H'
theorem call_max {X : Cx} (hcm : X.calm = true) (hu : X.A.units + 64 < cLine) : CallR X (.builtin "max") (rMax X.K) := by
 intro pins s σ H as us Q J rv h
 obtain ⟨l, xs, F, ds, rfl, hFl, sF, ar, hne, hok, q⟩ := h
 obtain ⟨u, rfl, ru⟩ := vals1 rv
 cases (show u = Value.ref l from ru)
 have hname : (toString "max" ++ toString ".loop" : String) = "max.loop" := by decide
 have hl := sF _ _ hFl
 obtain ⟨zl, its, n, rl, ll, el⟩ := J.lstM hl
 have lenD := ar.length
 have hc : ∀ (i j : Nat) (x y : V) (u v : Value) (H : Hp) (s : Shared), xs[i]? = some x -> xs[j]? = some y -> Inv X pins σ H s -> Same F H -> RelV x u -> RelV y v -> GtAt X.A.in1 s u v (gtI (ds.getD i .none) (ds.getD j .none)) := by
  intro i j x y u v H1 s1 hx hy J1 s1F rx ry
  obtain ⟨dx, ex, ix⟩ := ar.get' hx
  obtain ⟨dy, ey, iy⟩ := ar.get' hy
  have gx : ds.getD i .none = dx := by rw [gDq, ex]; rfl
  have gy : ds.getD j .none = dy := by rw [gDq, ey]; rfl
  have mx := Q1e ex
  have my := Q1e ey
  obtain ⟨n, rfl⟩ := hok dx mx
  obtain ⟨m, rfl⟩ := hok dy my
  cases (show x = V.int n from ix)
  cases (show y = V.int m from iy)
  obtain ⟨t1, rfl⟩ := rx
  obtain ⟨t2, rfl⟩ := ry
  rw [gx, gy]
  exact λ prog w E Q h => (PyProof.Rows.gt_int h : wpAny (model prog w) X.A.in1 (compareOp .Gt _ _) Q E s1)
 refine kmk_tree PySem.F.kind_max PySem.F.plain_max PySem.F.entry_max (maxArgs _) ?_
 show wpAny _ X.A.in1 (Builtin.Builtins.bindParams "max" ["key", "default"] 0 ⟨[], []⟩ >>= _) _ _ s
 refine wB (wpAny_of_eq (show Builtin.Builtins.bindParams "max" ["key", "default"] 0 ⟨[], []⟩ = pure [none, none] from rfl) ?_)
 refine wB (wP ?_)
 refine wB (wpAny_pyIter_list ⟨_, el, rfl, _, rfl⟩ ?_)
 refine wB (wpAny_newList ?_ (zU _))
 rw [hname]
 have hlt : l < s.heap.objs.size := hLs el
 have hS : (s.heap.push { cls := .type "list_iterator", data := .fields #[.ref l, .int 0 0] }).objs.size = s.heap.objs.size + 1 := size_push' ..
 have hSI : (s.heap.push { cls := .type "list_iterator", data := .fields #[.ref l, .int 0 0] }).objs.size ≠ s.heap.objs.size := by rw [hS]; exact nNg (Q21 _)
 have hlI : l ≠ s.heap.objs.size := nNl hlt
 refine wP ⟨plainId_quiet PySem.F.plain_max_loop _, ?_⟩
 have J0 : Inv X pins σ H { s with heap := s.heap.push { cls := .type "list_iterator", data := .fields #[.ref l, .int 0 0] } } := J.kept (t' := s.toks) λ b o e => hPo _ e
 have HS0 : H (s.heap.push { cls := .type "list_iterator", data := .fields #[.ref l, .int 0 0] }).objs.size = none := J0.fresh
 have FS0 : F (s.heap.push { cls := .type "list_iterator", data := .fields #[.ref l, .int 0 0] }).objs.size = none := by
  cases e : F (s.heap.push { cls := .type "list_iterator", data := .fields #[.ref l, .int 0 0] }).objs.size with
  | none => rfl
  | some o => rw [sF _ _ e] at HS0; cases HS0
 have J1 := J0.lnew (ys := []) (its := []) (t' := s.toks) .nil (zU _)
 have gI : ((s.heap.push { cls := .type "list_iterator", data := .fields #[.ref l, .int 0 0] }).push { cls := .type "list", data := .seq #[] 0 }).get? s.heap.objs.size = some { cls := .type "list_iterator", data := .fields #[.ref l, .int 0 0] } := hPo _ (hPs _ rfl)
 have gS : ((s.heap.push { cls := .type "list_iterator", data := .fields #[.ref l, .int 0 0] }).push { cls := .type "list", data := .seq #[] 0 }).get? (s.heap.push { cls := .type "list_iterator", data := .fields #[.ref l, .int 0 0] }).objs.size = some { cls := .type "list", data := .seq #[] 0 } := hPs _ rfl
 have fI : FpOk X pins (upd H (s.heap.push { cls := .type "list_iterator", data := .fields #[.ref l, .int 0 0] }).objs.size (.lst [])) s.heap.objs.size := J.fpOk (Q1 _) (by rw [upd_ne hSI.symm]; exact J.fresh)
 have sF1 : Same F (upd H (s.heap.push { cls := .type "list_iterator", data := .fields #[.ref l, .int 0 0] }).objs.size (.lst [])) := λ b o e => by
  rw [upd_ne (λ z => by rw [z, FS0] at e; cases e)]
  exact sF b o e
 have el1 : ((s.heap.push { cls := .type "list_iterator", data := .fields #[.ref l, .int 0 0] }).push { cls := .type "list", data := .seq #[] 0 }).get? l = some { cls := .type "list", data := .seq its.toArray n } := hPo _ (hPo _ el)
 have W := Walks.list (prog := X.prog) (w := X.w) (A := X.A.in1) (J.ok.hd hcm) s.heap.objs.size l hlI its.toArray
 have hsz : its.toArray.size = its.length := zM ..
 have pos : 0 < xs.length := by
  cases xs with
  | nil => exact absurd rfl hne
  | cons _ _ => exact Nat.succ_pos _
 refine codeAny_builtin PySem.F.entry_max_loop ?_
 rw [Around.under_plainId PySem.F.plain_max_loop _]
 show wpAny _ X.A.in1 (seqItems? (.ref _) >>= _) _ _ _
 refine wB (wpAny_seqItems gS rfl ?_)
 show wpAny _ X.A.in1 (tryCatch (pyNext (.ref s.heap.objs.size)) _ >>= _) _ _ _
 refine wB (wpAny_tryCatch (W.item 0 _ _ _ (by rw [hsz, <- ll]; exact pos) ⟨⟨_, gI, rfl, rfl⟩, ⟨_, el1, rfl, _, rfl⟩⟩ λ u h' tk' hP hst' hk' => ?_))
 have hv : its[0]? = some u := by simpa using hP
 obtain ⟨x, hx, rx⟩ := vals_get rl hv
 have J2 := J1.turned (h' := h') (t' := tk') (it := s.heap.objs.size) (λ b o hb e => hk' b o (by simpa using hb) e) fI.1 fI.2.1 fI.2.2.2.1 fI.2.2.2.2.1 fI.2.2.2.2.2
 have eS1 := hk' _ _ (by simpa using hSI) gS
 show wpAny _ X.A.in1 (pure u >>= _) _ _ _
 refine wB (wP ?_)
 show wpAny _ X.A.in1 (updateSeq (s.heap.push { cls := .type "list_iterator", data := .fields #[.ref l, .int 0 0] }).objs.size (λ _ => #[u, u]) >>= _) _ _ _
 refine wB ?_
 refine wpAny_updateSeq eS1 rfl ?_
 rw [hname]
 have J3 := J2.lset (ys := [x, x]) (its := []) (its' := [u, u]) (f := λ _ => #[u, u]) (t' := tk') upd_same eS1 rfl (.cons rx (.cons rx .nil)) (small (show 2 <= 1000 by decide))
 obtain ⟨oI, hoI, hoc, hod⟩ := id hst'.1
 refine wP ⟨plainId_quiet PySem.F.plain_max_loop _, maxMine (S := (s.heap.push { cls := .type "list_iterator", data := .fields #[.ref l, .int 0 0] }).objs.size) (I := s.heap.objs.size) (H0 := H) hcm hFl FS0 hSI hc (λ v u' H' s' e1 e2 e3 e4 e5 => ?_) _ 0 _ _ x rfl pos J3 (λ b o e => ?_) (λ b nb => by rw [upd_ne nb, upd_ne nb]) upd_same hx ⟨by rw [upd_ne hSI.symm]; exact fI.1, fI.2⟩ ⟨oI, ?_, hoc, hod⟩⟩
 · refine ⟨v, H', e3, e2, q v H' e1 e4 λ b o e => ?_⟩
   rw [e5 b (λ z => by rw [z, HS0] at e; cases e)]
   exact e
 · rw [upd_ne (λ z => by rw [z, FS0] at e; cases e)]
   exact sF1 b o e
 · exact (hUo h' _ hSI).trans hoI
end L2
namespace DL
open PySem L2
section
variable {K : Fg}
noncomputable def maxC : List PyData -> Option PyData
 | [.list ds] => if (!ds.isEmpty && (intsD ds).isSome) = true then ds[mIx (λ i j => gtI (ds.getD i .none) (ds.getD j .none)) (ds.length - 1)]? else none
 | _ => none
theorem cd_max : CallD K (rMax K) maxC := λ F H xs ds d Q s ar e k => by
 unfold maxC at e
 split at e
 · rename_i es
   split at e
   · rename_i c
     simp only [Q4, Bool.not_eq_true', List.isEmpty_eq_false_iff] at c
     obtain ⟨c1, c2⟩ := c
     obtain ⟨ns, c2⟩ := Option.isSome_iff_exists.mp c2
     obtain ⟨x, r, rfl, ⟨a, ys, rfl, h1, h2⟩, hr⟩ := ar
     rw [show r = [] from hr]
     refine ⟨a, ys, F, es, rfl, h1, s, h2, λ z => c1 ?_, λ d hd => ?_, λ v H' e1 e2 e3 => ?_⟩
     · have := h2.length
       rw [z] at this
       exact List.length_eq_zero_iff.mp this.symm
     · rw [intsD_some c2] at hd
       obtain ⟨n, _, rfl⟩ := Qc.mp hd
       exact ⟨n, rfl⟩
     · rw [h2.length] at e1
       obtain ⟨v', e4, iv⟩ := h2.get e
       rw [e4] at e1
       cases e1
       exact k _ H' F ⟨Same.refl _, e2, e3, λ _ _ _ _ n => n⟩ iv
   · cases e
 · cases e
theorem kx_max {X : Cx} (K : Fg) (hc : X.calm = true) (hu : X.A.units + 64 < cLine) (h : X.K = K := by rfl) : CallR X (.builtin "max") (rMax K) := h ▸ call_max hc hu
end
section
variable {K : Fg}
end
end DL
namespace L2
open PySem PySem.Spec PyProof.Rows PySem.W
end L2
namespace DL
open PySem L2
section
variable {K : Fg}
end
end DL
namespace L2
open PySem PySem.Spec PyProof.Rows PySem.W
noncomputable def cxLam (X : Cx) (N : List Str) (qual : Str) (sc : Scope) (f : Addr) (cd : Value) (cl : List (Str × Addr)) (s : Shared) (H : Hp) : Cx where
 prog := X.prog
 w := X.w
 K := X.K
 mg := X.mg
 base := X.base
 A := X.A.in1.deeper (envX qual sc s.heap.objs.size f cd cl)
 N := N
 s₀ := s
 H₀ := H
 env := envX qual sc s.heap.objs.size f cd cl
 outer := X.stack
 stack := envX qual sc s.heap.objs.size f cd cl :: X.stack
 ex := []
 fn := λ _ => false
 calm := true
 pn := []
 xe := λ _ _ => False
section
variable {X : Cx} {pins : List (Addr × Obj)} {σ : St} {H : Hp} {s : Shared}
theorem lam_ok {N : List Str} {qual : Str} {sc : Scope} {f : Addr} {cd : Value} (I : Inv X pins σ H s) (hh : X.A.handled = none) (hk : sc.kind = .function) (hcell : ∀ y ∈ sc.names, y.2 ≠ .cell)
 (hfree : ∀ y ∈ sc.names, y.2 = .free -> X.env.kindOf y.1 = some .cell \/ X.env.kindOf y.1 = some .free) : (cxLam X N qual sc f cd (clOf X.env sc.names []) s H).Ok := by
 have hcl : ∀ y ∈ sc.names, y.2 = .free -> ∃ c, X.env.cells.lookup y.1 = some c := λ y hy e => I.ok.has _ (hfree y hy e)
 have look : ∀ x c, (clOf X.env sc.names []).lookup x = some c -> X.env.cells.lookup x = some c := λ x c e => by
  rcases clOf_mem hcl (PySem.mem_of_lookup e) with q | q
  · simp at q
  · exact q
 have noA : ∀ b : Addr, b ∉ (cxLam X N qual sc f cd (clOf X.env sc.names []) s H).ex := λ b z => absurd (show b ∈ ([] : List Addr) from z) (by simp)
 exact {
  mod := I.ok.mod
  kind := hk
  glob := rfl
  blt := rfl
  above := Q1 _
  inj := λ x y c h1 h2 => I.ok.inj x y c (look x c h1) (look y c h2)
  has := λ x h => by
   have h' : sc.names.lookup x = some .cell \/ sc.names.lookup x = some .free := h
   rcases h' with q | q
   · exact absurd rfl (hcell _ (PySem.mem_of_lookup q))
   · obtain ⟨c, hc⟩ := clOf_has (env := X.env) (acc := []) (.inl (PySem.mem_of_lookup q))
     exact lookup_of_mem hc
  cab := λ x c h => by cases h
  hd := λ _ => hh
  frames := Around.frames_deeper I.ok.frames
  stk := .inr ⟨rfl, rfl⟩
  exf := λ b z => absurd z (noA b)
  bs := I.bs
  bsz := Qb I.ok.bsz I.sz
  noex := λ b _ _ => noA b
  exfs := λ b z => absurd z (noA b)
  funs := I.stack
  frf := I.stkFree }
theorem lam_call {qual : Str} {sc : Scope} {params : Arguments} {body : Expr} {f c' : Addr} {pm ctv u : Value} {v : V} {te : TE} {Q : VK} {p : Str} {fr : List (Str × Nat)} {E : Value -> Shared -> Prop}
 (I : Inv X pins σ H s) (hh : X.A.handled = none) (hk : sc.kind = .function) (hco : sc.isCoroutine = false) (hgen : sc.isGenerator = false) (hcell : ∀ y ∈ sc.names, y.2 ≠ .cell)
 (hfree : ∀ y ∈ sc.names, y.2 = .free -> X.env.kindOf y.1 = some .cell \/ X.env.kindOf y.1 = some .free) (hp : sc.names.lookup p = some .local) (hfr : ∀ q ∈ fr, X.N[q.2]? = some q.1 /\ sc.names.lookup q.1 = some .free)
 (ho : s.heap.get? f = some (kla_obj "<lambda>" qual params body sc (clOf X.env sc.names []) pm c' ctv)) (hcd : s.heap.CodeRec (.ref c') qual)
 (hb : bindArgs (kla_fn "<lambda>" qual params body sc (clOf X.env sc.names []) pm (.ref c') ctv) ⟨[u], []⟩ = pure [(p, u)]) (ru : RelV v u) (hd : X.A.in1.depth < recursionLimit)
 (he : PE (cxLam X (p :: fr.map (·.1)) qual sc f (.ref c') (clOf X.env sc.names []) s H) body te) (h : te (some v :: fr.map λ q => (σ[q.2]?).join) H Q) :
 wpAny (model X.prog X.w) X.A.in1 (call (.ref f) [u]) (EP X pins σ Q) E s := by
 have hcl : ∀ y ∈ sc.names, y.2 = .free -> ∃ c, X.env.cells.lookup y.1 = some c := λ y hy e => I.ok.has _ (hfree y hy e)
 have look : ∀ x c, (clOf X.env sc.names []).lookup x = some c -> X.env.cells.lookup x = some c := λ x c e => by
  rcases clOf_mem hcl (PySem.mem_of_lookup e) with q | q
  · simp at q
  · exact q
 refine wpAny_call (kla_callFunE hd ho rfl hco hgen rfl hcd ?_)
 rw [hb]
 refine wP (wpAny_newFunctionEnv hcell (λ y hy => ?_) (λ h₁ hns hsb => ⟨I.nolimit.fresh _ hsb, ?_⟩) hk)
 · have e : y = (p, u) := by simpa using hy
   rw [e]
   exact hp
 show codeAny _ _ (.expr body (envX qual sc s.heap.objs.size f (.ref c') (clOf X.env sc.names []))) _ _
 have old : ∀ b o, s.heap.get? b = some o -> h₁.get? b = some o := λ b o e => hsb.extBut b o (nNl (hLs e)) (hPo _ e)
 have cellK : ∀ {c v}, s.heap.IsCell c v -> h₁.IsCell c v := λ {c v} q => by
  obtain ⟨o, ho, r⟩ := q
  exact ⟨o, old _ _ ho, r⟩
 have J : Inv (cxLam X (p :: fr.map (·.1)) qual sc f (.ref c') (clOf X.env sc.names []) s H) [] (some v :: fr.map λ q => (σ[q.2]?).join) H { s with heap := h₁, toks := s.toks + 1 } := by
  refine ⟨lam_ok I hh hk hcell hfree, rfl, I.bare, Un.kept old, ⟨_, hns, λ i x v' h1 h2 h3 => ?_⟩, λ x c e => ?_, I.hok.fresh (Q1 _), λ x c e => I.freeC x c (look x c e), λ q hq => absurd (show q ∈ ([] : List (Addr × Obj)) from hq) (by simp), I.hok.kept old, ?_⟩
  · cases i with
    | zero =>
     have e1 : p = x := by simpa [cxLam] using h1
     have e2 : v = v' := by simpa using h2
     subst e1 e2
     exact ⟨u, ru, .inl ⟨hp, by simp⟩⟩
    | succ i =>
     have h1' : (fr.map (·.1))[i]? = some x := by simpa [cxLam] using h1
     have h2' : (fr.map λ q => (σ[q.2]?).join)[i]? = some (some v') := by simpa using h2
     rw [zK] at h1' h2'
     obtain ⟨q, e1, e2⟩ := Q0.mp h1'
     rw [e1] at h2'
     subst e2
     have h3' : (σ[q.2]?).join = some v' := zV h2'
     have hσ : σ[q.2]? = some (some v') := by
      cases z : σ[q.2]? with
      | none => rw [z] at h3'; cases h3'
      | some y => rw [z] at h3'; exact congrArg some h3'
     obtain ⟨hN, hl⟩ := hfr q (Q1e e1)
     obtain ⟨m0, _, q0⟩ := I.loc
     have kk := hfree (q.1, .free) (PySem.mem_of_lookup hl) rfl
     obtain ⟨u', ru', lk⟩ := q0 q.2 q.1 v' hN hσ (.inr kk)
     refine ⟨u', ru', .inr ⟨.inr hl, ?_⟩⟩
     rcases lk with ⟨k1, _⟩ | ⟨_, c, e3, e4⟩
     · rcases kk with kk | kk
       · have kk' : X.env.kindOf q.1 = some .cell := kk
         rw [k1] at kk'; cases kk'
       · have kk' : X.env.kindOf q.1 = some .free := kk
         rw [k1] at kk'; cases kk'
     · obtain ⟨d, hd⟩ := clOf_has (env := X.env) (acc := []) (.inl (PySem.mem_of_lookup hl))
       obtain ⟨d', hd'⟩ := lookup_of_mem hd
       have e5 := look _ _ hd'
       rw [e3] at e5
       cases e5
       exact ⟨c, hd', cellK e4⟩
  · obtain ⟨w', hw⟩ := I.cell x c (look x c e)
    exact ⟨w', cellK hw⟩
  · show (some v :: fr.map λ q => (σ[q.2]?).join).length = (p :: fr.map (·.1)).length
    simp
 refine kla_codeExpr (wpAny_mono (he [] _ _ H Q J h) (λ v' s' h' => ?_) λ _ _ z => z.elim)
 obtain ⟨v2, H2, J2, r2, q2⟩ := h'
 exact I.after ⟨v2, H2, J2.os, J2.bare, J2.base, J2.hok, r2, q2⟩
structure BMd (X : Cx) : Prop where
 ex : ∃ (bm : Addr) (o : Obj), X.mg "__builtins__" = some (.ref bm) /\ bm ≠ builtinsNs /\ bm ≠ mainGlobals /\ X.base.get? bm = some o /\ o.cls = .type "module" /\ o.dict = some builtinsNs /\ o.data = .plain
theorem lam_make {P c : Addr} {params : Arguments} {body : Expr} {sc : Scope} {pos : Pos} {qual : Str} {Q : Value -> Shared -> Prop} {E : Value -> Shared -> Prop} (I : Inv X pins σ H s)
 (hP : H P = some (.tbl #[rawInt pos.line, rawInt pos.col, .str qual 0])) (hC : codeHdIn X.K c P = true) (hcode : X.env.code = .ref c) (hq : X.env.qual ++ "<lambda>" = qual)
 (hfree : ∀ y ∈ sc.names, y.2 = .free -> X.env.kindOf y.1 = some .cell \/ X.env.kindOf y.1 = some .free) (hdef : defaultsOf params X.env = ([], [])) (Bm : BMd X)
 (h : ∀ f c' pm ctv h' tk H', Inv X pins σ H' { s with heap := h', toks := tk } -> H' f = some (.frz (kla_obj "<lambda>" qual params body sc (clOf X.env sc.names []) pm c' ctv) (.own f)) ->
  (∃ o u vs t, H' c' = some (.frz o u) /\ o.data = .fields vs /\ vs[1]? = some (.str qual t)) -> Same H H' -> Q (.ref f) { s with heap := h', toks := tk }) :
 wpAny (model X.prog X.w) X.A (eval (.Lambda params body sc pos) X.env) Q E s := by
 have hcl : ∀ y ∈ sc.names, y.2 = .free -> ∃ c, X.env.cells.lookup y.1 = some c := λ y hy e => I.ok.has _ (hfree y hy e)
 obtain ⟨bm, ob, b1, b2, b3, b4, b5⟩ := Bm.ex
 have nP : ∀ b o, X.base.get? b = some o -> b ≠ P := λ b o e z => by
  have := (I.bs b o e).2
  rw [z, hP] at this
  cases this
 have hg0 := I.ok.mod.glob
 have hgP : mainGlobals ≠ P := by
  obtain ⟨o, es, ep, e, _⟩ := id hg0
  exact nP _ _ e
 have hgs : s.heap.Ns mainGlobals X.mg := hg0.keeps I.bk
 have hbb : s.heap.BuiltinsAt X.mg P := ⟨bm, ob, b1, b2, b3, nP _ _ b4, I.bk _ _ b4, b5⟩
 have C := codeHd_of_K I.kIn hC
 refine kla_eval hdef ?_
 rw [hq]
 have hLP : X.env.locals ≠ P := λ z => by
  have := I.free
  rw [z, hP] at this
  cases this
 rcases (show ObjOk X.prog X.w H s.heap P (.tbl _) from I.hok P _ hP) with e0 | ⟨c', oc, u, l, cc, q0, t0, t2, vs, e1, e2, e3, e4, e5⟩
 · refine kla_makeFunction (mg := X.mg) (closureFor_eq hcl) I.ok.glob hgs hcode C e0 (by simp [TriplesOk]) rfl hgP hbb λ c' ctv h' tk hx hge hlt hrec htb => ?_
   obtain ⟨c2, oc, vs, t, ec, hoc, hd, hv⟩ := hrec
   cases ec
   generalize hfo : kla_obj "<lambda>" qual params body sc (clOf X.env sc.names []) ((X.mg "__name__").getD .none) c' ctv = fo
   have Hc : H c' = none := I.hok.fresh hge
   have Hf : H h'.objs.size = none := I.hok.fresh (nLe (Q27 hge hlt))
   have ncf : c' ≠ h'.objs.size := nNl hlt
   have old : ∀ b o, b ≠ P -> s.heap.get? b = some o -> (h'.push fo).get? b = some o := λ b o nb e => hPo _ (hx b o nb e)
   have lt1 : ∀ b o, s.heap.get? b = some o -> b ≠ c' /\ b ≠ h'.objs.size := λ b o e => ⟨nNl (nLl (hLs e) hge), nNl (nLl (hLs e) (nLe (Q27 hge hlt)))⟩
   have up : ∀ b o, H b = some o -> upd (upd H c' (.frz oc (.own c'))) h'.objs.size (.frz fo (.own h'.objs.size)) b = some o := λ b o e => by
    rw [upd_ne (ne_of_none e Hf), upd_ne (ne_of_none e Hc)]
    exact e
   have gf : (h'.push fo).get? h'.objs.size = some fo := hPs _ (by rw [<- hfo]; rfl)
   have gc : (h'.push fo).get? c' = some oc := hPo _ hoc
   have uc : upd (upd H c' (.frz oc (.own c'))) h'.objs.size (.frz fo (.own h'.objs.size)) c' = some (.frz oc (.own c')) := by rw [upd_ne ncf, upd_same]
   refine h _ c' ((X.mg "__name__").getD .none) ctv _ tk (upd (upd H c' (.frz oc (.own c'))) h'.objs.size (.frz fo (.own h'.objs.size))) ?_ (by rw [upd_same, hfo]) ⟨oc, _, vs, t, uc, hd, hv⟩ up
   refine I.step (g' := s.gens) (d' := s.drawn) (ch := []) (λ _ z => nomatch z) (λ b o _ _ _ e n => old b o (λ z => by rw [z, hP] at n; cases n) e) (λ b o _ _ _ e n => ⟨o.slots, old b o (λ z => by rw [z, hP] at n; cases n) e⟩)
    (λ b o _ e n => by rw [upd_ne (lt1 b o e).2, upd_ne (lt1 b o e).1]; exact n) (λ b o _ e => ?_) (λ b xs e => up b _ e) (λ b o u e => up b _ e) (λ b ps e => ⟨#[], by rw [up b _ e]; simp⟩)
    (λ m hm => (hm.extBut hx hLP).push _) (λ b u e => ?_) I.bare
   · by_cases nb : b = P
     · subst nb
       exact ⟨_, hPo _ htb⟩
     · exact ⟨o, old b o nb e⟩
   · by_cases hbf : b = h'.objs.size
     · subst hbf
       rw [upd_same] at e
       cases e
       exact ⟨gf, _, gf⟩
     · rw [upd_ne hbf] at e
       by_cases hbc : b = c'
       · subst hbc
         rw [upd_same] at e
         cases e
         exact ⟨gc, _, gc⟩
       · rw [upd_ne hbc] at e
         by_cases nb : b = P
         · subst nb
           rw [hP] at e
           cases e
           exact Or.inr ⟨c', oc, _, _, _, _, _, _, vs, rfl, by simpa using hPo _ htb, uc, hd, hv⟩
         · refine (I.hok b u e).stay (λ d v hd q => old d v (λ z => ?_) q) (λ d q => up d _ q) (λ d xs q => up d _ q) λ d ob xs q => up d _ q
           rcases hd with z2 | z2
           · exact nb (z2.symm.trans z)
           · rw [z, hP] at z2; cases z2
 · have e1' := (Array.mk.inj e1)
   simp only [List.cons.injEq, Value.str.injEq, and_true] at e1'
   obtain ⟨rfl, rfl, rfl, _⟩ := e1'
   refine kla_makeFunctionHit (mg := X.mg) (cv := .ref c') (closureFor_eq hcl) I.ok.glob hgs hcode C e2 (by simp [TriplesOk, rawInt]) (by simp [codeAmong, rawInt]) hbb λ ctv h' tk hk hsz => ?_
   show Q (.ref h'.objs.size) { s with heap := h'.push (kla_obj "<lambda>" qual params body sc (clOf X.env sc.names []) ((X.mg "__name__").getD .none) c' ctv), toks := tk }
   generalize hfo : kla_obj "<lambda>" qual params body sc (clOf X.env sc.names []) ((X.mg "__name__").getD .none) c' ctv = fo
   have Hf : H h'.objs.size = none := I.hok.fresh hsz
   have gf : (h'.push fo).get? h'.objs.size = some fo := hPs _ (by rw [<- hfo]; rfl)
   refine h _ c' ((X.mg "__name__").getD .none) ctv (h'.push fo) tk (upd H h'.objs.size (.frz fo (.own h'.objs.size))) (I.laid (λ b o e => hPo _ (hk b o e)) hsz ⟨gf, _, gf⟩) (by rw [upd_same, hfo]) ⟨oc, u, vs, t2, by rw [upd_ne (ne_of_none e3 Hf)]; exact e3, e4, e5⟩ λ b o e => ?_
   rw [upd_ne (ne_of_none e Hf)]
   exact e
end
end L2
namespace DL
open PySem PySem.Spec PyProof.Rows L2 PySem.W
section
variable {K : Fg}
def tSem (K : Fg) (f : DSt -> Option PyData) : TE := λ σ H Q => ∃ H0 F0 F δ d, Rep K H0 F0 F σ H δ /\ f δ = some d /\ ∀ v H' F', Grow F H F' H' -> Is K F' v d -> Q v H'
theorem se_sem {f : DSt -> Option PyData} : SE K (tSem K f) f := λ H0 F0 F σ H δ d Q R e k => ⟨H0, F0, F, δ, d, R, e, k⟩
end
noncomputable def kysD (fk : PyData -> Option PyData) : List PyData -> Option (List PyData)
 | [] => some []
 | d :: r => (fk d).bind λ k => (kysD fk r).bind λ ks => some (k :: ks)
theorem kysD_get {fk : PyData -> Option PyData} : ∀ {ds ks : List PyData}, kysD fk ds = some ks -> ks.length = ds.length /\ ∀ (i : Nat) (d : PyData), ds[i]? = some d -> ∃ k, fk d = some k /\ ks[i]? = some k
 | [], ks, h => by cases h; exact ⟨rfl, λ i d e => by simp at e⟩
 | d :: r, ks, h => by
  obtain ⟨k, e1, h⟩ := bind_some h
  obtain ⟨ks', e2, h⟩ := bind_some h
  cases h
  obtain ⟨l, q⟩ := kysD_get e2
  refine ⟨by rw [zC, zC, l], λ i d' e => ?_⟩
  cases i with
  | zero => simp at e; subst e; exact ⟨k, e1, rfl⟩
  | succ i => exact q i d' (by simpa using e)
noncomputable def ltK (ks : List PyData) (i j : Nat) : Bool := (L2.ltD (ks.getD i .none) (ks.getD j .none)).getD false
noncomputable def minKD (fk : PyData -> Option PyData) (ds : List PyData) : Option PyData := (kysD fk ds).bind λ ks =>
 if (!ds.isEmpty && ks.all okD && ks.all (λ a => ks.all λ b => (L2.ltD a b).isSome)) = true then ds[mIx (ltK ks) (ds.length - 1)]? else none
section
variable {X : Cx} {pins : List (Addr × Obj)} {σ : St} {S I l f : Addr} {xs : List V} {ds ks : List PyData} {Fa Ha : Hp} {R : Result -> Shared -> Prop}
theorem minKCmp {F H : Hp} {s : Shared} {i j : Nat} {x y : V} {u v : Value} (hu : X.A.units + 64 < cLine) (hok : ∀ d ∈ ks, okD d = true) (hcmp : ∀ a ∈ ks, ∀ b ∈ ks, (L2.ltD a b).isSome = true) (hi : i < ks.length) (hj : j < ks.length)
 (J : Inv X pins σ H s) (sF : Same F H) (ix : Is X.K F x (ks.getD i .none)) (iy : Is X.K F y (ks.getD j .none)) (rx : RelV x u) (ry : RelV y v) : LtAt X.A.in1 s u v (ltK ks i j) := by
 have mx : ks.getD i .none ∈ ks := by rw [gDq, gEq hi]; exact Q17 hi
 have my : ks.getD j .none ∈ ks := by rw [gDq, gEq hj]; exact Q17 hj
 have cx := okD_cmp (hok _ mx)
 have cy := okD_cmp (hok _ my)
 obtain ⟨as, ra⟩ := (toD _ cx.1 (ix.same sF)).reads J _ rx
 obtain ⟨bs, rb⟩ := (toD _ cy.1 (iy.same sF)).reads J _ ry
 obtain ⟨b, hb⟩ := Option.isSome_iff_exists.mp (hcmp _ mx _ my)
 unfold ltK
 rw [hb]
 exact ltAt_reads _ _ X.A.in1 s u v as bs b ra rb cx.1 cy.1 (by have := cx.2; show X.A.units + 1 + _ < cLine; omega) hb
def Turn (X : Cx) (σ : St) (f : Addr) (xs : List V) (ks : List PyData) (Fa Ha : Hp) : Prop := ∀ (i : Nat) (x : V), xs[i]? = some x -> ∀ (pins' : List (Addr × Obj)) (F H : Hp) (s : Shared) (u : Value), Inv X pins' σ H s -> Grow Fa Ha F H -> RelV x u ->
 wpAny (model X.prog X.w) X.A.in1 (call (.ref f) [u]) (λ r s' => ∃ v H' F', Inv X pins' σ H' s' /\ RelV v r /\ Grow F H F' H' /\ Is X.K F' v (ks.getD i .none)) (λ _ _ => False) s
theorem minKLoop (hcm : X.calm = true) (hu : X.A.units + 64 < cLine) (hFl : Fa l = some (.lst xs)) (hHS : Ha S = none) (hSI : S ≠ I) (hlen : ks.length = xs.length) (turn : Turn X σ f xs ks Fa Ha)
 (hok : ∀ d ∈ ks, okD d = true) (hcmp : ∀ a ∈ ks, ∀ b ∈ ks, (L2.ltD a b).isSome = true)
 (hR : ∀ (v : V) (u : Value) (F' H' : Hp) (s' : Shared), xs[mIx (ltK ks) (xs.length - 1)]? = some v -> RelV v u -> Inv X pins σ H' s' -> Grow Fa Ha F' H' -> R (.ok (.ret u)) s') :
 ∀ (r j : Nat) (F H : Hp) (s : Shared) (vb kb : V), xs.length - (j + 1) = r -> j + 1 <= xs.length -> Inv X pins σ H s -> Grow Fa Ha F H -> F S = none -> H S = some (.lst [vb, kb]) -> xs[mIx (ltK ks) j]? = some vb -> Is X.K F kb (ks.getD (mIx (ltK ks) j) .none) ->
  FpOk X pins H I -> s.heap.IsListIter I l (j + 1) -> codeAny (model X.prog X.w) X.A (.builtin "min.loop" ⟨[.ref I, .ref f, .ref S], []⟩) R s := by
 have hname : (toString "min" ++ toString ".loop" : String) = "min.loop" := by decide
 intro r
 induction r with
 | zero =>
  intro j F H s vb kb hr hj J G hFS hS hvb ikb hI hit
  have hin : j + 1 = xs.length := by omega
  have hl := G.s _ _ (G.f _ _ hFl)
  have hlI : l ≠ I := λ z => by rw [z, hI.1] at hl; cases hl
  obtain ⟨zl, its, n, rl, ll, el⟩ := J.lstM hl
  obtain ⟨zS, itS, nS, rS, lS, eS⟩ := J.lstM hS
  obtain ⟨u1, u2, rfl, r1, r2⟩ := rS.two
  have W := Walks.list (prog := X.prog) (w := X.w) (A := X.A.in1) (J.ok.hd hcm) I l hlI its.toArray
  have hsz : its.toArray.size = its.length := zM ..
  refine codeAny_builtin PySem.F.entry_min_loop ?_
  rw [Around.under_plainId PySem.F.plain_min_loop _]
  show wpAny _ X.A.in1 (seqItems? (.ref S) >>= _) _ _ _
  refine wB (wpAny_seqItems eS rfl ?_)
  show wpAny _ X.A.in1 (tryCatch (pyNext (.ref I)) _ >>= _) _ _ _
  refine wB (wpAny_tryCatch (W.done _ _ _ ⟨by rw [hsz, <- ll, <- hin]; exact hit, ⟨_, el, rfl, _, rfl⟩⟩ λ h' tk' hk' => ?_))
  have J1 : Inv X pins σ H { s with heap := h', toks := tk' } := J.turned (it := I) (λ b o hb e => hk' b o (by simpa using hb) e) hI.1 hI.2.1 hI.2.2.2.1 hI.2.2.2.2.1 hI.2.2.2.2.2
  have eS1 : h'.get? S = some { cls := .type "list", data := .seq [u1, u2].toArray nS } := hk' S _ (by simpa using hSI) eS
  show wpAny _ X.A.in1 (updateSeq S (λ _ => #[]) >>= _) _ _ _
  refine wB ?_
  refine wpAny_updateSeq eS1 rfl (wB (wpAny_letGo (wP ?_)))
  have J2 := J1.lset (l := S) (ys := []) (its' := []) (f := λ _ => #[]) (t' := tk') hS eS1 rfl .nil (zU _)
  exact hR vb u1 F _ _ (by rw [<- hin]; exact hvb) r1 J2 ⟨G.f, λ b o e => by rw [upd_ne (ne_of_none e hFS)]; exact G.s b o e, λ b o e => by rw [upd_ne (ne_of_none e hHS)]; exact G.h b o e, G.o⟩
 | succ r ih =>
  intro j F H s vb kb hr hj J G hFS hS hvb ikb hI hit
  have hlt : j + 1 < xs.length := by omega
  have hl := G.s _ _ (G.f _ _ hFl)
  have hlI : l ≠ I := λ z => by rw [z, hI.1] at hl; cases hl
  obtain ⟨zl, its, n, rl, ll, el⟩ := J.lstM hl
  obtain ⟨zS, itS, nS, rS, lS, eS⟩ := J.lstM hS
  have W := Walks.list (prog := X.prog) (w := X.w) (A := X.A.in1) (J.ok.hd hcm) I l hlI its.toArray
  have hsz : its.toArray.size = its.length := zM ..
  obtain ⟨u1, u2, rfl, r1, r2⟩ := rS.two
  refine codeAny_builtin PySem.F.entry_min_loop ?_
  rw [Around.under_plainId PySem.F.plain_min_loop _]
  show wpAny _ X.A.in1 (seqItems? (.ref S) >>= _) _ _ _
  refine wB (wpAny_seqItems eS rfl ?_)
  show wpAny _ X.A.in1 (tryCatch (pyNext (.ref I)) _ >>= _) _ _ _
  refine wB (wpAny_tryCatch (W.item (j + 1) _ _ _ (by rw [hsz, <- ll]; exact hlt) ⟨hit, ⟨_, el, rfl, _, rfl⟩⟩ λ u h' tk' hP hst' hk' => ?_))
  have hv : its[j + 1]? = some u := by simpa using hP
  obtain ⟨x, hx, rx⟩ := vals_get rl hv
  have J1 : Inv X pins σ H { s with heap := h', toks := tk' } := J.turned (it := I) (λ b o hb e => hk' b o (by simpa using hb) e) hI.1 hI.2.1 hI.2.2.2.1 hI.2.2.2.2.1 hI.2.2.2.2.2
  obtain ⟨oI, hoI, hoc, hod⟩ := id hst'.1
  have JP := J1.pinned (fp := [I]) (λ b hb => by rw [Q13.mp hb]; exact hI) (λ b hb => by rw [Q13.mp hb]; exact ⟨oI, hoI, λ v z => by rw [hod] at z; cases z⟩)
  show wpAny _ X.A.in1 (tryCatch (holding [u] (call (.ref f) [u])) _ >>= _) _ _ _
  refine wB (wpAny_tryCatch (wpAny_holding (wpAny_mono (turn (j + 1) x hx _ F H _ u JP G rx) (λ kv s2 he => ?_) λ _ _ hF => hF.elim)))
  obtain ⟨kx, H2, F2, J2P, rk, g2, ik⟩ := he
  have J2 := J2P.unpinned
  obtain ⟨hoI2, HI2, _⟩ := J2P.pin (I, oI) (Qd _ (Qd _ (mem_pinsAt (Q13.mpr rfl) hoI)))
  have hI2 : FpOk X pins H2 I := ⟨HI2, hI.2⟩
  have hS2 := g2.h _ _ hS
  have hFS2 : F2 S = none := g2.o _ _ hS (λ _ z => nomatch z) hFS
  have G2 := G.trans g2
  obtain ⟨zS2, itS2, nS2, rS2, lS2, eS2⟩ := J2.lstM hS2
  have bnd : mIx (ltK ks) j <= j := mIx_le _ j
  have cm := minKCmp (i := j + 1) (j := mIx (ltK ks) j) hu hok hcmp (by omega) (by omega) J2 g2.s ik (ikb.same g2.f) rk r2
  show wpAny _ X.A.in1 (tryCatch (holding [u, kv] (richCompare .Lt kv u2 >>= _)) _ >>= _) _ _ _
  refine wB (wpAny_tryCatch (wpAny_holding (wB (cm _ _ _ _ ?_))))
  refine wB (wpAny_holding (wpAny_truthy_bool ?_))
  refine wB (wpAny_letGo (wP ?_))
  by_cases c : ltK ks (j + 1) (mIx (ltK ks) j) = true
  · rw [c]
    simp only [if_true]
    refine wB ?_
    refine wpAny_updateSeq eS2 rfl (wB (wpAny_letGo ?_))
    rw [hname]
    have J3 := J2.lset (l := S) (ys := [x, kx]) (its' := [u, kv]) (f := λ _ => #[u, kv]) (t' := s2.toks) hS2 eS2 rfl (.cons rx (.cons rk .nil)) (small (show 2 <= 1000 by decide))
    refine wP ⟨plainId_quiet PySem.F.plain_min_loop _, ih (j + 1) F2 _ _ x kx (by omega) hlt J3 ⟨G2.f, λ b o e => by rw [upd_ne (ne_of_none e hFS2)]; exact G2.s b o e, λ b o e => by rw [upd_ne (ne_of_none e hHS)]; exact G2.h b o e, G2.o⟩ hFS2 upd_same (by rw [mIx, if_pos c]; exact hx) (by rw [mIx, if_pos c]; exact ik) ⟨by rw [upd_ne hSI.symm]; exact hI2.1, hI2.2⟩ ⟨oI, ?_, hoc, hod⟩⟩
    exact (hUo s2.heap _ hSI).trans hoI2
  · have c' : ltK ks (j + 1) (mIx (ltK ks) j) = false := by simpa using c
    rw [c']
    simp only [zN, if_false]
    refine wB (wpAny_letGo ?_)
    rw [hname]
    exact wP ⟨plainId_quiet PySem.F.plain_min_loop _, ih (j + 1) F2 H2 _ vb kb (by omega) hlt J2 G2 hFS2 hS2 (by rw [mIx, if_neg c]; exact hvb) (by rw [mIx, if_neg c]; exact ikb.same g2.f) hI2 ⟨oI, hoI2, hoc, hod⟩⟩
end
noncomputable def frD : List (Str × Nat) -> DSt -> Option (List PyData)
 | [], _ => some []
 | q :: r, δ => (dVar q.2 δ).bind λ d => (frD r δ).bind λ ds => some (d :: ds)
noncomputable def dMinK (fa : DSt -> Option PyData) (fr : List (Str × Nat)) (fk : DSt -> Option PyData) (δ : DSt) : Option PyData := (fa δ).bind λ d => match d with
 | .list ds => (frD fr δ).bind λ es => minKD (λ x => fk (stD (fr.length + 1) (x :: es))) ds
 | _ => none
theorem frD_vals {K : Fg} {H0 F0 F H : Hp} {σ : St} {δ : DSt} (R : Rep K H0 F0 F σ H δ) : ∀ {fr : List (Str × Nat)} {es : List PyData}, frD fr δ = some es -> ∃ evs : List V, (fr.map λ q => (σ[q.2]?).join) = evs.map some /\ Are K F evs es /\ es.length = fr.length
 | [], es, h => by cases h; exact ⟨[], rfl, rfl, rfl⟩
 | q :: r, es, h => by
  obtain ⟨d, e1, h⟩ := bind_some h
  obtain ⟨ds, e2, h⟩ := bind_some h
  cases h
  obtain ⟨evs, q1, q2, q3⟩ := frD_vals R e2
  unfold dVar at e1
  split at e1
  · rename_i d' z
    cases e1
    obtain ⟨v, hv, is⟩ := R.fz _ _ z
    refine ⟨v :: evs, ?_, ⟨v, evs, rfl, is, q2⟩, by rw [zC, zC, q3]⟩
    rw [zI, zI, q1, hv]
    rfl
  · cases e1
section
variable {X : Cx}
theorem pe_minK {arg body : Expr} {params : Arguments} {sc : Scope} {lpos kpos p1 pos : Pos} {ta te : TE} {fa fk : DSt -> Option PyData} {x qual : Str} {P c : Addr} {k : Nat} (pn : Str) (fr : List (Str × Nat)) (hcm : X.calm = true) (hr : Room (k + 2) X.A)
 (hg : Gl X x) (hm : X.mg x = none) (hv : bootBuiltins x = some (.builtin "min")) (ha : PE X arg ta) (sa : SE X.K ta fa)
 (tbl : TblK X.K P #[rawInt lpos.line, rawInt lpos.col, .str qual 0]) (hC : codeHdIn X.K c P = true) (hcode : X.env.code = .ref c) (hq : X.env.qual ++ "<lambda>" = qual) (Bm : BMd X)
 (hk : sc.kind = .function) (hco : sc.isCoroutine = false) (hgen : sc.isGenerator = false) (hcell : ∀ y ∈ sc.names, y.2 ≠ .cell)
 (hfree : ∀ y ∈ sc.names, y.2 = .free -> X.env.kindOf y.1 = some .cell \/ X.env.kindOf y.1 = some .free) (hp : sc.names.lookup pn = some .local) (hfr : ∀ q ∈ fr, X.N[q.2]? = some q.1 /\ sc.names.lookup q.1 = some .free)
 (hdef : defaultsOf params X.env = ([], [])) (hb : ∀ pm c' ctv u, bindArgs (kla_fn "<lambda>" qual params body sc (clOf X.env sc.names []) pm (.ref c') ctv) ⟨[u], []⟩ = pure [(pn, u)])
 (he : ∀ f c' s H, Room k (cxLam X (pn :: fr.map (·.1)) qual sc f (.ref c') (clOf X.env sc.names []) s H).A -> PE (cxLam X (pn :: fr.map (·.1)) qual sc f (.ref c') (clOf X.env sc.names []) s H) body te) (se : SE X.K te fk)
 (hn : x ≠ "__name__" := by decide) (hdb : (x == ("__debug__" : Str)) = false := by decide)
 (hkn : (backToKw pos (keywordEach [⟨some "key", .Lambda params body sc lpos, kpos⟩] X.env)).filterMap (·.1) = [Str.ofString "key"] := by rfl)
 (hea : backTo pos (starEach [arg] X.env) = (false, eval arg X.env) :: backTo pos (starEach [] X.env) := by rfl) (hpl : (backTo pos (starEach [arg] X.env)).any (·.1) = false := by rfl)
 (hst : starEach [arg] X.env = (false, eval arg X.env) :: starEach [] X.env := by rfl)
 (hall : (backToKw pos (keywordEach [⟨some "key", .Lambda params body sc lpos, kpos⟩] X.env)).all (·.1.isSome) = true := by rfl) (hkw : (backToKw pos (keywordEach [⟨some "key", .Lambda params body sc lpos, kpos⟩] X.env)).any (·.1.isNone) = false := by rfl) :
 PE X (.Call (.Name x p1) [arg] [⟨some "key", .Lambda params body sc lpos, kpos⟩] pos) (tSem X.K (dMinK fa fr fk)) := by
 intro pins s σ H Q I hh
 obtain ⟨H0, F0, F, δ, d, R, e, kq⟩ := hh
 obtain ⟨d1, e1, e⟩ := bind_some e
 split at e
 rotate_left
 · cases e
 rename_i ds
 obtain ⟨es, e2, e⟩ := bind_some e
 obtain ⟨ks, e3, e⟩ := bind_some e
 split at e
 rotate_left
 · cases e
 rename_i cc
 simp only [Q4, Q12, Bool.not_eq_true', List.isEmpty_eq_false_iff] at cc
 obtain ⟨⟨c1, c2⟩, c3⟩ := cc
 obtain ⟨kl, kg⟩ := kysD_get e3
 obtain ⟨evs, v1, v2, v3⟩ := frD_vals R e2
 refine wpAny_Call_Name_kw (ld_blt I hg hm hv ?_ hn hdb)
 refine PyProof.Rows.callWith_kw (thn (pa_cons ha pa_nil hst pos pins s σ H (λ vs H1 => ∃ v F1, vs = [v] /\ Grow F H F1 H1 /\ Is X.K F1 v (.list ds)) I (sa H0 F0 F σ H δ _ _ R e1 λ v H1 F1 g1 i1 => ⟨v, F1, rfl, g1, i1⟩)) λ us s1 h1 => ?_) hea hpl hall hkw
 obtain ⟨vs, H1, I1, r1, v, F1, rfl, g1, i1⟩ := h1
 obtain ⟨l, xs, rfl, hFl, ar⟩ := i1
 obtain ⟨u, rfl, ru⟩ := vals1 r1
 cases (show u = Value.ref l from ru)
 have tb1 : Tb X.K F1 := R.tb.same g1.f
 refine PyProof.Rows.kws_cons (lam_make I1 (g1.s _ _ (tb1 _ _ tbl)) hC hcode hq hfree hdef Bm λ f c' pm ctv h2 tk2 Ha I2 hf hc sm => PyProof.Rows.kws_nil ?_)
 rw [hkn]
 show wpAny _ X.A (call (.builtin "min") [.ref l] [(Str.ofString "key", .ref f)]) _ _ _
 have g2 : Grow F1 H1 F1 Ha := ⟨Same.refl _, g1.s.trans sm, sm, λ _ _ _ _ n => n⟩
 have hlen : ks.length = xs.length := by rw [kl, ar.length]
 have turn : Turn X σ f xs ks F1 Ha := λ i x hx pins' F' H' s' u J G ru => by
  obtain ⟨dx, ex, ix⟩ := ar.get' hx
  obtain ⟨kd, ek, ek2⟩ := kg i dx ex
  have gk : ks.getD i .none = kd := by rw [gDq, ek2]; rfl
  obtain ⟨fo1, _⟩ := J.hok f _ (G.h _ _ hf)
  obtain ⟨oc, uu, vs', t', hc1, hc2, hc3⟩ := hc
  obtain ⟨co1, _⟩ := J.hok c' _ (G.h _ _ hc1)
  have hrm := hr.in1
  refine wpAny_mono (lam_call (v := x) (te := te) (E := λ _ _ => False) (Q := λ v H2 => ∃ F2, Grow F' H' F2 H2 /\ Is X.K F2 v kd) J hr.hd hk hco hgen hcell hfree hp hfr fo1 ⟨c', oc, vs', t', rfl, co1, hc2, hc3⟩ (hb _ _ _ _) ru hrm.depth (he f c' s' H' (hrm.deeper _)) ?_) (λ r s2 q => ?_) λ _ _ z => z
  · have ar2 : Are X.K F' (x :: evs) (dx :: es) := ⟨x, evs, rfl, ix.same G.f, (v2.same g1.f).same G.f⟩
    have RR := repStart (K := X.K) (N := pn :: fr.map (·.1)) (F := F') (H := H') ⟨G.s, tb1.same G.f⟩ ar2
    have eσ : L2.start (pn :: fr.map (·.1)) (x :: evs) = some x :: fr.map λ q => (σ[q.2]?).join := by
     unfold L2.start
     rw [v1]
     have : (pn :: fr.map (·.1)).length - (x :: evs).length = 0 := by
      have := v2.length
      rw [zC, zC, zJ]
      omega
     rw [this]
     simp
    rw [eσ] at RR
    refine se H' F' F' _ H' _ kd _ RR ?_ λ v H2 F2 g i => ⟨F2, g, i⟩
    rw [show (pn :: fr.map (·.1)).length = fr.length + 1 by simp]
    exact ek
  · obtain ⟨v, H2, J2, rv, F2, gg, iv⟩ := q
    exact ⟨v, H2, F2, J2, rv, gg, by rw [gk]; exact iv⟩
 have hname : (toString "min" ++ toString ".loop" : String) = "min.loop" := by decide
 have hl := g2.s _ _ hFl
 obtain ⟨zl, its, n, rl, ll, el⟩ := I2.lstM hl
 have pos : 0 < xs.length := by
  rw [ar.length]
  cases ds with
  | nil => exact absurd rfl c1
  | cons _ _ => exact Nat.succ_pos _
 refine kmk_tree PySem.F.kind_min PySem.F.plain_min PySem.F.entry_min (kmk_min_key _ _) ?_
 show wpAny _ X.A.in1 (Builtin.Builtins.bindParams "min" ["key", "default"] 0 ⟨[], [(Str.ofString "key", .ref f)]⟩ >>= _) _ _ _
 refine wB (wpAny_of_eq (show Builtin.Builtins.bindParams "min" ["key", "default"] 0 ⟨[], [(Str.ofString "key", .ref f)]⟩ = pure [some (.ref f), none] from rfl) ?_)
 refine wB (wP ?_)
 refine wB (wpAny_pyIter_list ⟨_, el, rfl, _, rfl⟩ ?_)
 refine wB (wpAny_newList ?_ (zU _))
 rw [hname]
 have hlt : l < h2.objs.size := hLs el
 generalize hG : h2.push { cls := .type "list_iterator", data := .fields #[.ref l, .int 0 0] } = G1
 have hS : G1.objs.size = h2.objs.size + 1 := by rw [<- hG]; exact size_push' ..
 have hSI : G1.objs.size ≠ h2.objs.size := by rw [hS]; exact nNg (Q21 _)
 have hlI : l ≠ h2.objs.size := nNl hlt
 refine wP ⟨plainId_quiet PySem.F.plain_min_loop _, ?_⟩
 have J0 : Inv X pins σ Ha { s1 with heap := G1, toks := tk2 } := I2.kept (t' := tk2) λ b o e => by rw [<- hG]; exact hPo _ e
 have HS0 : Ha G1.objs.size = none := J0.fresh
 have FS0 : F1 G1.objs.size = none := g2.s.free HS0
 have J1 := J0.lnew (ys := []) (its := []) (t' := tk2) .nil (zU _)
 have gI : (G1.push { cls := .type "list", data := .seq #[] 0 }).get? h2.objs.size = some { cls := .type "list_iterator", data := .fields #[.ref l, .int 0 0] } := hPo _ (by rw [<- hG]; exact hPs _ rfl)
 have gS : (G1.push { cls := .type "list", data := .seq #[] 0 }).get? G1.objs.size = some { cls := .type "list", data := .seq #[] 0 } := hPs _ rfl
 have fI : FpOk X pins (upd Ha G1.objs.size (.lst [])) h2.objs.size := I2.fpOk (Q1 _) (by rw [upd_ne hSI.symm]; exact I2.fresh)
 have gSa : Grow F1 Ha F1 (upd Ha G1.objs.size (.lst [])) := ⟨Same.refl _, g2.s.trans (same_new HS0 _), same_new HS0 _, λ _ _ _ _ n => n⟩
 have el1 : (G1.push { cls := .type "list", data := .seq #[] 0 }).get? l = some { cls := .type "list", data := .seq its.toArray n } := hPo _ (by rw [<- hG]; exact hPo _ el)
 have W := Walks.list (prog := X.prog) (w := X.w) (A := X.A.in1) hr.hd h2.objs.size l hlI its.toArray
 have hsz : its.toArray.size = its.length := zM ..
 refine codeAny_builtin PySem.F.entry_min_loop ?_
 rw [Around.under_plainId PySem.F.plain_min_loop _]
 show wpAny _ X.A.in1 (seqItems? (.ref _) >>= _) _ _ _
 refine wB (wpAny_seqItems gS rfl ?_)
 show wpAny _ X.A.in1 (tryCatch (pyNext (.ref h2.objs.size)) _ >>= _) _ _ _
 refine wB (wpAny_tryCatch (W.item 0 _ _ _ (by rw [hsz, <- ll]; exact pos) ⟨⟨_, gI, rfl, rfl⟩, ⟨_, el1, rfl, _, rfl⟩⟩ λ u h' tk' hP hst' hk' => ?_))
 have hv : its[0]? = some u := by simpa using hP
 obtain ⟨x0, hx, rx⟩ := vals_get rl hv
 have J2 := J1.turned (h' := h') (t' := tk') (it := h2.objs.size) (λ b o hb e => hk' b o (by simpa using hb) e) fI.1 fI.2.1 fI.2.2.2.1 fI.2.2.2.2.1 fI.2.2.2.2.2
 obtain ⟨oI, hoI, hoc, hod⟩ := id hst'.1
 have JP := J2.pinned (fp := [h2.objs.size]) (λ b hb => by rw [Q13.mp hb]; exact fI) (λ b hb => by rw [Q13.mp hb]; exact ⟨oI, hoI, λ v z => by rw [hod] at z; cases z⟩)
 show wpAny _ X.A.in1 (tryCatch (holding [u] (call (.ref f) [u])) _ >>= _) _ _ _
 refine wB (wpAny_tryCatch (wpAny_holding (wpAny_mono (turn 0 x0 hx _ F1 _ _ u JP gSa rx) (λ kv s3 he => ?_) λ _ _ hF => hF.elim)))
 obtain ⟨kx, H3, F3, J3P, rk, g3, ik⟩ := he
 have J3 := J3P.unpinned
 obtain ⟨hoI3, HI3, _⟩ := J3P.pin (h2.objs.size, oI) (Qd _ (Qd _ (mem_pinsAt (Q13.mpr rfl) hoI)))
 have hS3 := g3.h _ _ (upd_same (H := Ha) (a := G1.objs.size) (o := .lst []))
 have hFS3 : F3 G1.objs.size = none := g3.o _ _ upd_same (λ _ z => nomatch z) FS0
 obtain ⟨zS3, itS3, nS3, rS3, lS3, eS3⟩ := J3.lstM hS3
 show wpAny _ X.A.in1 (updateSeq G1.objs.size (λ _ => #[u, kv]) >>= _) _ _ _
 refine wB ?_
 refine wpAny_updateSeq eS3 rfl ?_
 rw [hname]
 have J4 := J3.lset (ys := [x0, kx]) (its' := [u, kv]) (f := λ _ => #[u, kv]) (t' := s3.toks) hS3 eS3 rfl (.cons rx (.cons rk .nil)) (small (show 2 <= 1000 by decide))
 have G3 := gSa.trans g3
 refine wP ⟨plainId_quiet PySem.F.plain_min_loop _, minKLoop (S := G1.objs.size) (I := h2.objs.size) (Fa := F1) (Ha := Ha) hcm hr.units hFl HS0 hSI hlen turn c2 c3 (λ v u' F' H' s' a1 a2 a3 a4 => ?_) _ 0 F3 _ _ x0 kx rfl pos J4
  ⟨G3.f, λ b o e => by rw [upd_ne (ne_of_none e hFS3)]; exact G3.s b o e, λ b o e => by rw [upd_ne (ne_of_none e HS0)]; exact G3.h b o e, G3.o⟩ hFS3 upd_same hx ik ⟨by rw [upd_ne hSI.symm]; exact HI3, fI.2⟩ ⟨oI, ?_, hoc, hod⟩⟩
 · obtain ⟨v', b1, b2⟩ := ar.get e
   rw [ar.length, b1] at a1
   cases a1
   exact ⟨v, H', a3, a2, kq v H' F' (g1.trans (g2.trans a4)) (b2.same a4.f)⟩
 · exact (hUo s3.heap _ hSI).trans hoI3
end
end DL
namespace L2
open PySem PySem.Spec PyProof.Rows PySem.W
section
variable {prog : Program} {w : World} {A : Around} {E : Value -> Shared -> Prop} {s : Shared} {d it r : Addr} {es : Array DictEntry} {ep : Nat}
end
noncomputable def mxL (ns : List Int) : Nat -> Int
 | 0 => ns.getD 0 0
 | j + 1 => if decide (ns.getD (j + 1) 0 > mxL ns j) = true then ns.getD (j + 1) 0 else mxL ns j
section
variable {X : Cx} {pins : List (Addr × Obj)} {σ : St} {S I d : Addr} {ns : List Int} {es : Array DictEntry} {ep : Nat} {H0 : Hp} {R : Result -> Shared -> Prop}
end
def vwO (T : String) (p a : Addr) : HO := .ext λ h => h.get? p = some { cls := .type T, data := .fields #[.ref a] }
def rView (T : String) : V -> List V -> Hp -> VK -> Prop := λ x xs H Q => xs = [] /\ ∃ a kvs, x = .ref a /\ H a = some (.dT kvs) /\ ∀ p, H p = none -> Q (.ref p) (upd H p (vwO T p a))
section
variable {X : Cx} {pins : List (Addr × Obj)} {σ : St} {H : Hp} {s : Shared}
theorem Inv.raw {a : Addr} {kvs : List (List Key × V)} (I : Inv X pins σ H s) (ha : H a = some (.dT kvs)) : (a == sysModules) = false /\ ∃ (ys : List (List Key × Addr × Value)) (es : Array DictEntry) (ep : Nat), Raw s.heap a es ep /\
 Paired (λ (p : List Key × V) (q : List Key × Addr × Value) => p.1 = q.1 /\ H q.2.1 = some (.tup (p.1.map kV)) /\ RelV p.2 q.2.2) kvs ys /\ es.toList = ys.map (entryOfKey (tupleKind (mixKind X.prog X.w))) /\ (ys.map (·.1)).Nodup /\ kvs.length <= sizeLine := by
 obtain ⟨hlen, nsm, ys, rel, ob, es, ep, at_, ex, dat, hes, nd, _⟩ := (show ObjOk X.prog X.w H s.heap a (.dT kvs) from I.hok a _ ha)
 exact ⟨nsm, ys, es, ep, ⟨ob, at_, ex, dat⟩, rel, hes, nd, hlen⟩
end
end L2
namespace DL
open PySem L2
noncomputable def vintsD : List (PyData × PyData) -> Option (List Int)
 | [] => some []
 | (_, .int n) :: r => (vintsD r).map (n :: ·)
 | _ :: _ => none
theorem vintsD_vals {K : Fg} {F : Hp} : ∀ {kvs : List (PyData × PyData)} {m : List (List Key × V)} {ns : List Int}, vintsD kvs = some ns -> Kvs K F m kvs -> m.map (·.2) = ns.map V.int
 | [], m, ns, h, k => by cases h; rw [show m = [] from k]; rfl
 | (k, d) :: r, m, ns, h, kv => by
  cases d with
  | int n =>
   obtain ⟨ns', e1, rfl⟩ := Q0.mp (show (vintsD r).map (n :: ·) = some ns from h)
   obtain ⟨q, m', rfl, h1, h2⟩ := kv
   rw [zI, zI, vintsD_vals e1 h2, show q.2 = V.int n from h1.2]
  | _ => cases h
section
variable {X : Cx} {K : Fg}
end
end DL
namespace L2
open PySem PySem.Spec PyProof.Rows PySem.W Att
def ItSt (h : Heap) (it d S : Addr) (i n ep : Nat) : Prop := ∃ x0 f ok ov, h.get? it = some { cls := .type "dict_itemiterator", dict := none, data := .fields #[x0, .bool f, .ref d, .int i 0, .int n 0, .int ep 0, ok, ov], slots := #[] } /\
 (x0 = .none \/ ∃ (a : Addr) (oa : Obj), x0 = rawInt a /\ h.get? a = some oa /\ a ≠ it /\ a ≠ S)
theorem ItSt.keep {h h' : Heap} {it d S : Addr} {i n ep : Nat} (x : ItSt h it d S i n ep) (k : ∀ b o, b ≠ S -> h.get? b = some o -> h'.get? b = some o) (n1 : it ≠ S) : ItSt h' it d S i n ep := by
 obtain ⟨x0, f, ok, ov, e, r⟩ := x
 refine ⟨x0, f, ok, ov, k _ _ n1 e, r.imp id λ ⟨a, oa, r1, r2, r3, r4⟩ => ⟨a, oa, r1, k _ _ r4 r2, r3, r4⟩⟩
section
variable {prog : Program} {w : World} {A : Around} {E : Value -> Shared -> Prop} {s : Shared} {d it r S : Addr} {es : Array DictEntry} {ep : Nat}
theorem raw_items {Q : Value -> Shared -> Prop} (nsm : (d == sysModules) = false) (x : Raw s.heap d es ep) (q : Q (.ref s.heap.objs.size) { s with heap := s.heap.push { cls := .type "dict_items", data := .fields #[.ref d] } }) :
 wpAny (model prog w) A (call (.builtin "dict.items") [.ref d]) Q E s := by
 have ty := x.ty
 refine wpAny_call_entry F.slot_dict_items ty F.entry_dict_items ?_ (F.args_dict_items_1 _)
 unfold Builtin.«dict.items»; refine wB ?_; unfold Builtin.Dict.noArgs; refine wB (wpAny_notOrdered_dict ty ?_)
 show wpAny _ _ (pure d) _ _ s; refine wP ?_; show wpAny _ _ (Builtin.Dict.showsAll d >>= _) _ _ s; unfold Builtin.Dict.showsAll
 rw [if_neg (by rw [nsm]; exact Q8)]; refine wB (wP ?_)
 exact wB (wpAny_newObj_type (wP ⟨_, rfl, q⟩))
theorem raw_iiter {Q : Value -> Shared -> Prop} (hv : s.heap.IsItemsView r d) (x : Raw s.heap d es ep)
 (q : Q (.ref s.heap.objs.size) { s with heap := s.heap.push { cls := .type "dict_itemiterator", data := .fields #[.none, .bool false, .ref d, .int 0 0, .int es.size 0, .int ep 0, .none, .none] } }) : wpAny (model prog w) A (pyIter (.ref r)) Q E s := by
 obtain ⟨ov, hov, hcv, hdv⟩ := id hv; obtain ⟨ob, at_, ex, dat⟩ := x
 refine wpAny_pyIter_slot hv.typeIs F.slot_dict_items_iter (wpAny_call_entry F.slot_dict_items_iter hv.typeIs F.entry_dict_items_iter ?_ (F.args_dict_items_iter_1 _))
 unfold Builtin.«dict_items.__iter__»; refine wB (wP ?_); refine wB ?_; unfold Builtin.Dict_items.dictOf
 refine wB (wpAny_field hov hdv (x := .ref d) rfl (wP ?_)); refine wB ?_; unfold Builtin.Dict_items.newIterator
 refine wB (wpAny_dictEntries at_ dat ?_); refine wB (wpAny_dictEpoch at_ dat ?_)
 simp only [show Builtin.Dict_items.ownsTuple "dict_itemiterator" = true by decide, if_true]
 refine wpAny_newObj_type (wP ⟨_, rfl, "dict_itemiterator", _, ⟨_, hPs _ rfl, rfl⟩, F.slot_dict_itemiterator_next.lookup, ?_⟩) (by simp only [sizeOk, Builtin.Dict_items.ownedTupleFields, zM, zQ, zC, zH, sizeLine_eq]; omega); simpa [rawInt, Builtin.Dict_items.ownedTupleFields] using q
theorem raw_inext {i : Nat} {Q : Option Value -> Shared -> Prop} (st : ItSt s.heap it d S i es.size ep) (hS : S < s.heap.objs.size) (x : Raw s.heap d es ep) (hi : i < es.size)
 (q : ∀ h', ItSt h' it d S (i + 1) es.size ep -> h'.get? s.heap.objs.size = some { cls := .type "tuple", data := .seq #[es[i].key, es[i].val] } -> h'.objs.size = s.heap.objs.size + 1 ->
  (∀ b o, b ≠ it -> s.heap.get? b = some o -> h'.get? b = some o) -> Q (some (.ref s.heap.objs.size)) { s with heap := h' }) : wpAny (model prog w) A (pyNext (.ref it)) Q E s := by
 obtain ⟨hp, g, dr, tk, os⟩ := s
 obtain ⟨x0, f, ok, ov, hit, own⟩ := st; obtain ⟨ob, at_, ex, dat⟩ := id x
 have hT : Shared.TypeIs ⟨hp, g, dr, tk, os⟩ (.ref it) "dict_itemiterator" := ⟨_, hit, rfl⟩
 unfold pyNext
 refine wB (wpAny_attempt (wpAny_callSpecial?_slot (name := Str.ofString "__next__") hT F.slot_dict_itemiterator_next (wpAny_call_entry F.slot_dict_itemiterator_next hT F.entry_dict_itemiterator_next ?_ (F.args_dict_itemiterator_next_1 _))))
 refine wB (wP (wB (wB ?_)))
 first | refine wB (wpAny_typeNameOfWhole_itemiter hT (wP ?_)); skip | refine wB (wpAny_typeNameOf_itemiter hT (wP ?_)); skip
 refine wB (wpAny_fieldsOf hit rfl ?_); simp only [show Builtin.Dict_items.ownsTuple "dict_itemiterator" = true by decide, if_true]
 show wpAny _ _ (if (Value.ref d == Value.none) = true then _ else _) _ _ _; rw [if_neg (show ¬ ((Value.ref d == Value.none) = true) from Q8)]; refine wB (wP (wB (wpAny_dictEntries at_ dat ?_)))
 rw [if_neg (by simp)]; refine wB (wP (wB (wpAny_dictEpoch at_ dat ?_)))
 rw [if_neg (by simp)]; refine wP ?_
 simp only [show ¬ ((i : Int) < 0) from by omega, if_false, Q2c, Array.getElem?_eq_getElem hi]; refine wB ?_
 first | refine wB (wpAny_typeNameOfWhole_itemiter hT (wP ?_)); skip | refine wB (wpAny_typeNameOf_itemiter hT (wP ?_)); skip
 refine wB (wpAny_isOneOf_itemiter hT ?_); show wpAny _ _ (setField (.ref it) 3 (rawInt ((i : Int) + 1)) >>= _) _ _ ⟨hp, g, dr, tk, os⟩
 refine wB (wpAny_setField_rec hit (by simp) λ h1 e1 s1 => ?_)
 replace s1 : Heap.SameBut it hp h1 := s1
 replace e1 : h1.get? it = some { cls := .type "dict_itemiterator", dict := none, data := .fields #[x0, .bool f, .ref d, .int ((i + 1 : Nat) : Int) 0, .int es.size 0, .int ep 0, ok, ov], slots := #[] } := by
  rw [show ((i + 1 : Nat) : Int) = (i : Int) + 1 by omega]; simpa [rawInt] using e1
 have hT1 : Shared.TypeIs ⟨h1, g, dr, tk, os⟩ (.ref it) "dict_itemiterator" := ⟨_, e1, rfl⟩
 refine wB (wpAny_holding ?_); refine wB (wpAny_isOneOf_itemiter hT1 ?_); refine wB (wpAny_isOneOf_itemiter hT1 ?_)
 show wpAny _ _ (Builtin.Dict_items.pairFromOwner (.ref it) 6 es[i].key es[i].val) _ _ ⟨h1, g, dr, tk, os⟩; unfold Builtin.Dict_items.pairFromOwner; refine wB (wpAny_newTuple ?_)
 have e2 := hPo { cls := .type "tuple", data := .seq #[es[i].key, es[i].val] } e1
 generalize hh2 : h1.push { cls := .type "tuple", data := .seq #[es[i].key, es[i].val] } = h2 at e2
 have z1 : h1.objs.size = hp.objs.size := s1.1
 have lt0 : it < hp.objs.size := hLs hit
 have t2 : h2.get? hp.objs.size = some { cls := .type "tuple", data := .seq #[es[i].key, es[i].val] } := by rw [<- hh2, <- z1]; exact hPs _ rfl
 have z2 : h2.objs.size = hp.objs.size + 1 := by rw [<- hh2, Q19, z1]
 have k2 : ∀ b o, b ≠ it -> hp.get? b = some o -> h2.get? b = some o := λ b o nb e => by rw [<- hh2]; exact hPo _ (s1.extBut b o nb e)
 show wpAny _ _ (Builtin.Dict_items.ownedTupleIsFree (.ref it) >>= _) _ _ ⟨h2, g, dr, tk, os⟩; rw [z1]
 clear hh2 e1 s1 hT1 z1 h1
 have ni := nNg lt0
 refine wB ?_; unfold Builtin.Dict_items.ownedTupleIsFree
 rcases own with rfl | ⟨a, oa, rfl, ha, hai, haS⟩
 · refine wB (wpAny_field e2 rfl (x := .none) rfl (wP ?_)); simp only [if_true]
   refine wB (wpAny_field e2 rfl (x := ok) rfl ?_); refine wB (wpAny_field e2 rfl (x := ov) rfl ?_)
   refine wB (wpAny_setField_rec e2 (by simp) λ h3 e3 s3 => ?_); refine wB (wpAny_setField_rec e3 (by simp) λ h4 e4 s4 => ?_)
   refine wB (wpAny_setField_rec e4 (by simp) λ h5 e5 s5 => ?_); refine wB (wpAny_setField_rec e5 (by simp) λ h6 e6 s6 => ?_)
   have kk : ∀ b o, b ≠ it -> h2.get? b = some o -> h6.get? b = some o := λ b o nb e => s6.extBut b o nb (s5.extBut b o nb (s4.extBut b o nb (s3.extBut b o nb e)))
   refine wB (wpAny_letGo (wP (wP ⟨_, rfl, wP (q h6 ?_ (kk _ _ ni t2) ?_ λ b o nb e => kk b o nb (k2 b o nb e))⟩)))
   · exact ⟨_, _, _, _, e6, .inr ⟨hp.objs.size, _, rfl, kk _ _ ni t2, ni, nNg hS⟩⟩
   · show h6.objs.size = hp.objs.size + 1; rw [s6.1, s5.1, s4.1, s3.1, z2]
 · have ha2 : h2.get? a = some oa := k2 a oa hai ha
   refine wB (wpAny_field e2 rfl (x := rawInt a) rfl ?_); show wpAny _ _ (loadIfAlive ((a : Int).toNat) >>= _) _ _ _; rw [Q2c]
   refine wB (kdx_alive ha2 ?_); simp only [Option.isNone_some, zN, if_false]; refine wB (wpAny_field e2 rfl (x := .bool f) rfl ?_)
   cases f with
   | true =>
    rw [if_neg (show ¬ ((Value.bool true != Value.bool true) = true) from Q8)]; refine wP ?_; simp only [zN, if_false]
    exact wP (wP ⟨_, rfl, wP (q h2 ⟨_, _, _, _, e2, .inr ⟨a, oa, rfl, ha2, hai, haS⟩⟩ t2 z2 k2)⟩)
   | false =>
    rw [if_pos (show (Value.bool false != Value.bool true) = true from rfl)]; refine wB (wpAny_setField_rec e2 (by simp) λ h3 e3 s3 => ?_); refine wP ?_; simp only [zN, if_false]
    exact wP (wP ⟨_, rfl, wP (q h3 ⟨_, _, _, _, e3, .inr ⟨a, oa, rfl, s3.extBut a oa hai ha2, hai, haS⟩⟩ (s3.extBut _ _ ni t2) (by show h3.objs.size = hp.objs.size + 1; rw [s3.1, z2]) λ b o nb e => s3.extBut b o nb (k2 b o nb e))⟩)
theorem raw_iend {i : Nat} {Q : Option Value -> Shared -> Prop} (hh : A.handled = none) (st : ItSt s.heap it d S i es.size ep) (x : Raw s.heap d es ep) (hi : es.size <= i)
 (q : ∀ h', Heap.ExtBut it s.heap h' -> Q none { s with heap := h' }) : wpAny (model prog w) A (pyNext (.ref it)) Q E s := by
 obtain ⟨x0, f, ok, ov, hit, own⟩ := st; obtain ⟨ob, at_, ex, dat⟩ := id x
 have hT : s.TypeIs (.ref it) "dict_itemiterator" := ⟨_, hit, rfl⟩
 unfold pyNext
 refine wB (wpAny_attempt (wpAny_callSpecial?_slot (name := Str.ofString "__next__") hT F.slot_dict_itemiterator_next (wpAny_call_entry F.slot_dict_itemiterator_next hT F.entry_dict_itemiterator_next ?_ (F.args_dict_itemiterator_next_1 _))))
 refine wB (wP (wB (wB ?_)))
 first | refine wB (wpAny_typeNameOfWhole_itemiter hT (wP ?_)); skip | refine wB (wpAny_typeNameOf_itemiter hT (wP ?_)); skip
 refine wB (wpAny_fieldsOf hit rfl ?_); simp only [show Builtin.Dict_items.ownsTuple "dict_itemiterator" = true by decide, if_true]
 show wpAny _ _ (if (Value.ref d == Value.none) = true then _ else _) _ _ s; rw [if_neg (show ¬ ((Value.ref d == Value.none) = true) from Q8)]; refine wB (wP (wB (wpAny_dictEntries at_ dat ?_)))
 rw [if_neg (by simp)]; refine wB (wP (wB (wpAny_dictEpoch at_ dat ?_)))
 rw [if_neg (by simp)]; refine wP ?_
 simp only [show ¬ ((i : Int) < 0) from by omega, if_false, Q2c, Array.getElem?_eq_none hi]; refine wB ?_
 first | refine wB (wpAny_typeNameOfWhole_itemiter hT (wP ?_)); skip | refine wB (wpAny_typeNameOf_itemiter hT (wP ?_)); skip
 show wpAny _ _ (setField (.ref it) 2 .none >>= _) _ _ s; refine wB (wpAny_setField hit rfl (by simp) ?_)
 show wpAny _ _ (newExc (.type "StopIteration") [] >>= _) _ _ _; refine wB ?_; simp only [newExc, newTuple]; refine wB (wpAny_newObj_type ?_ (by size_fits))
 refine wB (m := firstArgMember _ _) (wpAny_of_eq (a := Value.none) (by first | rfl | (simp only [firstArgMember]; rfl)) ?_); refine wpAny_newObj_type ?_ (by size_fits); simp only [raiseNew]; refine wB (wpAny_handled ?_)
 rw [show A.in1.handled = none from hh]; refine wB (wP (wpAny_throw (wB ?_)))
 refine wpAny_isInstance (T := "StopIteration") (b := true) ⟨_, hPs _ rfl, rfl⟩ isSubtype_stop ?_
 exact wP (q _ (((Heap.SameBut.update ..).extBut.push _).push _))
end
structure ItG (es : Array DictEntry) (lo : Addr) (h : Heap) (as : List Addr) : Prop where
 nd : as.Nodup
 up : ∀ a ∈ as, lo < a /\ a < h.objs.size
 prs : ∀ (j : Nat) (a : Addr), as[j]? = some a -> ∃ e, es[j]? = some e /\ h.get? a = some { cls := .type "tuple", data := .seq #[e.key, e.val] }
section
variable {prog : Program} {w : World} {A : Around} {s : Shared} {R : Result -> Shared -> Prop} {es : Array DictEntry} {ep : Nat}
theorem it_loop {S I d : Addr} (hh : A.handled = none) (hSI : S < I) (hSd : d ≠ S) (hId : d ≠ I) (hn : es.size <= sizeLine) (res : Value) {h0 : Heap}
 (hR : ∀ h' tk acc c as, (∀ b o, b ≠ S -> b ≠ I -> h0.get? b = some o -> h'.get? b = some o) -> h'.get? S = some { cls := .type "list", dict := none, data := .seq acc c, slots := #[] } -> as.length = es.size -> ItG es I h' as -> acc.toList = as.map Value.ref -> R (.ok (.ret res)) { s with heap := h', toks := tk }) :
 ∀ (k i : Nat) (h : Heap) (tk c : Nat) (acc : Array Value) (as : List Addr), es.size - i = k -> i <= es.size -> ItSt h I d S i es.size ep -> Raw h d es ep -> (∀ b o, b ≠ S -> b ≠ I -> h0.get? b = some o -> h.get? b = some o) ->
  h.get? S = some { cls := .type "list", dict := none, data := .seq acc c, slots := #[] } -> acc.toList = as.map Value.ref -> as.length = i -> ItG es I h as -> I < h.objs.size ->
  codeAny (model prog w) A (.builtin "list.extend.loop" ⟨[.ref S, .ref I, res], []⟩) R { s with heap := h, toks := tk } := by
 have hne : S ≠ I := nNl hSI
 intro k
 induction k with
 | zero =>
  intro i h tk c acc as hk hi st hD keep hS hacc hal G hIs
  refine codeAny_builtin PySem.F.entry_extend_loop ?_; rw [Around.under_plainId PySem.F.plain_extend_loop _]; show wpAny _ A.in1 (pyNext (.ref I) >>= _) _ _ _
  refine wB (raw_iend (s := { s with heap := h, toks := tk }) (A := A.in1) hh st hD (by omega) λ h' he => ?_)
  refine wP (hR h' tk acc c as (λ b o n1 n2 e => he b o n2 (keep b o n1 n2 e)) (he S _ hne hS) (by omega) ⟨G.nd, λ a ha => ?_, λ j a hj => ?_⟩ hacc)
  · obtain ⟨j, hj⟩ := List.mem_iff_getElem?.mp ha
    obtain ⟨e, q1, q2⟩ := G.prs j a hj
    exact ⟨(G.up a ha).1, hLs (he a _ (nNg (G.up a ha).1) q2)⟩
  · obtain ⟨e, q1, q2⟩ := G.prs j a hj
    exact ⟨e, q1, he a _ (nNg (G.up a (Q1e hj)).1) q2⟩
 | succ k ih =>
  intro i h tk c acc as hk hi st hD keep hS hacc hal G hIs
  have hlt : i < es.size := by omega
  have hsz : acc.size = i := by rw [<- Qf, hacc, zJ, hal]
  refine codeAny_builtin PySem.F.entry_extend_loop ?_; rw [Around.under_plainId PySem.F.plain_extend_loop _]; show wpAny _ A.in1 (pyNext (.ref I) >>= _) _ _ _
  refine wB (raw_inext (s := { s with heap := h, toks := tk }) (S := S) st (hLs hS) hD hlt λ h' st' ht hz kp => ?_)
  dsimp only at ht hz kp ⊢
  have hS' := kp S _ hne hS
  have up : ∀ b o, b ≠ S -> h'.get? b = some o -> (h'.update S (Obj.mapSeq (·.push (Value.ref h.objs.size)))).get? b = some o := λ b o nb e => (hUo _ _ (Ne.symm nb)).trans e
  have hSl : S < h.objs.size := hLs hS
  have hsz2 : (h'.update S (Obj.mapSeq (·.push (Value.ref h.objs.size)))).objs.size = h.objs.size + 1 := by rw [Heap.size_update, hz]
  show wpAny _ A.in1 (updateSeq S (·.push (Value.ref h.objs.size)) >>= _) _ _ _; refine wB ?_
  refine wpAny_updateSeq hS' rfl (wP ⟨plainId_quiet PySem.F.plain_extend_loop _, ih (i + 1) _ tk _ (acc.push (Value.ref h.objs.size)) (as ++ [h.objs.size]) (by omega) hlt (st'.keep up (Ne.symm hne)) (hD.stay λ o e => up d o hSd (kp d o hId e))
   (λ b o n1 n2 e => up b o n1 (kp b o n2 (keep b o n1 n2 e))) (hUs _ hS' rfl) (by rw [Array.toList_push, hacc, Q1c]; rfl) (by rw [zQ, hal]; rfl) ⟨?_, ?_, ?_⟩ (by rw [hsz2]; exact Q2a hIs)⟩) (by rw [hsz]; omega) (by show (acc.push (Value.ref h.objs.size)).size <= sizeLine + 1; rw [Array.size_push, hsz]; omega)
  · refine List.nodup_append.mpr ⟨G.nd, List.pairwise_singleton _ _, λ a ha b hb => ?_⟩
    rw [Q13.mp hb]
    exact nNl (G.up a ha).2
  · intro a ha
    rw [hsz2]
    rcases Q25.mp ha with ha | ha
    · exact ⟨(G.up a ha).1, Q2a (G.up a ha).2⟩
    · rw [Q13.mp ha]; exact ⟨hIs, Q21 _⟩
  · intro j b hj
    rcases Nat.lt_trichotomy j as.length with h1 | h1 | h1
    · rw [Q6 h1] at hj
      obtain ⟨e, q1, q2⟩ := G.prs j b hj
      have hb := (G.up b (Q1e hj)).1
      exact ⟨e, q1, up b _ (nNg (Nat.lt_trans hSI hb)) (kp b _ (nNg hb) q2)⟩
    · subst h1
      have hb : h.objs.size = b := by simpa using hj
      subst hb
      exact ⟨es[as.length], by rw [Array.getElem?_eq_getElem], up _ _ (nNg hSl) (by subst hal; exact ht)⟩
    · rw [List.getElem?_eq_none (by rw [zQ, Q29]; omega)] at hj; cases hj
end
section
variable {prog : Program} {w : World} {A : Around} {E : Value -> Shared -> Prop} {s : Shared} {r d : Addr} {es : Array DictEntry} {ep : Nat}
theorem it_extend {R : Result -> Shared -> Prop} (hh : A.handled = none) (hv : s.heap.IsItemsView r d) (x : Raw s.heap d es ep) (S : Addr) (hSr : S ≠ r) (hSd : d ≠ S) (res : Value) (c0 : Nat) (hS : s.heap.get? S = some { cls := .type "list", data := .seq #[] c0 })
 (hR : ∀ h' tk acc c as, (∀ b o, b ≠ S -> s.heap.get? b = some o -> h'.get? b = some o) -> h'.get? S = some { cls := .type "list", dict := none, data := .seq acc c, slots := #[] } -> as.length = es.size -> ItG es s.heap.objs.size h' as ->
  acc.toList = as.map Value.ref -> R (.ok (.ret res)) { s with heap := h', toks := tk }) (hn : es.size <= sizeLine) :
 wpAny (model prog w) A.in1 (Builtin.List.listExtendWith (.ref S) (.ref r) res)
  (λ fin s' => match fin with | .done f => R (.ok f) s' | .again c' => c'.quiet = true /\ codeAny (model prog w) A c' R s') (λ e s' => R (.error e) s') s := by
 have hSI : S < s.heap.objs.size := hLs hS
 have go : ∀ (h : Heap) (c1 tk : Nat), (∀ b o, b ≠ S -> (s.heap.push { cls := .type "dict_itemiterator", data := .fields #[.none, .bool false, .ref d, .int 0 0, .int es.size 0, .int ep 0, .none, .none] }).get? b = some o -> h.get? b = some o) ->
  h.get? S = some { cls := .type "list", data := .seq #[] c1 } -> codeAny (model prog w) A (.builtin "list.extend.loop" ⟨[.ref S, .ref s.heap.objs.size, res], []⟩) R { s with heap := h, toks := tk } := by
  intro h c1 tk hk hS1
  have hI := hk s.heap.objs.size _ (nNg hSI) (hPs _ rfl)
  exact it_loop (es := es) (ep := ep) (s := s) (h0 := s.heap) hh hSI hSd (nNl x.lt) hn res (λ h' tk' acc c as hk' hS' hl G hacc => hR h' tk' acc c as (λ b o nb e => hk' b o nb (nNl (hLs e)) e) hS' hl G hacc)
   es.size 0 h tk c1 #[] [] (Nat.sub_zero _) (zU _) ⟨_, _, _, _, hI, .inl rfl⟩ (x.stay λ o e => hk d o hSd (hPo _ e)) (λ b o nb _ e => hk b o nb (hPo _ e)) hS1 rfl rfl
   ⟨List.nodup_nil, (λ _ ha => nomatch ha), (λ j a hj => by simp at hj)⟩ (hLs hI)
 unfold Builtin.List.listExtendWith
 refine wB (wpAny_typeOf (T := "dict_items") hv.typeIs ?_)
 simp only [show Builtin.List.listSameRef (.ref S) (.ref r) = false by simp [Builtin.List.listSameRef, hSr], show (Value.type "dict_items" == Value.type "list") = false by decide, show (Value.type "dict_items" == Value.type "tuple") = false by decide, Bool.or_false, zN, if_false]
 refine wB (raw_iiter hv x ?_)
 have hS1 := hPo { cls := .type "dict_itemiterator", data := .fields #[.none, .bool false, .ref d, .int 0 0, .int es.size 0, .int ep 0, .none, .none] } hS
 refine wB (wpAny_holding (kdx_hint (let ⟨o, ho, hc, _⟩ := hv; ⟨o, hPo _ ho, hc⟩) ?_))
 refine wpAny_ite_split (λ _ => ?_) (λ _ => wP ⟨plainId_quiet PySem.F.plain_extend_loop _, go _ c0 _ (λ b o _ e => e) hS1⟩)
 refine wB (wpAny_rule ?_); refine wB ?_; show wpAny _ _ (updateSeq S (·.push .none) >>= λ _ => updateSeq S (·.pop)) _ _ _
 refine wB (wpAny_updateSeq hS1 rfl ?_)
 have hS2 := hUs (Obj.mapSeq (·.push Value.none)) hS1 rfl
 refine wpAny_updateSeq (hz := by seq_fits) hS2 rfl ?_
 have hS3 := hUs (Obj.mapSeq (·.pop)) hS2 rfl
 exact wP ⟨plainId_quiet PySem.F.plain_extend_loop _, go _ _ _ (λ b o nb e => (hUo _ _ (Ne.symm nb)).trans ((hUo _ _ (Ne.symm nb)).trans e)) hS3⟩
theorem it_collect {R : List Value -> Shared -> Prop} (hh : A.handled = none) (hv : s.heap.IsItemsView r d) (x : Raw s.heap d es ep) (hn : es.size <= sizeLine)
 (h : ∀ (h' : Heap) (tk : Nat) (as : List Addr), (∀ b o, s.heap.get? b = some o -> h'.get? b = some o) -> as.length = es.size -> ItG es s.heap.objs.size h' as -> s.heap.objs.size < h'.objs.size -> R (as.map Value.ref) { s with heap := h', toks := tk }) :
 wpAny (model prog w) A (collect (.ref r)) R E s := by
 have hr : r < s.heap.objs.size := let ⟨_, ho, _⟩ := hv; hLs ho
 unfold collect; refine wB (wpAny_runValue (codeAny_builtin entry_proto_collect' ?_)); rw [Around.under_plainId PySem.F.plain_proto_collect _]
 show wpAny _ A.in1 (newList [] >>= λ l => again (.builtin "list.__iadd__" ⟨[l, .ref r], []⟩)) _ _ s; refine wB (wpAny_newObj_type ?_)
 refine wP ⟨plainId_quiet PySem.F.plain_list_iadd _, codeAny_builtin entry_list_iadd' ?_⟩; rw [Around.under_plainId PySem.F.plain_list_iadd _]
 have hS1 : (s.heap.push { cls := .type "list", data := .seq ([] : List Value).toArray }).get? s.heap.objs.size = some { cls := .type "list", data := .seq #[] } := hPs _ rfl
 have main := it_extend (prog := prog) (w := w) (A := A) (s := { s with heap := s.heap.push { cls := .type "list", data := .seq ([] : List Value).toArray } }) (es := es) (ep := ep)
  (R := λ (q : Result) (s' : Shared) => ∃ (h' : Heap) (tk : Nat) (acc : Array Value) (c' : Nat) (as : List Addr), q = .ok (.ret (.ref s.heap.objs.size)) /\ s' = { s with heap := h', toks := tk } /\
   (∀ b o, s.heap.get? b = some o -> h'.get? b = some o) /\ h'.get? s.heap.objs.size = some { cls := .type "list", dict := none, data := .seq acc c', slots := #[] } /\ as.length = es.size /\ ItG es s.heap.objs.size h' as /\ acc.toList = as.map Value.ref)
  hh (let ⟨o, ho, z⟩ := hv; ⟨o, hPo _ ho, z⟩) (x.stay λ o e => hPo _ e) s.heap.objs.size (nNg hr) (nNl x.lt) (.ref s.heap.objs.size) 0 hS1
  (λ h' tk acc c' as hk hS' hl G hacc => ⟨h', tk, acc, c', as, rfl, rfl, λ b o e => hk b o (nNl (hLs e)) (hPo _ e), hS', hl, ⟨G.nd, λ a ha => ⟨Q27 (by show s.heap.objs.size <= (s.heap.push _).objs.size; rw [Q19]; exact Nat.le_succ _) (G.up a ha).1, (G.up a ha).2⟩, G.prs⟩, hacc⟩) hn
 refine wpAny_mono main (λ fin s' y => ?_) λ e s' y => ?_
 · cases fin with
   | done f =>
    obtain ⟨h', tk, acc, c', as, e, rfl, hk, hS', hl, G, hacc⟩ := y
    cases e
    show wpAny _ A (load s.heap.objs.size >>= _) _ _ _; refine wB (wpAny_load hS' (wP ?_)); show R acc.toList _
    rw [hacc]; exact h h' tk as hk hl G (hLs hS')
   | again c1 =>
    refine ⟨y.1, codeAny_mono y.2 λ q s2 y => ?_⟩
    obtain ⟨h', tk, acc, c', as, rfl, rfl, hk, hS', hl, G, hacc⟩ := y
    show wpAny _ A (load s.heap.objs.size >>= _) _ _ _; refine wB (wpAny_load hS' (wP ?_)); show R acc.toList _
    rw [hacc]; exact h h' tk as hk hl G (hLs hS')
 · obtain ⟨_, _, _, _, _, e', _⟩ := y
   cases e'
end
theorem lexI_irr : ∀ x : List Int, lexI x x = false
 | [] => rfl
 | a :: x => by unfold lexI; rw [if_pos rfl]; exact lexI_irr x
theorem ltL_ints (x y : List Int) : ltL (x.map PyData.int) (y.map PyData.int) = some (lexI x y) := by
 induction x generalizing y with
 | nil => cases y <;> rfl
 | cons a x ih => cases y with
  | nil => rfl
  | cons c y =>
   rw [zI, zI, ltL, lexI, DL.eqv_int]
   by_cases e : a = c
   · rw [if_pos e, if_pos (decide_eq_true e), ih y]
   · rw [if_neg e, if_neg (by simpa using e), ltD]
theorem ltD_ints (x y : List Int) : ltD (DL.tupI x) (DL.tupI y) = some (lexI x y) := by
 rw [DL.tupI, DL.tupI, ltD]; exact ltL_ints x y
theorem readsAll_ints {h : Heap} {vs : List Value} {k : List Int} (r : IntsAre vs k) : ReadsAll h vs (k.map PyData.int) [] := by
 induction r with
 | nil => exact .nil
 | cons a t r ih => exact ReadsAll.cons (as := []) (bs := []) (.int a t) ih
theorem reads_tp {h : Heap} {v : Value} {k : List Int} (t : TpI h v k) : Reads h v (DL.tupI k) [] := by
 obtain ⟨a, o, arr, n, rfl, e2, e3, e4, e5⟩ := t
 exact .tuple e2 e3 e4 (readsAll_ints e5)
theorem depth_ints : ∀ k : List Int, PyData.depthAll (k.map PyData.int) = 0
 | [] => rfl
 | a :: k => by rw [zI, PyData.depthAll, depth_ints k]; rfl
theorem can_ints : ∀ k : List Int, PyData.canLayAll0 (k.map PyData.int) = true
 | [] => rfl
 | a :: k => by rw [zI, PyData.canLayAll0, can_ints k]; rfl
theorem depth_tupI (k : List Int) : (DL.tupI k).depth = 1 := by rw [DL.tupI, PyData.depth, depth_ints]
theorem can_tupI (k : List Int) : (DL.tupI k).canLay0 = true := by rw [DL.tupI, PyData.canLay0]; exact can_ints k
def TpP (h : Heap) (v : Value) (k : List Int) : Prop := ∃ a o n x y, v = .ref a /\ h.get? a = some o /\ o.cls = .type "tuple" /\ o.data = .seq #[x, y] n /\ TpI h x k /\ ∃ m t, y = Value.int m t
theorem TpP.firsts {h : Heap} {vs : List Value} {ks : List (List Int)} (p : Paired (TpP h) vs ks) : ∃ fs, KatTups h vs fs /\ fs.length = vs.length /\ ∀ f ∈ fs, ∃ k, TpI h f k := by
 induction p with
 | nil => exact ⟨[], KatTups.nil, rfl, λ f hf => nomatch hf⟩
 | cons q r ih =>
  obtain ⟨a, o, n, x, y, e1, e2, e3, e4, e5, e6⟩ := q
  obtain ⟨fs, h1, h2, h3⟩ := ih
  subst e1
  refine ⟨x :: fs, KatTups.cons e2 e3 e4 rfl h1, by rw [zC, zC, h2], λ f hf => ?_⟩
  rcases Q2.mp hf with rfl | hf
  · exact ⟨_, e5⟩
  · exact h3 f hf
section
variable {prog : Program} {w : World} {A : Around} {E : Value -> Shared -> Prop} {s : Shared}
theorem lsort_prs2 {L D : Addr} {m : Str -> Option Value} {c : Nat} {vs : List Value} {ks : List (List Int)} {Q : Value -> Shared -> Prop} (hu : A.units + 2 < cLine) (hL : s.heap.Ns L m) (hne : D ≠ L) (hD : s.heap.get? D = some (listOf vs.toArray c)) (ht : Paired (TpP s.heap) vs ks)
 (hnd : ks.Nodup) (h2 : 2 <= vs.length) (h64 : vs.length < 64)
 (k : ∀ h' c' (q : Array Nat), (∀ b o, b ≠ L -> b ≠ D -> s.heap.get? b = some o -> h'.get? b = some o) -> h'.Ns L m -> h'.get? D = some (listOf (q.toList.map λ i => vs.getD i .none).toArray c') ->
  SRT.Pm vs.length q -> SRT.Asc (λ i j => lexI (ks.getD i []) (ks.getD j [])) q vs.length -> Q .none { s with heap := h' }) :
 wpAny (model prog w) A (call (.builtin "list.sort") [.ref D]) Q E s := by
 have hlen : vs.length = ks.length := Paired.length ht
 have led : ∀ p ∈ ledger s.heap L D, p.1 ≠ D := λ ⟨_, _⟩ hp => (mem_ledger.mp hp).2.1
 refine kat_lsort (h₀ := noObjs s.heap) (L := L) (m := m) (news := (D, listOf vs.toArray c) :: ledger s.heap L D) (g := λ o => (D, o) :: ledger s.heap L D) (its := vs.toArray) (fr_all hL) (news_ledger hne hD) (.head led) (by simp) h2 h64 λ e1 h' F' N' => ?_
 have keep : ∀ b o, b ≠ L -> b ≠ D -> s.heap.get? b = some o -> h'.get? b = some o := λ b o n1 n2 e => (N' (b, o) (lMc _ (mem_ledger.mpr ⟨n1, n2, e⟩))).1
 obtain ⟨oL, esL, epL, hoL, hdL, _⟩ := hL
 have keepT : ∀ {a : Addr} {o : Obj} {arr : Array Value} {n : Nat}, s.heap.get? a = some o -> o.cls = .type "tuple" -> o.data = .seq arr n -> h'.get? a = some o := λ {a o arr n} e2 e3 e4 =>
  keep a o (λ z => by rw [z, hoL] at e2; cases e2; rw [hdL] at e4; cases e4) (λ z => by rw [z, hD] at e2; cases e2; exact absurd (Value.type.inj e3) (by decide)) e2
 have tup : ∀ {v : Value} {kk : List Int}, TpI s.heap v kk -> TpI h' v kk := λ q => by
  obtain ⟨a, o, arr, n, e1, e2, e3, e4, e5⟩ := q
  exact ⟨a, o, arr, n, e1, keepT e2 e3 e4, e3, e4, e5⟩
 have ht' : Paired (TpP h') vs ks := Paired.mapP ht λ a b q => by
  obtain ⟨a1, o, n, x, y, e1, e2, e3, e4, e5, e6⟩ := q
  exact ⟨a1, o, n, x, y, e1, keepT e2 e3 e4, e3, e4, tup e5, e6⟩
 obtain ⟨fs, t1, t2, t3⟩ := TpP.firsts ht'
 refine kat_kind (T := .type "tuple") t1 (by omega) (λ v hv => by
  obtain ⟨kk, a, o, arr, n, rfl, e2, e3, _⟩ := t3 v hv
  rw [<- e3]
  exact (Looks.ld e2).andThen .now) rfl ?_
 rw [show (Value.type "tuple" != Value.type "tuple") = false from rfl]
 have O : SRT.Ord (λ i j => lexI (ks.getD i []) (ks.getD j [])) vs.length := ⟨λ a b c => lexI_tr _ _ _, λ a b ha hb hab => lexI_to _ _ λ e => hab (by
  rw [gDq, gDq, gEq (by omega), gEq (by omega)] at e
  exact (List.getElem_inj hnd).mp e)⟩
 refine SRT.sat_wp (lt := λ i j => lexI (ks.getD i []) (ks.getD j [])) (n := vs.length) (J := λ s' => s' = { s with heap := h' }) (λ i j C s' hi hj js hC => ?_) (λ p s' hp js => ?_) rfl (SRT.sort_ok O h2)
 · subst js
   have Pi := pgetD (x := Value.none) (y := []) i ht' hi
   have Pj := pgetD (x := Value.none) (y := []) j ht' hj
   obtain ⟨a1, o1, n1, x1, y1, v1, g1, c1, d1, T1, m1, q1, f1⟩ := id Pi
   obtain ⟨a2, o2, n2, x2, y2, v2, g2, c2, d2, T2, m2, q2, f2⟩ := id Pj
   unfold kas_ask
   rw [v1, v2]
   refine kat_lt g1 d1 g2 d2 ?_
   have R1 := reads_tp T1
   have R2 := reads_tp T2
   have dp := λ (z : Nat) => show min (DL.tupI (ks.getD i [])).depth (DL.tupI (ks.getD j [])).depth = 1 by rw [depth_tupI, depth_tupI]; rfl
   have un : A.in1.units + min (DL.tupI (ks.getD i [])).depth (DL.tupI (ks.getD j [])).depth < cLine := by rw [dp 0]; show A.units + 1 + 1 < cLine; omega
   have eq := SeqAt.eqAt_reads _ _ A.in1 { s with heap := h' } _ _ _ _ R1 R2 (can_tupI _) (can_tupI _) un
   rw [DL.eqv_tupI] at eq
   show KatLex prog w A.in1 false (decide (2 < 2)) _ [(x1, x2), (y1, y2)] 0 _
   refine kat_cons (eq prog w _ _ ?_)
   by_cases e : ks.getD i [] = ks.getD j []
   · have ij : i = j := by
      rw [gDq, gDq, gEq (by omega), gEq (by omega)] at e
      exact (List.getElem_inj hnd).mp e
     subst ij
     rw [v1] at v2
     cases v2
     rw [g1] at g2
     cases g2
     rw [d1] at d2
     cases d2
     rw [decide_eq_true e]
     refine kat_yes (kat_cons ?_)
     subst f1
     refine wpAny_eqBool_int ?_
     rw [show (m1 == m1) = true from beq_self_eq_true _]
     refine kat_yes (kat_nil ?_)
     have hq := hC _ rfl
     rw [lexI_irr] at hq
     exact hq
   · rw [decide_eq_false e]
     refine kat_no ?_
     have lt := ltAt_reads _ _ A.in1 { s with heap := h' } _ _ _ _ _ R1 R2 (can_tupI _) (can_tupI _) un (ltD_ints _ _)
     exact kat_one _ _ (lt prog w _ _ (hC _ rfl))
 · subst js
   refine KasFin.intro F' N' (.head led) λ h'' c' F'' N'' => ?_
   exact k h'' c' p (λ b o n1 n2 e => (N'' (b, o) (lMc _ (mem_ledger.mpr ⟨n1, n2, e⟩))).1) F''.ns (N'' _ lMs).1 hp.1 hp.2
theorem lsort_prs {L D : Addr} {m : Str -> Option Value} {c : Nat} {vs : List Value} {ks : List (List Int)} {Q : Value -> Shared -> Prop} (hu : A.units + 2 < cLine) (hL : s.heap.Ns L m) (hne : D ≠ L) (hD : s.heap.get? D = some (listOf vs.toArray c)) (ht : Paired (TpP s.heap) vs ks)
 (hnd : ks.Nodup) (h64 : vs.length < 64)
 (k : ∀ h' c' (q : Array Nat), (∀ b o, b ≠ L -> b ≠ D -> s.heap.get? b = some o -> h'.get? b = some o) -> h'.Ns L m -> h'.get? D = some (listOf (q.toList.map λ i => vs.getD i .none).toArray c') ->
  SRT.Pm vs.length q -> SRT.Asc (λ i j => lexI (ks.getD i []) (ks.getD j [])) q vs.length -> Q .none { s with heap := h' }) :
 wpAny (model prog w) A (call (.builtin "list.sort") [.ref D]) Q E s := by
 by_cases h2 : 2 <= vs.length
 · exact lsort_prs2 hu hL hne hD ht hnd h2 h64 k
 · have h2' : vs.length < 2 := by omega
   obtain ⟨p1, p2⟩ := pm_short h2' (λ i j => lexI (ks.getD i []) (ks.getD j []))
   exact lsort_short hD h2' λ h' c' kp hD' => k h' c' (Array.range vs.length) (λ b o _ nb e => kp b o nb e) (by obtain ⟨o, es, ep, e1, e2⟩ := hL; exact ⟨o, es, ep, kp _ _ hne.symm e1, e2⟩) (by rw [out_short h2']; exact hD') p1 p2
end
end L2
namespace L2
open PySem PySem.Spec PyProof.Rows PySem.W
theorem mt_items {X : Cx} : MtR X "dict.items" (rView "dict_items") := by
 intro pins s σ H x xs v us Q I rx rs h
 obtain ⟨rfl, a, kvs, rfl, ha, q⟩ := h
 cases rs
 cases (show v = Value.ref a from rx)
 obtain ⟨nsm, ys, es, ep, raw, _⟩ := I.raw ha
 refine raw_items nsm raw ?_
 have gf : (s.heap.push { cls := .type "dict_items", data := .fields #[.ref a] }).get? s.heap.objs.size = some { cls := .type "dict_items", data := .fields #[.ref a] } := hPs _ rfl
 exact ⟨.ref s.heap.objs.size, _, I.laid (t' := s.toks) (o := vwO "dict_items" s.heap.objs.size a) (λ b o e => hPo _ e) (Q1 _) ⟨gf, ⟨_, gf⟩, λ h1 h2 e k => k _ e⟩, rfl, q _ I.fresh⟩
def prH (H : Hp) (as : List Addr) (o : Nat -> HO) : Hp := λ b => match as.findIdx? (λ a => a == b) with
 | some j => some (o j)
 | none => H b
theorem prH_at {H : Hp} {as : List Addr} {o : Nat -> HO} (nd : as.Nodup) {j : Nat} {a : Addr} (e : as[j]? = some a) : prH H as o a = some (o j) := by
 have : as.findIdx? (λ x => x == a) = some j := by
  obtain ⟨hj, e⟩ := Q10.mp e
  refine List.findIdx?_eq_some_iff_getElem.mpr ⟨hj, by rw [e]; exact beq_self_eq_true _, λ i hi z => ?_⟩
  have := (List.getElem_inj nd (h₀ := Nat.lt_trans hi hj) (h₁ := hj)).mp ((beq_iff_eq.mp z).trans e.symm)
  omega
 unfold prH
 rw [this]
theorem prH_out {H : Hp} {as : List Addr} {o : Nat -> HO} {b : Addr} (n : b ∉ as) : prH H as o b = H b := by
 have : as.findIdx? (λ x => x == b) = none := List.findIdx?_eq_none_iff.mpr λ x hx => beq_eq_false_iff_ne.mpr λ z => n (z ▸ hx)
 unfold prH
 rw [this]
def rSortI : List V -> Hp -> VK -> Prop := λ xs H Q => ∃ (p a : Addr) (kvs : List (List Key × V)) (ks : List (List Int)) (ns : List Int), xs = [.ref p] /\ H p = some (vwO "dict_items" p a) /\ H a = some (.dT kvs) /\ kvs.map (·.1) = ks.map (λ k => k.map Sum.inl) /\ kvs.map (·.2) = ns.map V.int /\ ks.length < 64 /\
 ∀ (H' : Hp) (D : Addr) (bs ts : List Addr) (q : Array Nat), Same H H' -> H D = none -> ks.Nodup -> SRT.Pm ks.length q -> SRT.Asc (λ i j => lexI (ks.getD i []) (ks.getD j [])) q ks.length -> bs.length = ks.length -> H' D = some (.lst (bs.map V.ref)) ->
  (∀ i, i < ks.length -> H (bs.getD i 0) = none /\ H' (bs.getD i 0) = some (.tup [.ref (ts.getD (SRT.g q i) 0), .int (ns.getD (SRT.g q i) 0)])) -> (∀ i, i < ks.length -> H (ts.getD i 0) = some (.tup ((ks.getD i []).map V.int))) -> ts.length = ks.length -> Q (.ref D) H'
theorem call_sortI {X : Cx} (hcm : X.calm = true) (hu : X.A.units + 64 < cLine) : CallR X (.builtin "sorted") rSortI := by
 intro pins s σ H xs us Q I rv h
 obtain ⟨p, a, kvs, ks, ns, rfl, hp, ha, hks, hkv, h64, q⟩ := h
 obtain ⟨u, rfl, ru⟩ := vals1 rv
 cases (show u = Value.ref p from ru)
 obtain ⟨nsm, ys, es, ep, raw, rel, hes, nd, hlen⟩ := I.raw ha
 obtain ⟨gp, _⟩ := (show ObjOk X.prog X.w H s.heap p (.ext _) from I.hok p _ hp)
 have view : s.heap.IsItemsView p a := ⟨_, gp, rfl, rfl⟩
 obtain ⟨m, hns, _⟩ := id I.loc
 have Llt := I.lt
 have relLen : kvs.length = ys.length := Paired.length rel
 have ksLen : ks.length = kvs.length := by rw [<- zJ (f := λ k : List Int => k.map (Sum.inl : Int -> Key)), <- hks, zJ]
 have nsLen : ns.length = kvs.length := by rw [<- zJ (f := V.int), <- hkv, zJ]
 have esz : es.size = ks.length := by rw [<- Qf, hes, zJ]; omega
 have kE : ∀ i, (kvs.getD i ([], .non)).1 = (ks.getD i []).map Sum.inl := λ i => by
  have e := congrArg (λ l : List (List Key) => l.getD i []) hks
  exact (getD_map (λ p : List Key × V => p.1) kvs i ([], .non)).symm.trans (e.trans (getD_map (λ k : List Int => k.map (Sum.inl : Int -> Key)) ks i []))
 have yk : ∀ i, i < ks.length -> H (ys.getD i ([], 0, .none)).2.1 = some (.tup ((ks.getD i []).map V.int)) := λ i hi => by
  have r := (pgetD (x := (([], V.non) : List Key × V)) (y := (([], 0, Value.none) : List Key × Addr × Value)) i rel (by omega)).2.1
  rw [kE i, key_ints] at r
  exact r
 have yv : ∀ i, i < ks.length -> ∃ t, (ys.getD i ([], 0, .none)).2.2 = .int (ns.getD i 0) t := λ i hi => by
  have r := (pgetD (x := (([], V.non) : List Key × V)) (y := (([], 0, Value.none) : List Key × Addr × Value)) i rel (by omega)).2.2
  have e1 := congrArg (λ l : List V => l.getD i .non) hkv
  have e2 := getD_map (λ z : List Key × V => z.2) kvs i ([], .non)
  have e3 : (ns.map V.int).getD i .non = .int (ns.getD i 0) := by
   rw [gDq, zK, gEq (show i < ns.length by omega), gDq, gEq (show i < ns.length by omega)]
   rfl
  rw [e2.symm.trans (e1.trans e3)] at r
  exact r
 have ksnd : ks.Nodup := by
  have e := paired_fst (λ p q z => z.1) rel
  rw [<- e, hks] at nd
  exact (List.pairwise_map.mp nd).imp λ z e => z (by rw [e])
 have esE : ∀ i, i < ks.length -> es[i]? = some (entryOfKey (tupleKind (mixKind X.prog X.w)) (ys.getD i ([], 0, .none))) := λ i hi => by
  rw [<- Q1b, hes, zK, gDq, gEq (show i < ys.length by omega)]
  rfl
 refine Calls.call_function_entry kind_sorted plain_sorted entry_sorted (args_sorted1 _) ?_
 unfold Builtin.«sorted»
 refine wB (m := checkCount "sorted" 1 1 _) (wP ?_)
 refine wB (it_collect (I.ok.hd hcm) view raw (by omega) λ tp tk as kT hal G Dgt => ?_)
 refine wB (wpAny_newList ?_ (by rw [zJ]; omega))
 have hal' : as.length = ks.length := by omega
 have kN : ∀ b o, s.heap.get? b = some o -> (tp.push (seqObj "list" (as.map Value.ref).toArray 0)).get? b = some o := λ b o e => hPo _ (kT b o e)
 have nD : (tp.push (seqObj "list" (as.map Value.ref).toArray 0)).get? tp.objs.size = some (listOf (as.map Value.ref).toArray 0) := hPs _ rfl
 have asT : ∀ i, i < ks.length -> ∃ t, as[i]? = some (as.getD i 0) /\ (tp.push (seqObj "list" (as.map Value.ref).toArray 0)).get? (as.getD i 0) = some { cls := .type "tuple", data := .seq #[.ref (ys.getD i ([], 0, .none)).2.1, .int (ns.getD i 0) t] } := λ i hi => by
  have ia : i < as.length := by omega
  have eA : as[i]? = some (as.getD i 0) := by rw [gDq, gEq ia]; rfl
  obtain ⟨e, q1, q2⟩ := G.prs i _ eA
  rw [esE i hi] at q1
  cases q1
  obtain ⟨t, et⟩ := yv i hi
  refine ⟨t, eA, hPo _ ?_⟩
  rw [q2]
  show some ({ cls := .type "tuple", data := .seq #[.ref (ys.getD i ([], 0, .none)).2.1, (ys.getD i ([], 0, .none)).2.2] } : Obj) = _
  rw [et]
 have asN : ∀ b ∈ as, s.heap.get? b = none := λ b hb => Heap.get?_none_of_le (nLe (G.up b hb).1)
 have asD : ∀ b ∈ as, b ≠ tp.objs.size := λ b hb => nNl (G.up b hb).2
 have und := G.nd
 clear G
 generalize hDv : tp.objs.size = D at nD Dgt asD
 generalize hh' : tp.push (seqObj "list" (as.map Value.ref).toArray 0) = h' at kN nD asT
 have Dnew : s.heap.get? D = none := Heap.get?_none_of_le (nLe Dgt)
 have DL' : D ≠ X.env.locals := nNg (Nat.lt_trans Llt Dgt)
 have HN : ∀ b, s.heap.get? b = none -> H b = none := λ b e => by
  cases z : H b with
  | none => rfl
  | some o =>
   obtain ⟨_, e'⟩ := (I.hok b o z).there
   rw [e] at e'
   cases e'
 have HD : H D = none := HN D Dnew
 have hns' : h'.Ns X.env.locals m := by
  obtain ⟨o, es, ep, e1, e2⟩ := hns
  exact ⟨o, es, ep, kN _ _ e1, e2⟩
 have ge : ∀ i, i < ks.length -> (as.map Value.ref).getD i .none = .ref (as.getD i 0) := λ i hi => by
  have ia : i < as.length := by omega
  rw [gDq, zK, gEq ia, gDq, gEq ia]
  rfl
 have ht : Paired (TpP h') (as.map Value.ref) ks := paired_of (x := Value.none) (y := []) (by rw [zJ]; omega) λ i hi => by
  have hi' : i < ks.length := by rw [zJ] at hi; omega
  obtain ⟨t, _, gt⟩ := asT i hi'
  obtain ⟨_, it2, r2, ⟨o, e1, e2, n2, e3⟩, _⟩ := (show ObjOk X.prog X.w H s.heap _ (.tup _) from I.hok _ _ (yk i hi'))
  rw [ge i hi']
  refine ⟨_, _, 0, _, _, rfl, gt, rfl, rfl, ⟨_, o, _, n2, rfl, kN _ o e1, e2, e3, ?_⟩, _, t, rfl⟩
  rw [List.toList_toArray]
  exact ints_of_vals r2
 refine wB (wpAny_holding ?_)
 refine lsort_prs (s := { s with heap := h', toks := tk }) (L := X.env.locals) (D := D) (m := m) (c := 0) (by show X.A.units + 1 + 2 < cLine; omega) hns' DL' nD ht ksnd (by rw [zJ]; omega) λ h2' c2 qq kp2 ns2 hD2 P2 A2 => wP ?_
 rw [zJ, hal'] at P2 A2
 have hb : ∀ i, i < ks.length -> SRT.g qq i < ks.length := P2.lt
 have hl2 : qq.toList.Perm (List.range ks.length) := by simpa using Q28.mp P2.pe
 have outE : (qq.toList.map λ i => (as.map Value.ref).getD i .none) = (qq.toList.map λ i => as.getD i 0).map Value.ref := by
  rw [zO]
  apply Q26
  intro i hi
  exact ge i (by simpa using hl2.mem_iff.mp hi)
 rw [outE] at hD2
 have kp3 : ∀ b o, b ≠ X.env.locals -> s.heap.get? b = some o -> h2'.get? b = some o := λ b o nb e => kp2 b o nb (λ y => by rw [y, Dnew] at e; cases e) (kN b o e)
 have bl : (qq.toList.map λ i => as.getD i 0).length = ks.length := by rw [zJ, Qf, P2.sz]
 let oo : Nat -> HO := λ j => .tup [.ref (ys.getD j ([], 0, .none)).2.1, .int (ns.getD j 0)]
 have memA : ∀ i, i < ks.length -> as.getD i 0 ∈ as := λ i hi => by
  rw [gDq, gEq (by omega)]
  exact Q17 _
 have nin : ∀ {b u}, H b = some u -> b ∉ as := λ {b u} e hb => by rw [HN b (asN b hb)] at e; cases e
 have sm : Same H (upd (prH H as oo) D (.lst ((qq.toList.map λ i => as.getD i 0).map V.ref))) := λ b u e => by
  rw [upd_ne (ne_of_none e HD), prH_out (nin e)]
  exact e
 have hokN : HOk X.prog X.w (upd (prH H as oo) D (.lst ((qq.toList.map λ i => as.getD i 0).map V.ref))) h2' := λ b u e => by
  by_cases y : b = D
  · subst y
    rw [upd_same] at e
    cases e
    exact ⟨by rw [zJ, bl]; exact small (by omega), _, c2, vals_refs _, hD2⟩
  · rw [upd_ne y] at e
    by_cases yb : b ∈ as
    · obtain ⟨j, hj⟩ := List.mem_iff_getElem?.mp yb
      have hjl : j < ks.length := by
       have := (Q10.mp hj).1
       omega
      rw [prH_at und hj] at e
      cases e
      obtain ⟨t, e1, gt⟩ := asT j hjl
      rw [hj] at e1
      cases e1
      have g2 := kp2 _ _ (λ z => by
       have := asN _ yb
       rw [z] at this
       obtain ⟨oL, _, _, hoL, _⟩ := hns
       rw [this] at hoL
       cases hoL) y gt
      exact ⟨small (show 2 <= 1000 by decide), [.ref (ys.getD j ([], 0, .none)).2.1, .int (ns.getD j 0) t], .cons rfl (.cons ⟨t, rfl⟩ .nil), ⟨_, g2, rfl, _, rfl⟩, _, g2, rfl⟩
    · rw [prH_out yb] at e
      refine (I.hok b u e).stay (λ c v hc e1 => kp3 c v (λ y => ?_) e1) (λ c y => sm _ _ y) (λ c xs y => sm _ _ y) λ c ob xs y => sm _ _ y
      subst y
      rcases hc with y | y
      · rw [<- y, I.free] at e; cases e
      · rw [I.free] at y; cases y
 have I2 : Inv X pins σ (upd (prH H as oo) D (.lst ((qq.toList.map λ i => as.getD i 0).map V.ref))) { s with heap := h2', gens := s.gens, drawn := s.drawn, toks := tk } :=
  Inv.step (s := s) (ch := []) I (λ _ y => nomatch y) (λ b o nb _ _ e _ => kp3 b o nb e) (λ b o nb _ _ e _ => ⟨o.slots, kp3 b o nb e⟩) (λ b o _ e n => by rw [upd_ne (λ y => by rw [y, Dnew] at e; cases e), prH_out (λ y => by rw [asN b y] at e; cases e)]; exact n)
   (λ b o _ e => by
    by_cases y : b = X.env.locals
    · subst y
      obtain ⟨o2, _, _, e2, _⟩ := ns2
      exact ⟨o2, e2⟩
    · exact ⟨o, kp3 b o y e⟩)
   (λ b xs e => sm _ _ e) (λ b o xs e => sm _ _ e) (λ b ps e => ⟨#[], by rw [sm _ _ e]; simp⟩) (λ m2 hm2 => ns_unique hns hm2 ▸ ns2) hokN I.bare
 have tsE : ∀ i, i < ks.length -> (ys.map λ y => y.2.1).getD i 0 = (ys.getD i ([], 0, Value.none)).2.1 := λ i hi => getD_map (λ y : List Key × Addr × Value => y.2.1) ys i ([], 0, Value.none)
 refine ⟨_, rfl, .ref D, _, I2, rfl, q _ D _ (ys.map λ y => y.2.1) qq sm HD ksnd P2 A2 bl upd_same (λ i hi => ?_) (λ i hi => by rw [tsE i hi]; exact yk i hi) (by rw [zJ]; omega)⟩
 have e : (qq.toList.map λ i => as.getD i 0).getD i 0 = as.getD (SRT.g qq i) 0 := by
  have hq : i < qq.toList.length := by rw [Qf, P2.sz]; exact hi
  rw [gDq, zK, gEq hq]
  show as.getD qq.toList[i] 0 = _
  congr 1
  unfold SRT.g
  rw [<- Q1b, gEq hq]
  rfl
 have hg := hb i hi
 have mg := memA _ hg
 obtain ⟨t, eA, _⟩ := asT _ hg
 rw [e, tsE _ hg]
 refine ⟨HN _ (asN _ mg), ?_⟩
 rw [upd_ne (asD _ mg), prH_at und eA]
end L2
namespace DL
open PySem L2
noncomputable abbrev KN := List Int × Int
noncomputable def insP (x : KN) : List KN -> List KN
 | [] => [x]
 | y :: r => if lexI x.1 y.1 = true then x :: y :: r else y :: insP x r
noncomputable def srtP : List KN -> List KN
 | [] => []
 | x :: r => insP x (srtP r)
def ltP (a b : KN) : Prop := lexI a.1 b.1 = true
theorem insP_perm (x : KN) : ∀ l, (insP x l).Perm (x :: l)
 | [] => .refl _
 | y :: r => by
  unfold insP
  split
  · exact .refl _
  · exact ((insP_perm x r).cons y).trans (.swap x y r)
theorem srtP_perm : ∀ l, (srtP l).Perm l
 | [] => .refl _
 | x :: r => (insP_perm x _).trans ((srtP_perm r).cons x)
theorem insP_pw (x : KN) : ∀ {l : List KN}, l.Pairwise ltP -> (∀ y ∈ l, x.1 ≠ y.1) -> (insP x l).Pairwise ltP
 | [], _, _ => List.pairwise_singleton _ _
 | y :: r, h, n => by
  obtain ⟨h1, h2⟩ := Q18.mp h
  unfold insP
  split
  · rename_i c
    refine Q18.mpr ⟨λ z hz => ?_, h⟩
    rcases Q2.mp hz with rfl | hz
    · exact c
    · exact lexI_tr _ _ _ c (h1 z hz)
  · rename_i c
    refine Q18.mpr ⟨λ z hz => ?_, insP_pw x h2 λ z hz => n z (lMc _ hz)⟩
    rcases Q2.mp ((insP_perm x r).mem_iff.mp hz) with rfl | hz
    · exact lexI_to _ _ (n y lMs) (by simpa using c)
    · exact h1 z hz
theorem srtP_pw : ∀ {l : List KN}, (l.map (·.1)).Nodup -> (srtP l).Pairwise ltP
 | [], _ => .nil
 | x :: r, h => by
  rw [zI] at h
  obtain ⟨h1, h2⟩ := Q14.mp h
  exact insP_pw x (srtP_pw h2) λ y hy e => h1 (e ▸ zP ((srtP_perm r).mem_iff.mp hy))
theorem uniqP : ∀ {l m : List KN}, l.Perm m -> l.Pairwise ltP -> m.Pairwise ltP -> l = m
 | [], m, p, _, _ => by rw [List.nil_perm.mp p]
 | a :: x, [], p, _, _ => absurd p.length_eq (by simp)
 | a :: x, b :: y, p, s1, s2 => by
  have e : a = b := by
   have ha : a ∈ b :: y := p.mem_iff.mp lMs
   have hb : b ∈ a :: x := p.mem_iff.mpr lMs
   rcases Q2.mp ha with ha | ha
   · exact ha
   · rcases Q2.mp hb with hb | hb
     · exact hb.symm
     · have := lexI_tr a.1 b.1 a.1 ((Q18.mp s1).1 b hb) ((Q18.mp s2).1 a ha)
       rw [lexI_irr] at this
       cases this
  subst e
  rw [uniqP (List.Perm.cons_inv p) (Q18.mp s1).2 (Q18.mp s2).2]
theorem srtP_q {ks : List (List Int)} {ns : List Int} {q : Array Nat} (nl : ns.length = ks.length) (nd : ks.Nodup) (P : SRT.Pm ks.length q) (A : SRT.Asc (λ i j => lexI (ks.getD i []) (ks.getD j [])) q ks.length) :
 ((List.range ks.length).map λ i => ((ks.getD (SRT.g q i) [], ns.getD (SRT.g q i) 0) : KN)) = srtP (ks.zip ns) := by
 have hl2 : q.toList.Perm (List.range ks.length) := by simpa using Q28.mp P.pe
 have ql : q.toList = (List.range ks.length).map (SRT.g q) := by
  apply List.ext_getElem
  · rw [Qf, P.sz, zJ, Q20]
  · intro i h1 h2
    rw [List.getElem_map, Q1d]
    unfold SRT.g
    rw [<- Q1b, gEq h1]
    rfl
 have kr : (List.range ks.length).map (λ i => ((ks.getD i [], ns.getD i 0) : KN)) = ks.zip ns := by
  apply List.ext_getElem
  · rw [zJ, Q20, List.length_zip, nl, Nat.min_self]
  · intro i h1 h2
    have hk : i < ks.length := by simpa using h1
    rw [List.getElem_map, Q1d, List.getElem_zip, gDq, gEq hk, gDq, gEq (by omega)]
    rfl
 have zf : (ks.zip ns).map (·.1) = ks := by
  rw [<- kr, zO]
  apply List.ext_getElem
  · rw [zJ, Q20]
  · intro i h1 h2
    rw [List.getElem_map, Q1d]
    show ks.getD i [] = _
    rw [gDq, gEq h2]
    rfl
 refine uniqP ?_ ?_ (srtP_pw (by rw [zf]; exact nd))
 · refine List.Perm.trans ?_ (srtP_perm _).symm
   have : ((List.range ks.length).map λ i => ((ks.getD (SRT.g q i) [], ns.getD (SRT.g q i) 0) : KN)) = q.toList.map λ i => (ks.getD i [], ns.getD i 0) := by rw [ql, zO]; rfl
   rw [this]
   have p := hl2.map (λ i => ((ks.getD i [], ns.getD i 0) : KN))
   rw [kr] at p
   exact p
 · rw [List.pairwise_map]
   refine List.pairwise_iff_getElem.mpr λ i j hi hj hij => ?_
   rw [Q1d, Q1d]
   exact A i j hij (by simpa using hj)
noncomputable def pairD (p : KN) : PyData := .tuple [tupI p.1, .int p.2]
noncomputable def sortID : PyData -> Option PyData
 | .dict kvs => (keysD kvs).bind λ ks => (vintsD kvs).bind λ ns => if decide (ks.length < 64) = true then some (.list ((srtP (ks.zip ns)).map pairD)) else none
 | _ => none
noncomputable def dSortI (fe : DSt -> Option PyData) (δ : DSt) : Option PyData := (fe δ).bind sortID
section
variable {X : Cx} {K : Fg}
theorem Grow.more {F H H' : Hp} (s : Same F H) (hh : Same H H') (T : List Addr) (hT : ∀ b ∈ T, H b = none \/ ∃ xs, H b = some (.tup xs)) : Grow F H (λ b => if b ∈ T then H' b else F b) H' := by
 refine ⟨λ b u e => ?_, λ b u e => ?_, hh, λ b u e t n => ?_⟩
 · show (if b ∈ T then H' b else F b) = some u
   split
   · exact hh _ _ (s b u e)
   · exact e
 · have e : (if b ∈ T then H' b else F b) = some u := e
   split at e
   · exact e
   · exact hh _ _ (s b u e)
 · show (if b ∈ T then H' b else F b) = none
   split
   · rename_i hm
     rcases hT b hm with z | ⟨xs, z⟩
     · rw [z] at e; cases e
     · rw [z] at e
       cases e
       exact absurd rfl (t xs)
   · exact n
theorem are_prs {F : Hp} : ∀ {bs : List Addr} {ps : List KN}, bs.length = ps.length -> (∀ i, i < ps.length -> ∃ t, F (bs.getD i 0) = some (.tup [.ref t, .int (ps.getD i ([], 0)).2]) /\ F t = some (.tup ((ps.getD i ([], 0)).1.map V.int))) -> Are K F (bs.map V.ref) (ps.map pairD)
 | [], [], _, _ => rfl
 | [], _ :: _, e, _ => by cases e
 | _ :: _, [], e, _ => by cases e
 | b :: bs, p :: ps, e, h => by
  obtain ⟨t, h1, h2⟩ := h 0 (Nat.succ_pos _)
  exact ⟨.ref b, _, rfl, ⟨b, _, rfl, h1, ⟨.ref t, _, rfl, ⟨t, _, rfl, h2, Are.ints.mpr rfl⟩, ⟨.int p.2, _, rfl, rfl, rfl⟩⟩⟩, are_prs (Nat.succ.inj e) λ i hi => h (i + 1) (Nat.succ_lt_succ hi)⟩
theorem keysD_len : ∀ {kvs : List (PyData × PyData)} {ks : List (List Int)}, keysD kvs = some ks -> ks.length = kvs.length
 | [], _, h => by cases h; rfl
 | p :: r, _, h => by
  obtain ⟨k, _, e2⟩ := bind_some h
  obtain ⟨us, e3, rfl⟩ := Q0.mp e2
  simp [keysD_len e3]
theorem vintsD_len : ∀ {kvs : List (PyData × PyData)} {ns : List Int}, vintsD kvs = some ns -> ns.length = kvs.length
 | [], _, h => by cases h; rfl
 | (k, d) :: r, ns, h => by
  cases d with
  | int n =>
   obtain ⟨us, e3, rfl⟩ := Q0.mp (show (vintsD r).map (n :: ·) = some ns from h)
   simp [vintsD_len e3]
  | _ => cases h
def tSortI (K : Fg) (te : TE) : TE := tCB rSortI (tCons (tBM0 K "dict" (rView "dict_items") te) tNil)
theorem se_sortI {te : TE} {fe : DSt -> Option PyData} (a : SE K te fe) : SE K (tSortI K te) (dSortI fe) := by
 intro H0 F0 F σ H δ d Q R e h
 obtain ⟨d1, e1, e2⟩ := bind_some e
 unfold sortID at e2
 split at e2
 · rename_i kvs
   obtain ⟨ks, e3, e4⟩ := bind_some e2
   obtain ⟨ns, e5, e6⟩ := bind_some e4
   split at e6
   · rename_i c
     cases e6
     simp only [decide_eq_true_eq] at c
     have kl := keysD_len e3
     have nl := vintsD_len e5
     refine a H0 F0 F σ H δ _ _ R e1 λ v H1 F1 g1 i1 => ?_
     obtain ⟨p, rfl, hh⟩ := i1
     have hd : ∃ m, F1 p = some (.dT m) /\ Kvs K F1 m kvs := by
      rcases hh with ⟨ms, rfl, _⟩ | ⟨m, z, kv⟩ | ⟨nm, rfl, _⟩ | ⟨m, z, kv⟩
      · cases e5
      · exact ⟨m, z, kv⟩
      · cases e5
      · cases kvs with
        | nil => exact kv.elim
        | cons q r => rw [kv.1] at e5; cases e5
     obtain ⟨m, hm, kv⟩ := hd
     have hmH := g1.s _ _ hm
     refine ⟨.inr (.inr (.inl ⟨rfl, .inr ⟨m, hmH⟩⟩)), rfl, p, m, rfl, hmH, λ q hq => ?_⟩
     refine ⟨q, p, m, ks, ns, rfl, upd_same, by rw [upd_ne (ne_of_none hmH hq)]; exact hmH, kvs_keys kv e3, vintsD_vals e5 kv, c, λ H' D bs ts qq sm hD nd P A hbl hDl hbs hts htl => ?_⟩
     have sm1 : Same H1 H' := (same_new hq _).trans sm
     have old : ∀ {b}, upd H1 q (vwO "dict_items" q p) b = none -> H1 b = none := λ {b} z => by
      by_cases y : b = q
      · rw [y]; exact hq
      · rw [upd_ne y] at z; exact z
     have tOld : ∀ i, i < ks.length -> H1 (ts.getD i 0) = some (.tup ((ks.getD i []).map V.int)) := λ i hi => by
      have z := hts i hi
      rw [upd_ne (λ y => by rw [y, upd_same] at z; cases z)] at z
      exact z
     have mem : ∀ {l : List Addr} {i : Nat}, i < l.length -> l.getD i 0 ∈ l := λ {l i} hi => by
      rw [gDq, gEq hi]
      exact Q17 _
     have gr := Grow.more g1.s sm1 (D :: (bs ++ ts)) λ b hb => by
      rcases Q2.mp hb with rfl | hb
      · exact .inl (old hD)
      · rcases Q25.mp hb with hb | hb
        · obtain ⟨i, hi, rfl⟩ := List.getElem_of_mem hb
          have := (hbs i (by omega)).1
          rw [gDq, gEq hi] at this
          exact .inl (old this)
        · obtain ⟨i, hi, rfl⟩ := List.getElem_of_mem hb
          have := tOld i (by omega)
          rw [gDq, gEq hi] at this
          exact .inr ⟨_, this⟩
     refine h (.ref D) H' _ (g1.trans gr) ⟨D, _, rfl, (if_pos lMs).trans hDl, ?_⟩
     have sk := srtP_q (ns := ns) (by omega) nd P A
     rw [<- sk]
     refine are_prs (by rw [zJ, Q20]; exact hbl) λ i hi => ?_
     have hi' : i < ks.length := by simpa using hi
     have ge : ((List.range ks.length).map λ i => ((ks.getD (SRT.g qq i) [], ns.getD (SRT.g qq i) 0) : KN)).getD i ([], 0) = (ks.getD (SRT.g qq i) [], ns.getD (SRT.g qq i) 0) := by
      rw [gDq, zK, List.getElem?_range hi']
      rfl
     rw [ge]
     have hg := P.lt i hi'
     refine ⟨ts.getD (SRT.g qq i) 0, (if_pos (lMc _ (List.mem_append_left _ (mem (l := bs) (i := i) (by omega))))).trans (hbs i hi').2, (if_pos (lMc _ (Qd _ (mem (l := ts) (i := SRT.g qq i) (by omega))))).trans ?_⟩
     exact sm1 _ _ (tOld _ hg)
   · cases e6
 · cases e2
theorem kx_sortI (K : Fg) {x : Str} {E : Expr} {ap cp p1 pos : Pos} {te : TE} (hc : X.calm = true) (hu : X.A.units + 64 < cLine) (hg : Gl X x) (hm : X.mg x = none) (hv : bootBuiltins x = some (.builtin "sorted")) (ha : PE X E te) (h : X.K = K := by rfl) (hn : x ≠ "__name__" := by decide) (hdb : (x == ("__debug__" : Str)) = false := by decide)
 (hbase : attributeBase E "items" X.env (eval E X.env) = eval E X.env := by rfl) (hline : (ap.endLine == cp.line) = true := by rfl)
 (he : starEach [.Call (.Attribute E "items" ap) [] [] cp] X.env = (false, eval (.Call (.Attribute E "items" ap) [] [] cp) X.env) :: starEach [] X.env := by rfl) (hpl : (backTo pos (starEach [] X.env)).any (·.1) = false := by rfl) :
 PE X (.Call (.Name x p1) [.Call (.Attribute E "items" ap) [] [] cp] [] pos) (tSortI K te) := by
 subst h
 exact pe_callB (call_sortI hc hu) hg hm hv (pa_cons (pe_bm0 PySem.F.plainAttrs_dict PySem.F.slot_dict_items PySem.F.type_dict_items mt_items ha hbase hline) pa_nil he) hn hdb he hpl
end
end DL
namespace DL
open PySem PySem.Spec PyProof.Rows L2 PySem.W
noncomputable def tabOf (K : Frag) (q : Addr × Obj) : Option (Addr × Array Value) := match q.2.data with
 | .func fd => (lamOf fd).bind λ ps => match fd.code with
  | .ref c => match K.lookup c with
   | some ⟨_, _, .fields vs, _⟩ => match (vs[11]? : Option Value) with
    | some (.ref P) => if codeHdIn K c P = true then some (P, ps) else none
    | _ => none
   | _ => none
  | _ => none
 | _ => none
noncomputable def tblsOf (K : Frag) : List (Addr × Array Value) := K.filterMap (tabOf K)
theorem codeHdIn_at {K : Frag} {c P : Addr} (h : codeHdIn K c P = true) : ∃ a b d vs, K.lookup c = some ⟨a, b, .fields vs, d⟩ /\ vs[11]? = some (Value.ref P) := by
 unfold codeHdIn at h
 split at h
 · rename_i b vs d hk
   simp only [Q4] at h
   have e1 := h.1.1.1.1.1
   split at e1
   · rename_i P' h11
     exact ⟨_, b, d, vs, hk, by rw [h11, beq_iff_eq.mp e1]⟩
   · cases e1
 · cases h
theorem lk_mem {α : Type} : ∀ {l : List (Addr × α)} {a : Addr} {o : α}, l.lookup a = some o -> (a, o) ∈ l
 | [], _, _, h => by cases h
 | (b, u) :: r, a, o, h => by
  rw [Q11] at h
  split at h
  · rename_i z
    cases h
    rw [eq_of_beq z]
    exact lMs
  · exact lMc _ (lk_mem h)
theorem mem_tbls {K : Frag} {P : Addr} {ps : Array Value} (t : TblK K P ps) : (P, ps) ∈ tblsOf K := by
 obtain ⟨f, oc, od, fd, sl, c, h1, h2, h3, h4⟩ := t
 obtain ⟨a, b, d, vs, k1, k2⟩ := codeHdIn_at h3
 refine List.mem_filterMap.mpr ⟨(f, ⟨oc, od, .func fd, sl⟩), lk_mem h1, ?_⟩
 unfold tabOf
 simp only [h4, zD, h2, k1, k2, h3, if_true]
theorem of_tbls {K : Frag} {q : Addr × Array Value} (m : q ∈ tblsOf K) : ∃ c, codeHdIn K c q.1 = true := by
 obtain ⟨⟨f, o⟩, _, e⟩ := List.mem_filterMap.mp m
 unfold tabOf at e
 split at e
 · obtain ⟨ps, _, e⟩ := bind_some e
   split at e
   · split at e
     · split at e
       · split at e
         · rename_i hc
           cases e
           exact ⟨_, hc⟩
         · cases e
       · cases e
     · cases e
   · cases e
 · cases e
structure Tabs (K : Frag) (h : Heap) : Prop where
 one : (tblsOf K).length <= 1
 out : (tblsOf K).all (λ q => (K.lookup q.1).isNone) = true
 at_ : ∀ q ∈ tblsOf K, h.get? q.1 = some (tabObj #[])
theorem list_one {α : Type} {l : List α} (h : l.length <= 1) {x y : α} (hx : x ∈ l) (hy : y ∈ l) : x = y := by
 match l, h with
 | [], _ => cases hx
 | [z], _ => rw [Q13.mp hx, Q13.mp hy]
noncomputable def tabH (K : Frag) : Hp := λ b => ((tblsOf K).find? λ q => q.1 == b).map λ q => .tbl q.2
theorem tabH_some {K : Frag} {b : Addr} {o : HO} (e : tabH K b = some o) : ∃ ps, (b, ps) ∈ tblsOf K /\ o = .tbl ps := by
 unfold tabH at e
 obtain ⟨q, e1, e2⟩ := Q0.mp e
 have m := zR e1
 have z : q.1 = b := by
  have y := List.find?_some e1
  exact beq_iff_eq.mp y
 exact ⟨q.2, by rw [<- z]; exact m, e2.symm⟩
theorem tabH_at {K : Frag} (h1 : (tblsOf K).length <= 1) {b : Addr} {ps : Array Value} (m : (b, ps) ∈ tblsOf K) : tabH K b = some (.tbl ps) := by
 unfold tabH
 cases z : (tblsOf K).find? λ q => q.1 == b with
 | none => exact absurd (beq_self_eq_true b) (by have := List.find?_eq_none.mp z _ m; simpa using this)
 | some q => rw [list_one h1 (zR z) m]; rfl
structure BMdB (base : Heap) (mg : Str -> Option Value) : Prop where
 ex : ∃ (bm : Addr) (o : Obj), mg "__builtins__" = some (.ref bm) /\ bm ≠ builtinsNs /\ bm ≠ mainGlobals /\ base.get? bm = some o /\ o.cls = .type "module" /\ o.dict = some builtinsNs /\ o.data = .plain
noncomputable def tabAt (K : Frag) (c : Addr) : Addr := match K.lookup c with
 | some ⟨_, _, .fields vs, _⟩ => match (vs[11]? : Option Value) with
  | some (.ref P) => P
  | _ => 0
 | _ => 0
noncomputable def lawH (K : Frag) (a : Addr) (o : Option HO) : Hp := λ b => if b = a then o else tabH K b
theorem law_callT {P : Program} {w : World} {K : Frag} {mg mb : Str -> Option Value} {CX : CXT} {k : Nat} {fa a : Addr} {fd : FuncData} {x : Str} {sp : Sp} {s₁ : Shared} {vs : List Value} {ns : List Int}
 (KX : K.In s₁.heap) (TB : Tabs K s₁.heap) (hns : s₁.heap.Ns mainGlobals mg) (hb : s₁.heap.Ns builtinsNs mb) (hbb : ∀ x : Str, x ≠ "__name__" -> mb x = bootBuiltins x) (hlim : s₁.heap.NoLimit) (hbm : ∃ bm ob, mg "__builtins__" = some (.ref bm) /\ bm ≠ builtinsNs /\ s₁.heap.get? bm = some ob /\ ob.cls = .type "module" /\ ob.dict = some builtinsNs /\ ob.data = .plain) (hg : s₁.gens = #[])
 (ha : s₁.heap.get? a = some { cls := .type "list", data := .seq vs.toArray }) (hi : IntsAre vs ns) (hl : ns.length <= sizeLine) (hr : Room k callerA)
 (F : ∀ base : Heap, K.In base -> base.Ns mainGlobals mg -> BMdB base mg -> FnOk P w K mg base CX k fa fd [x] sp) (hbind : ∀ (s : Shared) (u : Value), BindsTo s fd ⟨[u], []⟩ [(x, u)])
 (hsp : ∀ H : Hp, Tb K H -> SqL K H a (ns.map V.int) -> sp [.ref a] H (λ v _ => v = .bl true) λ _ _ _ => False)
 (hCX : ∀ H e s', CX [] H s₁ (λ _ _ _ => False) e s' -> False) :
 codeAny (model P w) callerA (.call (.ref fa) ⟨[.ref a], []⟩) (λ r s' => r = .ok (.ret (.bool true)) /\ OldK s₁.heap s'.heap /\ s'.os = s₁.os /\ AllBare s'.gens) s₁ := by
 have rv := vals_ints hi
 have lenV := hi.length
 have atT : ∀ {b ps}, (b, ps) ∈ tblsOf K -> s₁.heap.get? b = some (tabObj #[]) := λ {b ps} m => TB.at_ _ m
 have naT : ∀ {ps}, (a, ps) ∉ tblsOf K := λ {ps} m => by
  have e := atT m
  rw [ha] at e
  cases e
 have core : ∀ o : Option HO, (o = none \/ ∃ ob xs, o = some (.frz ob (.lst xs))) -> SqL K (lawH K a o) a (ns.map V.int) -> (∀ u, o = some u -> ObjOk P w (lawH K a o) s₁.heap a u) -> (o ≠ none -> K.lookup a = none) ->
  codeAny (model P w) callerA (.call (.ref fa) ⟨[.ref a], []⟩) (λ r s' => r = .ok (.ret (.bool true)) /\ OldK s₁.heap s'.heap /\ s'.os = s₁.os /\ AllBare s'.gens) s₁ := by
  intro o hO hS hok0 hK
  have cases3 : ∀ b u, lawH K a o b = some u -> (b = a /\ o = some u) \/ ∃ ps, (b, ps) ∈ tblsOf K /\ u = .tbl ps := λ b u e => by
   unfold lawH at e
   split at e
   · exact .inl ⟨by assumption, e⟩
   · exact .inr (tabH_some e)
  have hok : HOk P w (lawH K a o) s₁.heap := λ b u e => by
   rcases cases3 b u e with ⟨rfl, z⟩ | ⟨ps, m, rfl⟩
   · exact hok0 u z
   · exact Or.inl (atT m)
  have noA : ∀ {b : Addr} {ob : Obj} {es : Array DictEntry} {ep : Nat}, s₁.heap.get? b = some ob -> ob.data = .dict es ep -> lawH K a o b = none := λ {b ob es ep} e d => by
   cases q : lawH K a o b with
   | none => rfl
   | some u =>
    rcases cases3 b u q with ⟨rfl, z⟩ | ⟨ps, m, rfl⟩
    · rw [ha] at e; cases e; cases d
    · rw [atT m] at e; cases e; cases d
  have nsK : ∀ {b : Addr} {m : Str -> Option Value}, s₁.heap.Ns b m -> (hidT s₁.heap (lawH K a o)).Ns b m := λ {b m} ⟨ob, es, ep, e, d, r⟩ => ⟨ob, es, ep, hidT_get e (noA e d), d, r⟩
  have hKb : K.In (hidT s₁.heap (lawH K a o)) := λ b ob e => hidT_get (KX b ob e) (by
   cases q : lawH K a o b with
   | none => rfl
   | some u =>
    rcases cases3 b u q with ⟨rfl, z⟩ | ⟨ps, m, rfl⟩
    · rw [hK (by rw [z]; exact λ y => nomatch y)] at e; cases e
    · have z := Q12.mp TB.out _ m
      rw [e] at z
      cases z)
  have hB : BMdB (hidT s₁.heap (lawH K a o)) mg := by
   obtain ⟨bm, ob, m1, m2, m3, m4, m5, m6⟩ := hbm
   refine ⟨bm, ob, m1, m2, λ z => ?_, hidT_get m3 ?_, m4, m5, m6⟩
   · obtain ⟨og, es, ep, g1, g2, _⟩ := hns
     rw [<- z, m3] at g1
     cases g1
     rw [m6] at g2
     cases g2
   · cases q : lawH K a o bm with
     | none => rfl
     | some u =>
      rcases cases3 bm u q with ⟨rfl, z⟩ | ⟨ps, m, rfl⟩
      · rw [ha] at m3; cases m3; cases m6
      · rw [atT m] at m3; cases m3; cases m6
  have hM : Mod K mg (hidT s₁.heap (lawH K a o)) := ⟨hKb, nsK hns, ⟨mb, nsK hb, hbb⟩, let ⟨mc, h1, h2⟩ := hlim; ⟨mc, nsK h1, h2⟩⟩
  have e0 : Env0 P w K mg (hidT s₁.heap (lawH K a o)) callerA [] s₁ (lawH K a o) := ⟨rfl, hM, λ b o e => of_hidT e, Nat.le_of_eq (hidT_size _ _), trivial, (λ b hb => absurd (show b ∈ ([] : List Addr) from hb) (by simp)), hok, .of_eq hg⟩
  have tb : Tb K (lawH K a o) := λ b ps t => by
   have m := mem_tbls t
   unfold lawH
   rw [if_neg (λ z => naT (z ▸ m))]
   exact tabH_at TB.one m
  refine codeAny_mono ((F _ hKb (nsK hns) hB).run callerA [] s₁ (lawH K a o) ⟨[.ref a], []⟩ [.ref a] [.ref a] _ _ hr e0 (hbind s₁ (.ref a)) (.cons rfl .nil) (hsp _ tb hS)) λ r s' h => ?_
  cases r with
  | error e => exact (hCX _ e s' h).elim
  | ok fl =>
   cases fl with
   | next => exact False.elim h
   | brk => exact False.elim h
   | cont => exact False.elim h
   | ret u =>
    obtain ⟨v, H', os, bare, un, hok', r', q⟩ := h
    have q' : v = .bl true := q
    subst q'
    obtain rfl : u = Value.bool true := r'
    have key : ∀ b ob, s₁.heap.get? b = some ob -> s'.heap.get? b = some ob \/ (∃ arr, isCodeTable s₁.heap b /\ ob = tabObj #[] /\ s'.heap.get? b = some (tabObj arr)) := λ b ob e => by
     cases q : lawH K a o b with
     | none => exact .inl (un.keep b ob e q (by intro z; exact absurd (show b ∈ ([] : List Addr) from z) (by simp)) (by simp))
     | some u =>
      rcases cases3 b u q with ⟨rfl, z⟩ | ⟨ps, m, rfl⟩
      · rcases hO with y | ⟨oo, xs, y⟩
        · rw [y] at z; cases z
        · rw [y] at z
          cases z
          have z2 := un.frzs b oo _ q
          obtain ⟨e1, _⟩ := hok b _ q
          obtain ⟨e2, _⟩ := hok' b _ z2
          rw [e] at e1; cases e1
          exact .inl e2
      · obtain ⟨more, z2⟩ := un.tbls b _ q
        obtain ⟨c, hc⟩ := of_tbls m
        have ct := ((codeHd_of_K KX hc).tab (atT m)).isCodeTable
        have eo := atT m
        rw [e] at eo
        cases eo
        rcases (show ObjOk P w H' s'.heap b (.tbl _) from hok' b _ z2) with y | ⟨c', oo, uu, l, cc, q0, t0, t2, vs', _, y, _⟩
        · exact .inr ⟨#[], ct, rfl, y⟩
        · exact .inr ⟨_, ct, rfl, y⟩
    refine ⟨rfl, ⟨λ b ob e => ?_, λ b ob e => ?_⟩, os, bare⟩
    · rcases key b ob e with z | ⟨arr, z1, z2, z3⟩
      · exact .inl z
      · subst z2
        exact .inr (.inl ⟨z1, rfl, #[], arr, rfl, by rw [Array.empty_append]; exact z3⟩)
    · rcases key b ob e with z | ⟨arr, _, _, z3⟩
      · exact ⟨_, z⟩
      · exact ⟨_, z3⟩
 cases hk : K.lookup a with
 | some o =>
  have e := KX a o hk
  rw [ha] at e
  cases e
  exact core none (.inl rfl) (.inr ⟨_, vs.toArray, _, hk, rfl, rfl, rfl, by rw [zM, lenV]; exact hl, by simpa using rv⟩) (λ u z => nomatch z) λ z => absurd rfl z
 | none =>
  refine core (some (.frz { cls := .type "list", data := .seq vs.toArray } (.lst (ns.map V.int)))) (.inr ⟨_, _, rfl⟩) (.inl (.inr ⟨{ cls := .type "list", data := .seq vs.toArray }, if_pos rfl⟩)) (λ u z => ?_) λ _ => hk
  cases z
  exact ⟨ha, by rw [zJ]; exact hl, vs, _, rv, ha⟩
theorem walk_ofT {l : OpenLaw} {n k : Nat} {q : Program} {loose : List Str} {XP : (Str -> Option Value) -> Heap -> Prop} {YP : World -> Heap -> Prop} {d : DefRec} {K : Params -> Frag} {CX : World -> CXT} {sp : World -> Sp} {x : Str}
 (hn : l.most = some n) (hn2 : n <= sizeLine) (hdf : d.params.defaults = []) (hr : Room k callerA)
 (hY : ∀ (w : World) (h : Heap), YP w h -> (K w.params).In h /\ Tabs (K w.params) h)
 (F : ∀ (w : World) (mg : Str -> Option Value) (fa : Addr) (h : Heap), (K w.params).In h -> h.Ns mainGlobals mg -> mg d.name = some (.ref fa) ->
  ∃ fd : FuncData, (∀ (s : Shared) (u : Value), BindsTo s fd ⟨[u], []⟩ [(x, u)]) /\ ∀ base : Heap, (K w.params).In base -> base.Ns mainGlobals mg -> BMdB base mg -> FnOk l.prog w (K w.params) mg base (CX w) k fa fd [x] (sp w))
 (hsp : ∀ (w : World) (H : Hp) (a : Addr) (ns : List Int), ns.length <= n -> Tb (K w.params) H -> SqL (K w.params) H a (ns.map V.int) -> sp w [.ref a] H (λ v _ => v = .bl true) λ _ _ _ => False)
 (hCX : ∀ (w : World) (H : Hp) (s : Shared) (e : Value) (s' : Shared), CX w [] H s (λ _ _ _ => False) e s' -> False) :
 WalkO q loose XP YP l.row.toRowW d [] (λ f vs => PySem.call f vs) := by
 refine Att.attach_call hn hdf λ w s₀ s₁ mg mb fa o pm cd doc a vs ns G Y ho hd hcd hmg hobj hints hlen hg => ?_
 obtain ⟨KX, TB⟩ := hY w _ Y
 obtain ⟨fd, hb, hF⟩ := F w mg fa _ KX G.T.g hmg
 exact law_callT KX TB G.T.g G.T.b G.T.builtins G.T.nolimit G.T.bmain hg hobj hints (Qb hlen hn2) hr hF hb (λ H hO hS => hsp w H a ns hlen hO hS) λ H e s' => hCX w H s₁ e s'
theorem tabs_of {K : Frag} {h : Heap} {ts : List Addr} (hT : ∀ P ∈ ts, h.get? P = some (tabObj #[])) (e : (tblsOf K).map (·.1) = ts) (h1 : ts.length <= 1) (h2 : (tblsOf K).all (λ q => (K.lookup q.1).isNone) = true) : Tabs K h :=
 ⟨by rw [<- zJ (f := λ q : Addr × Array Value => q.1), e]; exact h1, h2, λ q m => hT _ (e ▸ zP m)⟩
noncomputable def lamScE : Expr -> Option Scope
 | .Call _ _ [⟨_, .Lambda _ _ sc _, _⟩] _ => some sc
 | _ => none
noncomputable def lamScS : Stmt -> Option Scope
 | .Return (some e) _ => lamScE e
 | .Assign _ e _ => lamScE e
 | _ => none
noncomputable def lamSc (st : Stmt) : Scope := ((defBody st).findSome? lamScS).getD (defScope st)
noncomputable def lamPos (st : Stmt) : Pos := ((defBody st).findSome? lamS).getD ⟨0, 0, 0, 0⟩
structure FunC (K : Frag) (x qual : Str) (st : Stmt) (f : Addr) (fd : FuncData) (c : Addr) : Prop where
 ex : ∃ (oc : Value) (od : Option Addr) (kV doc pm : Value) (an : Option Addr) (ct : Value) (osl : Array (Option Value)), fd = fnOf x qual (defArgs st) (defBody st) (defScope st) .none kV doc pm an (.ref c) ct /\ K.lookup f = some ⟨oc, od, .func fd, osl⟩ /\ codeIn K (.ref c) qual = true
section
variable {P : Program} {w : World} {K : Frag} {mg : Str -> Option Value} {base : Heap}
theorem funC_mk {x qual : Str} {st : Stmt} {f c : Addr} {oc : Value} {od an : Option Addr} {osl : Array (Option Value)} {kV doc pm ct : Value} (l : K.lookup f = some ⟨oc, od, .func (fnOf x qual (defArgs st) (defBody st) (defScope st) .none kV doc pm an (.ref c) ct), osl⟩)
 (h : codeIn K (.ref c) qual = true) : FunC K x qual st f (fnOf x qual (defArgs st) (defBody st) (defScope st) .none kV doc pm an (.ref c) ct) c := ⟨oc, od, kV, doc, pm, an, ct, osl, rfl, l, h⟩
theorem fun_okC {x qual : Str} {st : Stmt} {f c : Addr} {fd : FuncData} {N ps : List Str} {k n m : Nat} {fb : DSt -> Option DFlow} (F : FunC K x qual st f fd c) (S : FnScope N ps (defScope st)) (hN : N.length = n) (hm : ps.length = m)
 (hbody : ∀ (A : Around) (outer : List Env) (s : Shared) (H : Hp) (E : XK), Room k (A.deeper (envOfC qual (defScope st) s.heap.objs.size f (.ref c))) ->
  ∃ t, PSs (cxOf CX0 P w K mg base N qual (defScope st) f (.ref c) A outer s H E).nox (defBody st) t /\ SS K t fb) : FnOk P w K mg base CX0 (k + 1) f fd ps (spD K m (runD n fb)) := by
 subst hN hm
 obtain ⟨oc, od, kV, doc, pm, an, ct, osl, rfl, lk, hcd⟩ := F.ex
 refine fn_of lk hcd S (λ vs H Q E h => ?_) λ A outer s H vs Q E hr h => ?_
 · obtain ⟨F', ds, d, _, hl, _⟩ := h
   exact hl
 · obtain ⟨F', ds, d, sF, hl, ar, e, q⟩ := h
   obtain ⟨t, ht, hs⟩ := hbody A outer s H E hr
   obtain ⟨r, e1, e2⟩ := bind_some e
   refine ⟨t, ht.nox, hs H F' F' (L2.start N vs) H (stD N.length ds) r _ (repStart sF ar) e1 ?_⟩
   cases r with
   | nx δ => cases e2; exact λ F2 σ2 H2 R2 _ => q .non H2 F2 R2.g rfl
   | rt d' => cases e2; exact λ F2 v H2 g2 i2 => q v H2 F2 g2 i2
   | ro es =>
    cases e2
    exact λ F2 a xs H2 g2 h0 hf ha ar2 => q (.ref a) H2 _ (g2.frz h0 hf ha) ⟨a, xs, rfl, upd_same, ar2.same (same_new hf _)⟩
   | bk _ => cases e2
   | ct _ => cases e2
theorem tblK_mk {x qual : Str} {st : Stmt} {f c T : Addr} {fd : FuncData} {ps : Array Value} (F : FunC K x qual st f fd c) (hC : codeHdIn K c T = true) (hp : ∀ kV doc pm an ct, lamOf (fnOf x qual (defArgs st) (defBody st) (defScope st) .none kV doc pm an (.ref c) ct) = some ps) : TblK K T ps := by
 obtain ⟨oc, od, kV, doc, pm, an, ct, osl, rfl, lk, hcd⟩ := F.ex
 exact ⟨f, oc, od, _, osl, c, lk, rfl, hC, hp _ _ _ _ _⟩
end
end DL
namespace DL
open PySem L2
noncomputable abbrev Cl := List (List Int × List PyData)
noncomputable abbrev Es := List (List Int × Addr × List V)
noncomputable def pushL : Cl -> List Int -> PyData -> Cl
 | [], k, d => [(k, [d])]
 | p :: r, k, d => if p.1 = k then (p.1, p.2 ++ [d]) :: r else p :: pushL r k d
noncomputable def encL (c : Cl) : List (PyData × PyData) := c.map λ p => (tupI p.1, .list p.2)
noncomputable def mOf (es : Es) : List (List Key × V) := es.map λ e => (e.1.map Sum.inl, V.ref e.2.1)
noncomputable def ads (es : Es) : List Addr := es.map λ e => e.2.1
noncomputable def fzOnly (δ : DSt) : Bool := δ.all λ s => match s with
 | some (.ow _) => false
 | some (.od _) => false
 | _ => true
theorem fzOnly_get {δ : DSt} (h : fzOnly δ = true) {j : Nat} {s : Sl} (e : δ[j]? = some (some s)) : ∃ d, s = .fz d := by
 have := Q12.mp h _ (Q1e e)
 cases s with
 | fz d => exact ⟨d, rfl⟩
 | ow _ => cases this
 | od _ => cases this
theorem fzOnly_set {δ : DSt} (h : fzOnly δ = true) (j : Nat) (d : PyData) : fzOnly (δ.set j (some (.fz d))) = true := by
 unfold fzOnly
 rw [Q12]
 intro s hs
 rcases List.mem_or_eq_of_mem_set hs with z | z
 · exact Q12.mp h s z
 · rw [z]
section
variable {K : Fg} {H0 F0 F F' : Hp} {σ : St} {H H' : Hp} {δ : DSt}
noncomputable def Ent (K : Fg) (H0 F H : Hp) : Es -> Cl -> Prop
 | [], [] => True
 | e :: es, p :: ps => (e.1 = p.1 /\ H e.2.1 = some (.lst e.2.2) /\ F e.2.1 = none /\ H0 e.2.1 = none /\ Are K F e.2.2 p.2) /\ Ent K H0 F H es ps
 | _, _ => False
theorem Ent.len {es : Es} {ps : Cl} (h : Ent K H0 F H es ps) : es.length = ps.length := by
 induction es generalizing ps with
 | nil =>
  cases ps with
  | nil => rfl
  | cons _ _ => exact h.elim
 | cons e es ih =>
  cases ps with
  | nil => exact h.elim
  | cons p ps =>
   rw [zC, zC, ih h.2]
theorem Ent.grow (g : Grow F H F' H') {es : Es} {ps : Cl} (h : Ent K H0 F H es ps) : Ent K H0 F' H' es ps := by
 induction es generalizing ps with
 | nil =>
  cases ps with
  | nil => exact True.intro
  | cons _ _ => exact h.elim
 | cons e es ih =>
  cases ps with
  | nil => exact h.elim
  | cons p ps =>
   obtain ⟨⟨h1, h2, h3, h4, h5⟩, r⟩ := h
   exact ⟨⟨h1, g.h _ _ h2, g.o _ _ h2 (λ _ z => nomatch z) h3, h4, h5.same g.f⟩, ih r⟩
theorem Ent.updH {c : Addr} {o : HO} {es : Es} {ps : Cl} (h : Ent K H0 F H es ps) (n : c ∉ ads es) : Ent K H0 F (upd H c o) es ps := by
 induction es generalizing ps with
 | nil =>
  cases ps with
  | nil => exact True.intro
  | cons _ _ => exact h.elim
 | cons e es ih =>
  cases ps with
  | nil => exact h.elim
  | cons p ps =>
   obtain ⟨⟨h1, h2, h3, h4, h5⟩, r⟩ := h
   exact ⟨⟨h1, by rw [upd_ne (λ z => n (by rw [<- z]; exact lMs))]; exact h2, h3, h4, h5⟩, ih r λ z => n (lMc _ z)⟩
theorem Ent.snoc {k : List Int} {b : Addr} (hb : H b = some (.lst [])) (fb : F b = none) (h0 : H0 b = none) {es : Es} {ps : Cl} (h : Ent K H0 F H es ps) : Ent K H0 F H (es ++ [(k, b, [])]) (ps ++ [(k, [])]) := by
 induction es generalizing ps with
 | nil =>
  cases ps with
  | nil => exact ⟨⟨rfl, hb, fb, h0, rfl⟩, True.intro⟩
  | cons _ _ => exact h.elim
 | cons e es ih =>
  cases ps with
  | nil => exact h.elim
  | cons p ps =>
   exact ⟨h.1, ih h.2⟩
theorem Ent.at_ {es : Es} {ps : Cl} (h : Ent K H0 F H es ps) : ∀ e ∈ es, H e.2.1 = some (.lst e.2.2) /\ F e.2.1 = none /\ H0 e.2.1 = none /\ ∃ p ∈ ps, Are K F e.2.2 p.2 := by
 induction es generalizing ps with
 | nil =>
  cases ps with
  | nil => exact λ e he => nomatch he
  | cons _ _ => exact h.elim
 | cons e es ih =>
  cases ps with
  | nil => exact h.elim
  | cons p ps =>
   obtain ⟨⟨h1, h2, h3, h4, h5⟩, r⟩ := h
   intro x hx
   rcases Q2.mp hx with rfl | hx
   · exact ⟨h2, h3, h4, p, lMs, h5⟩
   · obtain ⟨a, b, c, q, hq, d⟩ := ih r x hx
     exact ⟨a, b, c, q, lMc _ hq, d⟩
theorem inl_inj : ∀ {a b : List Int}, a.map (Sum.inl : Int -> Key) = b.map Sum.inl -> a = b
 | [], [], _ => rfl
 | [], _ :: _, h => by cases h
 | _ :: _, [], h => by cases h
 | x :: a, y :: b, h => by
  rw [zI, zI] at h
  injection h with h1 h2
  injection h1 with h1
  rw [h1, inl_inj h2]
theorem valV_mOf (k : List Int) : ∀ es : Es, valV (mOf es) (k.map Sum.inl) = (es.find? λ e => decide (e.1 = k)).map λ e => V.ref e.2.1
 | [] => rfl
 | e :: es => by
  show valV ((e.1.map Sum.inl, V.ref e.2.1) :: mOf es) (k.map Sum.inl) = _
  by_cases h : e.1 = k
  · rw [valV_pos (by rw [h]), Q15 (by simpa using h)]
    rfl
  · rw [valV_neg (λ z => h (inl_inj z)), Q16 (by simpa using h)]
    exact valV_mOf k es
theorem putK_mOf {k : List Int} {b : Addr} {es : Es} (h : es.find? (λ e => decide (e.1 = k)) = none) : putK (mOf es) (k.map Sum.inl) (.ref b) = mOf (es ++ [(k, b, [])]) := by
 have any : ((mOf es).any λ kv => decide (kv.1 = k.map (Sum.inl : Int -> Key))) = false := by
  rw [List.any_eq_false]
  intro q hq
  obtain ⟨e, he, rfl⟩ := Qc.mp hq
  have := List.find?_eq_none.mp h e he
  intro z
  exact this (decide_eq_true (inl_inj (of_decide_eq_true z)))
 unfold putK
 rw [any, if_neg Q8]
 simp [mOf]
theorem Ent.find {es : Es} {ps : Cl} {k : List Int} (h : Ent K H0 F H es ps) : (es.find? λ e => decide (e.1 = k)).isSome = (ps.find? λ p => decide (p.1 = k)).isSome := by
 induction es generalizing ps with
 | nil =>
  cases ps with
  | nil => rfl
  | cons _ _ => exact h.elim
 | cons e es ih =>
  cases ps with
  | nil => exact h.elim
  | cons p ps =>
   obtain ⟨⟨h1, _⟩, r⟩ := h
   by_cases h : p.1 = k
   · rw [Q15 (by simpa using h1.trans h), Q15 (by simpa using h)]
     rfl
   · rw [Q16 (by rw [h1]; simpa using h), Q16 (by simpa using h)]
     exact ih r
theorem Ent.app {k : List Int} {x : V} {d : PyData} (ix : Is K F x d) : ∀ {es : Es} {ps : Cl} {e : List Int × Addr × List V}, Ent K H0 F H es ps -> (ads es).Nodup -> es.find? (λ e => decide (e.1 = k)) = some e ->
 ∃ es', mOf es' = mOf es /\ ads es' = ads es /\ Ent K H0 F (upd H e.2.1 (.lst (e.2.2 ++ [x]))) es' (pushL ps k d)
 | [], [], _, _, _, h => by cases h
 | a :: es, p :: ps, e, ⟨⟨h1, h2, h3, h4, h5⟩, r⟩, nd, hf => by
  obtain ⟨n1, n2⟩ := Q14.mp (show (a.2.1 :: ads es).Nodup from nd)
  by_cases h : a.1 = k
  · rw [Q15 (by simpa using h)] at hf
    cases hf
    refine ⟨(a.1, a.2.1, a.2.2 ++ [x]) :: es, rfl, rfl, ?_⟩
    unfold pushL
    rw [if_pos (h1.symm.trans h)]
    exact ⟨⟨h1, upd_same, h3, h4, h5.append (Are.one ix)⟩, r.updH n1⟩
  · rw [Q16 (by simpa using h)] at hf
    obtain ⟨es', q1, q2, q3⟩ := Ent.app ix r n2 hf
    have ne : a.2.1 ≠ e.2.1 := λ z => n1 (by rw [z]; exact zP (zR hf))
    refine ⟨a :: es', by show _ :: mOf es' = _ :: mOf es; rw [q1], by show _ :: ads es' = _ :: ads es; rw [q2], ?_⟩
    unfold pushL
    rw [if_neg (λ z => h (h1.trans z))]
    exact ⟨⟨h1, by rw [upd_ne ne]; exact h2, h3, h4, h5⟩, q3⟩
 | [], _ :: _, _, h, _, _ => h.elim
 | _ :: _, [], _, h, _, _ => h.elim
theorem pushL_new {k : List Int} {d : PyData} : ∀ {ps : Cl}, ps.find? (λ p => decide (p.1 = k)) = none -> pushL (ps ++ [(k, [])]) k d = pushL ps k d
 | [], _ => by
  show (if k = k then (k, ([] : List PyData) ++ [d]) :: [] else _) = _
  rw [if_pos rfl]
  rfl
 | p :: ps, h => by
  have h1 : ¬ p.1 = k := λ z => by rw [Q15 (by simpa using z)] at h; cases h
  rw [Q16 (by simpa using h1)] at h
  show pushL (p :: (ps ++ [(k, [])])) k d = _
  rw [pushL, pushL, if_neg h1, if_neg h1, pushL_new h]
theorem Ent.kvs {es : Es} {ps : Cl} (h : Ent K H0 F H es ps) (s : Same F F') (q : ∀ e ∈ es, F' e.2.1 = H e.2.1) : Kvs K F' (mOf es) (encL ps) := by
 induction es generalizing ps with
 | nil =>
  cases ps with
  | nil => rfl
  | cons _ _ => exact h.elim
 | cons e es ih =>
  cases ps with
  | nil => exact h.elim
  | cons p ps =>
   obtain ⟨⟨h1, h2, h3, h4, h5⟩, r⟩ := h
   refine ⟨(e.1.map Sum.inl, V.ref e.2.1), mOf es, rfl, ⟨?_, ?_⟩, ih r λ x hx => q x (lMc _ hx)⟩
   · rw [h1]
     show tupI p.1 = .tuple ((p.1.map Sum.inl).map kD)
     unfold tupI
     rw [zO]
     rfl
   · exact ⟨e.2.1, e.2.2, rfl, (q e lMs).trans h2, h5.same s⟩
theorem Rep.hide (R : Rep K H0 F0 F σ H δ) (i : Nat) : Rep K H0 F0 F σ H (δ.set i none) := by
 have old : ∀ {j : Nat} {s : Sl}, (δ.set i none)[j]? = some (some s) -> δ[j]? = some (some s) := λ {j s} e => by
  rcases get_set e with ⟨_, z⟩ | ⟨_, z⟩
  · cases z
  · exact z
 exact ⟨R.g, by rw [Qe]; exact R.len, λ j d e => R.fz j d (old e), λ j ds e => R.ow j ds (old e), λ j l ds es a e1 e2 => R.ap j l ds es a (old e1) (old e2), λ j ds e => R.od j ds (old e), λ j l ds es a e1 e2 => R.ad j l ds es a (old e1) (old e2), R.tb⟩
theorem Rep.upd_ {c : Addr} {o : HO} (R : Rep K H0 F0 F σ H δ) (z : fzOnly δ = true) (fc : F c = none) (hc : H0 c = none) : Rep K H0 F0 F σ (upd H c o) δ := by
 refine ⟨⟨R.g.f, λ b u e => by rw [upd_ne (ne_of_none e fc)]; exact R.g.s b u e, λ b u e => by rw [upd_ne (ne_of_none e hc)]; exact R.g.h b u e, R.g.o⟩, R.len, R.fz, λ j ds e => ?_, R.ap, λ j ds e => ?_, R.ad, R.tb⟩
 · obtain ⟨d, y⟩ := fzOnly_get z e
   cases y
 · obtain ⟨d, y⟩ := fzOnly_get z e
   cases y
theorem Rep.frzE {es : Es} {ps : Cl} (R : Rep K H0 F0 F σ H δ) (z : fzOnly δ = true) (E : Ent K H0 F H es ps) : ∃ F', Same F F' /\ Rep K H0 F0 F' σ H δ /\ Kvs K F' (mOf es) (encL ps) /\ ∀ b, b ∉ ads es -> F' b = F b := by
 have inA : ∀ {b}, b ∈ ads es -> ∃ e ∈ es, e.2.1 = b := λ hb => Qc.mp hb
 have s1 : Same F (λ b => if b ∈ ads es then H b else F b) := λ b u e => by
  show (if b ∈ ads es then H b else F b) = some u
  split
  · exact R.g.s b u e
  · exact e
 refine ⟨λ b => if b ∈ ads es then H b else F b, s1, ⟨⟨R.g.f.trans s1, λ b u e => ?_, R.g.h, λ b u e t n => ?_⟩, R.len, λ j d e => let ⟨v, h1, h2⟩ := R.fz j d e; ⟨v, h1, h2.same s1⟩, λ j ds e => ?_, R.ap, λ j ds e => ?_, R.ad, R.tb.same s1⟩, E.kvs s1 λ e he => if_pos (zP he), λ b hb => if_neg hb⟩
 · have e : (if b ∈ ads es then H b else F b) = some u := e
   split at e
   · exact e
   · exact R.g.s b u e
 · show (if b ∈ ads es then H b else F b) = none
   split
   · rename_i hm
     obtain ⟨e', he, rfl⟩ := inA hm
     rw [(E.at_ e' he).2.2.1] at e
     cases e
   · exact R.g.o b u e t n
 · obtain ⟨d, y⟩ := fzOnly_get z e
   cases y
 · obtain ⟨d, y⟩ := fzOnly_get z e
   cases y
theorem Rep.putD {i : Nat} {a : Addr} {o : HO} {kvs : List (PyData × PyData)} (R : Rep K H0 F0 F σ H δ) (z : fzOnly δ = true) (hs : σ[i]? = some (some (.ref a))) (ha : H a = some o) (fa : F a = none) (h0 : H0 a = none) (hd : DcO K F o kvs) : Rep K H0 F0 F σ H (δ.set i (some (.od kvs))) := by
 have no : ∀ {j : Nat} {s : Sl}, (δ.set i (some (.od kvs)))[j]? = some (some s) -> (j = i /\ s = .od kvs) \/ δ[j]? = some (some s) := λ {j s} e => by
  rcases get_set e with ⟨y, w⟩ | ⟨_, w⟩
  · exact .inl ⟨y, zV w⟩
  · exact .inr w
 refine ⟨R.g, by rw [Qe]; exact R.len, λ j d e => ?_, λ j ds e => ?_, λ j l ds es c e1 e2 => ?_, λ j ds e => ?_, λ j l ds es c e1 e2 => ?_, R.tb⟩
 · rcases no e with ⟨_, y⟩ | y
   · cases y
   · exact R.fz j d y
 · rcases no e with ⟨_, y⟩ | y
   · cases y
   · obtain ⟨_, w⟩ := fzOnly_get z y; cases w
 · rcases no e1 with ⟨_, y⟩ | y
   · cases y
   · obtain ⟨_, w⟩ := fzOnly_get z y; cases w
 · rcases no e with ⟨rfl, y⟩ | y
   · cases y
     exact ⟨a, o, hs, ha, fa, h0, hd⟩
   · obtain ⟨_, w⟩ := fzOnly_get z y; cases w
 · rcases no e1 with ⟨rfl, _⟩ | y
   · rcases no e2 with ⟨rfl, _⟩ | y
     · exact λ _ _ => rfl
     · obtain ⟨_, w⟩ := fzOnly_get z y; cases w
   · obtain ⟨_, w⟩ := fzOnly_get z y; cases w
noncomputable def loopP (fy : DSt -> Option PyData) (jc jo i : Nat) : List PyData -> DSt -> Cl -> Option DFlow
 | [], δ, kls => some (.nx (δ.set i (some (.od (encL kls)))))
 | d :: r, δ, kls => (fy (δ.set jc (some (.fz d)))).bind λ o => (keyD o).bind λ k => if (decide (kls.length < LIM) && kls.all λ p => decide (p.2.length < LIM)) = true then loopP fy jc jo i r ((δ.set jc (some (.fz d))).set jo (some (.fz o))) (pushL kls k d) else none
noncomputable def dParts (fi : DSt -> Option (List PyData)) (jc jo i : Nat) (fy : DSt -> Option PyData) (δ : DSt) : Option DFlow := match δ[i]? with
 | some (some (.od [])) => if (fzOnly (δ.set i none) && decide (jc < δ.length) && decide (jo < δ.length)) = true then (fi δ).bind λ ds => loopP fy jc jo i ds (δ.set i none) [] else none
 | _ => none
structure PI (K : Fg) (H0 F0 F : Hp) (σ : St) (H : Hp) (δ : DSt) (i N : Nat) (kls : Cl) : Prop where
 R : Rep K H0 F0 F σ H δ
 z : fzOnly δ = true
 ln : δ.length = N
 ex : ∃ a es, σ[i]? = some (some (.ref a)) /\ H a = some (.dT (mOf es)) /\ F a = none /\ H0 a = none /\ Ent K H0 F H es kls /\ (a :: ads es).Nodup
theorem PI.grow {i N : Nat} {kls : Cl} (P : PI K H0 F0 F σ H δ i N kls) (g : Grow F H F' H') : PI K H0 F0 F' σ H' δ i N kls := by
 obtain ⟨a, es, h1, h2, h3, h4, h5, h6⟩ := P.ex
 exact ⟨P.R.grow g, P.z, P.ln, a, es, h1, g.h _ _ h2, g.o _ _ h2 (λ _ z => nomatch z) h3, h4, h5.grow g, h6⟩
theorem PI.set {i j N : Nat} {kls : Cl} {v : V} {d : PyData} (P : PI K H0 F0 F σ H δ i N kls) (n : j ≠ i) (h : Is K F v d) : PI K H0 F0 F (σ.set j (some v)) H (δ.set j (some (.fz d))) i N kls := by
 obtain ⟨a, es, h1, r⟩ := P.ex
 exact ⟨P.R.set h, fzOnly_set P.z j d, by rw [Qe]; exact P.ln, a, es, by rw [List.getElem?_set_ne n]; exact h1, r⟩
end
section
variable {K : Fg}
theorem ss_parts {wi : TI} {ty : TE} {fi : DSt -> Option (List PyData)} {fy : DSt -> Option PyData} (jc jo i : Nat) (hi : SI K wi fi) (hy : SE K ty fy) (n1 : jc ≠ i := by decide) (n2 : jo ≠ i := by decide) (n3 : jo ≠ jc := by decide) :
 SS K (tFor wi (gName jc) (tSeq (tAsg ty (gName jo)) (tSeq (tIfS (tTest (tDNotIn (tVar jo) (tVar i))) (sDPut (tVar i) (tVar jo) (tLst tNil)) tNext) (tDrop (tBM K "list" rAppend (tDGet (tVar i) (tVar jo)) (tCons (tVar jc) tNil)))))) (dParts fi jc jo i fy) := by
 intro H0 F0 F σ H δ r D R e h
 unfold dParts at e
 split at e
 rotate_left
 · cases e
 rename_i q
 split at e
 rotate_left
 · cases e
 rename_i z3
 rw [Q4, Q4] at z3
 obtain ⟨⟨z, lc⟩, lo⟩ := z3
 have lc := of_decide_eq_true lc
 have lo := of_decide_eq_true lo
 obtain ⟨ds, e1, e2⟩ := bind_some e
 refine hi H0 F0 F σ H δ ds _ R e1 λ J H1 F1 g1 it => ?_
 have P0 : PI K H0 F0 F1 σ H1 (δ.set i none) i δ.length [] := by
  obtain ⟨a, o, q1, q2, q3, q4, q5⟩ := R.od i _ q
  have hm : o = .dT [] := by
   rcases q5 with ⟨m, rfl, k⟩ | ⟨m, rfl, k⟩
   · rw [show m = [] from k]
   · exact k.elim
  subst hm
  exact ⟨(R.grow g1).hide i, z, Qe .., a, [], q1, g1.h _ _ q2, g1.o _ _ q2 (λ _ y => nomatch y) q3, q4, ⟨⟩, Q14.mpr ⟨(λ y => nomatch y), List.nodup_nil⟩⟩
 refine ⟨λ j m σ H => m = ds.length - j /\ j <= ds.length /\ ∃ F' δ' kls, PI K H0 F0 F' σ H δ' i δ.length kls /\ Same F1 F' /\ loopP fy jc jo i (ds.drop j) δ' kls = some r, ⟨ds.length, by simp, zU _, F1, _, [], P0, Same.refl _, e2⟩, ?_⟩
 rintro j m σ' H' ⟨rfl, hle, F', δ', kls, P, s', e'⟩
 by_cases hlt : j < ds.length
 · refine .inr ⟨it.go j F' H' hlt s' P.R.g.s, λ σ H => j + 1 <= ds.length /\ ∃ F' δ' kls, PI K H0 F0 F' σ H δ' i δ.length kls /\ Same F1 F' /\ loopP fy jc jo i (ds.drop (j + 1)) δ' kls = some r, λ σ2 H2 q => ⟨ds.length - (j + 1), by omega, rfl, q⟩, λ x H2 y => ?_⟩
   have hd : ds[j]? = some ds[j] := gEq hlt
   obtain ⟨F2, g2, is⟩ := it.yld j _ F' H' x H2 hd s' P.R.g.s y
   rw [List.drop_eq_getElem_cons hlt] at e'
   obtain ⟨o, w1, e4⟩ := bind_some e'
   obtain ⟨k, w2, e5⟩ := bind_some e4
   clear e' e4
   split at e5
   rotate_left
   · cases e5
   rename_i lims
   have e' := e5
   clear e5
   rw [Q4] at lims
   have P2 := (P.grow g2).set n1 is
   refine hy H0 F0 F2 _ H2 _ o _ P2.R w1 λ v H3 F3 g3 i3 => ?_
   have P3 := (P2.grow g3).set n2 i3
   have sF3 : Same F1 F3 := s'.trans (g2.f.trans g3.f)
   have ix : Is K F3 x ds[j] := is.same g3.f
   have sl : σ'.length = δ.length := P.R.len.trans P.ln
   generalize hσ4 : (σ'.set jc (some x)).set jo (some v) = σ4 at P3
   have hjc : σ4[jc]? = some (some x) := by rw [<- hσ4, List.getElem?_set_ne n3, List.getElem?_set_self (by omega)]
   have hjo : σ4[jo]? = some (some v) := by rw [<- hσ4, List.getElem?_set_self (by rw [Qe]; omega)]
   generalize hδ4 : (δ'.set jc (some (.fz ds[j]))).set jo (some (.fz o)) = δ4 at P3 e'
   show tIfS (tTest (tDNotIn (tVar jo) (tVar i))) (sDPut (tVar i) (tVar jo) (tLst tNil)) tNext { D with nx := tDrop (tBM K "list" rAppend (tDGet (tVar i) (tVar jo)) (tCons (tVar jc) tNil)) { D with nx := _, ct := _, bk := D.nx }, ct := _, bk := D.nx } ((σ'.set jc (some x)).set jo (some v)) H3
   rw [hσ4]
   unfold keyD at w2
   split at w2
   rotate_left
   · cases w2
   rename_i dk
   obtain ⟨c, xs, rfl, u1, u2⟩ := i3
   rw [intsD_some w2] at u2
   have u3 := Are.ints.mp u2
   subst u3
   have hc : H3 c = some (.tup ((k.map (Sum.inl : Int -> Key)).map kV)) := by rw [key_ints]; exact P3.R.g.s _ _ u1
   obtain ⟨a, es, h1, h2, h3, h4, h5, h6⟩ := P3.ex
   obtain ⟨h7, h8⟩ := Q14.mp h6
   have fin : ∀ (H4 : Hp) (es4 : Es) (kls4 : Cl) (e4 : List Int × Addr × List V), Rep K H0 F0 F3 σ4 H4 δ4 -> H4 a = some (.dT (mOf es4)) -> Ent K H0 F3 H4 es4 kls4 -> (a :: ads es4).Nodup -> es4.find? (λ e => decide (e.1 = k)) = some e4 -> H4 c = some (.tup ((k.map (Sum.inl : Int -> Key)).map kV)) ->
    e4.2.2.length < sizeLine -> pushL kls4 k ds[j] = pushL kls k ds[j] -> tDrop (tBM K "list" rAppend (tDGet (tVar i) (tVar jo)) (tCons (tVar jc) tNil)) { D with nx := λ σ H => j + 1 <= ds.length /\ ∃ F' δ' kls, PI K H0 F0 F' σ H δ' i δ.length kls /\ Same F1 F' /\ loopP fy jc jo i (ds.drop (j + 1)) δ' kls = some r, ct := λ σ H => j + 1 <= ds.length /\ ∃ F' δ' kls, PI K H0 F0 F' σ H δ' i δ.length kls /\ Same F1 F' /\ loopP fy jc jo i (ds.drop (j + 1)) δ' kls = some r, bk := D.nx } σ4 H4 := by
    intro H4 es4 kls4 e4 R4 hm4 E4 nd4 hf4 hc4 hz4 hp4
    obtain ⟨b1, b2, b3, _⟩ := E4.at_ e4 (zR hf4)
    obtain ⟨n41, n42⟩ := Q14.mp nd4
    have na : a ≠ e4.2.1 := λ z => n41 (by rw [z]; exact zP (zR hf4))
    have dg : DGet H4 a (.ref c) (some (.ref e4.2.1)) := by
     have := DGet.t (k := k.map Sum.inl) hm4 hc4
     rw [valV_mOf, hf4] at this
     exact this
    obtain ⟨es5, m5, a5, E5⟩ := Ent.app ix E4 n42 hf4
    refine ⟨.ref a, h1, .ref c, hjo, a, .ref e4.2.1, rfl, dg, .inl ⟨rfl, e4.2.2, SqL.of b1⟩, x, hjc, e4.2.1, e4.2.2, x, rfl, rfl, b1, hz4, hlt, F3, δ4, pushL kls k ds[j], ⟨R4.upd_ P3.z b2 b3, P3.z, P3.ln, a, es5, h1, by rw [upd_ne na, m5]; exact hm4, h3, h4, hp4 ▸ E5, by rw [a5]; exact nd4⟩, sF3, e'⟩
   refine ⟨.ref c, hjo, .ref a, h1, a, valV (mOf es) (k.map Sum.inl), rfl, DGet.t h2 hc, _, rfl, ?_⟩
   rw [valV_mOf]
   cases hf : es.find? λ e => decide (e.1 = k) with
   | some e4 =>
    obtain ⟨_, _, _, p4, hp4, ar4⟩ := h5.at_ e4 (zR hf)
    exact fin H3 es kls e4 P3.R h2 h5 h6 hf hc (by rw [ar4.length]; exact lim_lt (nLe (of_decide_eq_true (Q12.mp lims.2 p4 hp4)))) rfl
   | none =>
    refine ⟨zU _, λ p hp => ⟨.ref a, h1, .ref c, hjo, a, _, rfl, DPut.t (k := k.map Sum.inl) (by rw [upd_ne (ne_of_none h2 hp)]; exact h2) (by rw [upd_ne (ne_of_none hc hp)]; exact hc) ?_, ?_⟩⟩
    · unfold mOf
      rw [zJ, h5.len]
      exact lim_lt (nLe (of_decide_eq_true lims.1))
    · have Fp : F3 p = none := P3.R.g.s.free hp
      have H0p : H0 p = none := P3.R.g.h.free hp
      have np : p ∉ ads es := λ hm => by
       obtain ⟨e, he, z⟩ := Qc.mp hm
       have := (h5.at_ e he).1
       rw [show e.2.1 = p from z, hp] at this
       cases this
      have nap : a ≠ p := ne_of_none h2 hp
      have nac : c ≠ a := λ z => by rw [z, h2] at hc; cases hc
      rw [putK_mOf hf]
      have adE : ads (es ++ [(k, p, [])]) = ads es ++ [p] := by simp [ads]
      refine fin _ (es ++ [(k, p, [])]) (kls ++ [(k, [])]) (k, p, []) ((P3.R.upd_ P3.z Fp H0p).upd_ P3.z h3 h4) upd_same (((h5.updH np).snoc upd_same Fp H0p).updH ?_) ?_ ?_ ?_ (nLl (Nat.succ_pos 0) (by decide)) (pushL_new ?_)
      · rw [adE]
        intro hm
        rcases Q25.mp hm with hm | hm
        · exact h7 hm
        · exact nap (Q13.mp hm)
      · rw [adE]
        refine Q14.mpr ⟨λ hm => ?_, List.nodup_append.mpr ⟨h8, List.pairwise_singleton _ _, λ y hy w hw z => ?_⟩⟩
        · rcases Q25.mp hm with hm | hm
          · exact h7 hm
          · exact nap (Q13.mp hm)
        · rw [Q13.mp hw] at z
          exact np (z ▸ hy)
      · rw [List.find?_append, hf]
        simp
      · rw [upd_ne nac, upd_ne (ne_of_none hc hp)]
        exact hc
      · have := h5.find (k := k)
        rw [hf] at this
        cases hz : kls.find? λ p => decide (p.1 = k) with
        | none => rfl
        | some _ => rw [hz] at this; cases this
 · have e3 : j = ds.length := by omega
   subst e3
   rw [List.drop_length] at e'
   cases e'
   obtain ⟨a, es, h1, h2, h3, h4, h5, h6⟩ := P.ex
   obtain ⟨F3, s3, R3, k3, o3⟩ := P.R.frzE P.z h5
   exact .inl ⟨it.stop F' H' s' P.R.g.s, h F3 σ' H' (R3.putD P.z h1 h2 (by rw [o3 a (Q14.mp h6).1]; exact h3) h4 (.inl ⟨_, rfl, k3⟩)) (g1.f.trans (s'.trans s3))⟩
end
end DL
namespace L2
open PySem PySem.Spec PyProof.Rows PySem.W
theorem Inv.rawE {X : Cx} {pins : List (Addr × Obj)} {σ : St} {H : Hp} {s : Shared} {a : Addr} {kvs : List (List Key × V)} (I : Inv X pins σ H s) (ha : H a = some (.dT kvs)) : (a == sysModules) = false /\ ∃ es : Array DictEntry, es.size = kvs.length /\ Raw s.heap a es kvs.length /\
 ∀ (i : Nat) (h : i < es.size), ∃ q c, kvs[i]? = some q /\ es[i].key = .ref c /\ H c = some (.tup (q.1.map kV)) := by
 obtain ⟨hlen, nsm, ys, rel, ob, es, ep, at_, ex, dat, hes, nd, hep⟩ := (show ObjOk X.prog X.w H s.heap a (.dT kvs) from I.hok a _ ha)
 have yl : kvs.length = ys.length := Paired.length rel
 have esz : es.size = ys.length := by rw [<- Qf, hes, zJ]
 refine ⟨nsm, es, esz.trans yl.symm, ⟨ob, at_, ex, by rw [yl, <- hep]; exact dat⟩, λ i h => ?_⟩
 have hi : i < kvs.length := by omega
 have hy : i < ys.length := by omega
 obtain ⟨r1, r2, r3⟩ := pgetD (x := (([], V.non) : List Key × V)) (y := (([], 0, Value.none) : List Key × Addr × Value)) i rel hi
 have e5 : es[i]? = some (entryOfKey (tupleKind (mixKind X.prog X.w)) ys[i]) := by rw [<- Q1b, hes, zK, gEq hy]; rfl
 rw [Array.getElem?_eq_getElem h] at e5
 have w1 : kvs.getD i ([], V.non) = kvs[i] := by rw [gDq, gEq hi]; rfl
 have w2 : ys.getD i ([], 0, Value.none) = ys[i] := by rw [gDq, gEq hy]; rfl
 rw [w1, w2] at r2
 exact ⟨kvs[i], ys[i].2.1, gEq hi, by rw [zV e5]; rfl, r2⟩
end L2
namespace DL
open PySem L2
section
variable {K : Fg}
theorem is_dT {F : Hp} {v : V} {kvs : List (PyData × PyData)} {ks : List (List Int)} (e : keysD kvs = some ks) (h : Is K F v (.dict kvs)) : ∃ p m, v = .ref p /\ F p = some (.dT m) /\ Kvs K F m kvs := by
 obtain ⟨p, rfl, hh⟩ := h
 rcases hh with ⟨ms, rfl, _⟩ | ⟨m, z, kv⟩ | ⟨nm, rfl, _⟩ | ⟨m, z, kv⟩
 · cases e
 · exact ⟨p, m, rfl, z, kv⟩
 · cases e
 · cases kvs with
   | nil => exact kv.elim
   | cons q r => rw [kv.1] at e; cases e
theorem kvs_len' {F : Hp} : ∀ {m : List (List Key × V)} {kvs : List (PyData × PyData)}, Kvs K F m kvs -> m.length = kvs.length
 | _, [], h => by rw [show _ = [] from h]; rfl
 | _, _ :: _, h => by
  obtain ⟨q, m', rfl, _, h2⟩ := h
  rw [zC, zC, kvs_len' h2]
noncomputable def keysOfD : PyData -> Option (List PyData)
 | .dict kvs => (keysD kvs).map λ ks => ks.map tupI
 | _ => none
noncomputable def dgetD (d k : PyData) : Option PyData := match d with
 | .dict kvs => (keysD kvs).bind λ _ => (kvGet kvs k).bind λ r => r
 | _ => none
theorem se_dgetF {td ty : TE} {fd fk : DSt -> Option PyData} (a : SE K td fd) (b : SE K ty fk) : SE K (tDGet td ty) (d2 dgetD fd fk) := by
 intro H0 F0 F σ H δ d Q R e h
 obtain ⟨x, e1, e⟩ := bind_some e
 obtain ⟨y, e2, e⟩ := bind_some e
 unfold dgetD at e
 split at e
 · rename_i kvs
   obtain ⟨ks, e3, e⟩ := bind_some e
   obtain ⟨r, e4, e⟩ := bind_some e
   subst e
   refine a H0 F0 F σ H δ _ _ R e1 λ v H1 F1 g1 i1 => ?_
   obtain ⟨p, m, rfl, hm, kv⟩ := is_dT e3 i1
   refine b H0 F0 F1 σ H1 δ _ _ (R.grow g1) e2 λ v2 H2 F2 g2 i2 => ?_
   obtain ⟨ov, g, v3, rfl, iv⟩ := dget_of g2.s (g2.h _ _ (g1.s _ _ hm)) (DcO.same g2.f (.inl ⟨m, rfl, kv⟩)) i2 e4
   exact ⟨p, v3, rfl, g, h v3 H2 F2 (g1.trans g2) iv⟩
 · cases e
end
end DL
namespace L2
open PySem PySem.Spec PyProof.Rows PySem.W
section
variable {prog : Program} {w : World} {A : Around} {E : Value -> Shared -> Prop} {s : Shared} {a b : Addr} {es : Array DictEntry} {ep ep2 : Nat}
theorem raw_same {id : String} {Q : Bool -> Shared -> Prop} (na : (a == sysModules) = false) (nb : (b == sysModules) = false) (x : Raw s.heap a es ep) (y : Raw s.heap b #[] ep2) (h : Q (es.size == 0) s) : wpAny (model prog w) A (Builtin.Dict.samePairs id a b) Q E s := by
 obtain ⟨oa, ga, _, da⟩ := x; obtain ⟨ob, gb, _, db⟩ := y
 unfold Builtin.Dict.samePairs Builtin.Dict.showsAll; rw [if_neg (show ¬ (a == sysModules) = true by rw [na]; exact Q8), if_neg (show ¬ (b == sysModules) = true by rw [nb]; exact Q8)]
 refine wB (wP (wB (wP ?_))); refine wB (wpAny_dictEntries ga da ?_); dsimp only; refine wB (wpAny_dictEntries gb db ?_)
 by_cases hz : es.size = 0
 · have e : es = #[] := Array.eq_empty_of_size_eq_zero hz
   subst e
   rw [if_neg (by simp)]; refine wB (wpAny_dictEpoch ga da ?_)
   refine wB (m := _) ?_
   rw [Std.Legacy.Range.forIn_eq_forIn_range']
   simp only [Std.Legacy.Range.size, Nat.sub_zero, Nat.add_sub_cancel, Nat.div_one]
   exact wP (wP h)
 · rw [if_pos (by simpa using hz)]
   rw [show (es.size == 0) = false by simpa using hz] at h
   exact wB (wpAny_rule (wP h))
theorem raw_eq {Q : Value -> Shared -> Prop} (hu : A.units < cLine) (na : (a == sysModules) = false) (nb : (b == sysModules) = false) (x : Raw s.heap a es ep) (y : Raw s.heap b #[] ep2) (h : Q (.bool (es.size == 0)) s) : wpAny (model prog w) A (compareOp .Eq (.ref a) (.ref b)) Q E s := by
 have ta := x.ty; have tb := y.ty
 refine wpAny_richCompare_same_room (op := .Eq) ta tb PySem.F.slot_dict_eq (wpAny_call_entry PySem.F.slot_dict_eq ta PySem.F.entry_dict_eq ?_ (PySem.F.args_dict_eq_2 _ _)) hu
 show wpAny _ _ (Builtin.Dict.dictSlotArgs "__eq__" ⟨[.ref a, .ref b], []⟩ >>= _) _ _ s; refine wB ?_; unfold Builtin.Dict.dictSlotArgs; refine wB (wpAny_notOrdered_dict ta ?_)
 show wpAny _ _ (pure (Value.ref a, Value.ref b)) _ _ s; refine wP ?_; refine wB (wpAny_isInstance (T := "dict") tb PySem.F.sub_dict_dict ?_); simp only [Q1f, zN, if_false]
 refine wB (wP (wB (wP ?_))); refine wB (raw_same na nb x y ?_)
 refine wP ⟨_, rfl, (λ z => nomatch z), ?_⟩
 simpa using h
end
def rEqE : R2 := λ x y H Q => ∃ a b kvs, x = .ref a /\ y = .ref b /\ H a = some (.dT kvs) /\ H b = some (.dT []) /\ Q (.bl kvs.isEmpty) H
theorem op_eqE {X : Cx} (hu : X.A.units + 64 < cLine) : OpR X (compareOp .Eq) rEqE := by
 intro pins s σ H x y v u Q I rx ry h
 obtain ⟨a, b, kvs, rfl, rfl, ha, hb, q⟩ := h
 cases (show v = Value.ref a from rx)
 cases (show u = Value.ref b from ry)
 obtain ⟨n1, e1, z1, r1, _⟩ := I.rawE ha
 obtain ⟨n2, e2, z2, r2, _⟩ := I.rawE hb
 have hz : e2 = #[] := Array.eq_empty_of_size_eq_zero z2
 subst hz
 refine raw_eq (by omega) n1 n2 r1 r2 ⟨.bl kvs.isEmpty, H, I, ?_, q⟩
 rw [z1]
 cases kvs <;> rfl
end L2
namespace DL
open PySem L2
section
variable {K : Fg}
noncomputable def eqE (d k : PyData) : Option PyData := match d, k with
 | .dict kvs, .dict [] => (keysD kvs).map λ _ => .bool kvs.isEmpty
 | _, _ => none
theorem od_eqE : OpD K rEqE eqE := λ F H x y dx dy d Q s ix iy e k => by
 unfold eqE at e
 split at e
 · rename_i kvs
   obtain ⟨ks, e1, e2⟩ := Q0.mp e
   subst e2
   obtain ⟨p, m, rfl, hm, kv⟩ := is_dT e1 ix
   obtain ⟨q, m2, rfl, hm2, kv2⟩ := is_dT (ks := []) rfl iy
   have z : m2 = [] := kv2
   subst z
   refine ⟨p, q, m, rfl, rfl, s _ _ hm, s _ _ hm2, k _ H F (Grow.refl s) ?_⟩
   have := kvs_len' kv
   show V.bl m.isEmpty = V.bl kvs.isEmpty
   cases m <;> cases kvs <;> simp at this <;> rfl
 · cases e
theorem se_dnew : SE K tDNewT (dC (.dict [])) := by
 intro H0 F0 F σ H δ d Q R e h
 cases e
 intro p hp
 exact h _ _ _ (Grow.new (p := p) (o := .dT []) R.g.s hp) ⟨p, rfl, .inr (.inl ⟨[], upd_same, rfl⟩)⟩
end
theorem us1 {P : List Value -> Prop} (h : ∀ a, P [a]) : ∀ us : List Value, us.length = 1 -> P us := λ us e => by
 rcases us with _ | ⟨a, _ | ⟨b, r⟩⟩
 · cases e
 · exact h a
 · exact absurd e (by simp)
theorem us2 {P : List Value -> Prop} (h : ∀ a b, P [a, b]) : ∀ us : List Value, us.length = 2 -> P us := λ us e => by
 rcases us with _ | ⟨a, r⟩
 · cases e
 · exact us1 (P := λ r => P (a :: r)) (h a) r (Nat.succ.inj e)
theorem us3 {P : List Value -> Prop} (h : ∀ a b c, P [a, b, c]) : ∀ us : List Value, us.length = 3 -> P us := λ us e => by
 rcases us with _ | ⟨a, r⟩
 · cases e
 · exact us2 (P := λ r => P (a :: r)) (h a) r (Nat.succ.inj e)
end DL
namespace L2
open PySem
theorem ps_setL {X : Cx} {pos : Pos} {i : Nat} {x : Str} {e : Expr} {te : TE} {pos' : Pos} (hN : X.N.Nodup) (he : PE X e te) (hi : X.N[i]? = some x := by rfl) (hx : Loc X.env.scope x := by first | exact Or.inl rfl | exact Or.inr rfl) (hs : swapsWith e (some (.Name x pos')) pos.line X.env = pure false := by rfl)
 (hf : X.fn x = true \/ X.env.scope.names.lookup x = some .local := by first | exact .inl rfl | exact .inr rfl | assumption) : PS X (.Assign [.Name x pos'] e pos) (tAsg te (gName i)) := ps_set hN hi hx he hs hf
theorem fsc {N P : List Str} {sc : Scope} (a : sc.kind = .function := by rfl) (b : sc.isCoroutine = false := by rfl) (c : sc.isGenerator = false := by rfl) (d : N.Nodup := by decide +kernel) (e : N.take P.length = P := by rfl)
 (f : ∀ x ∈ P, sc.names.lookup x = some .local \/ sc.names.lookup x = some .cell := by decide +kernel) (g : ∀ y ∈ sc.names, y.2 ≠ .free := by decide +kernel) : FnScope N P sc := ⟨a, b, c, d, e, f, g⟩
end L2
namespace GX
open PySem L2 DL
noncomputable def B_law_mix_0 : DSt -> Option DFlow := (dRet (d2 modD (d2 modD (d2 mulI (dVar 0) (dC (.int 48271))) (dVar 1)) (dVar 2)))
noncomputable def B_law_mix : DSt -> Option DFlow := (dRet (d2 modD (d2 modD (d2 mulI (dVar 0) (dC (.int 48271))) (dVar 1)) (dVar 2)))
theorem B_law_mix_tl : B_law_mix = B_law_mix_0 := rfl
noncomputable def F_law_mix : List PyData -> Option PyData := runD 3 B_law_mix
noncomputable def B_law_cell_1 : DSt -> Option DFlow := (dRet (dC (.int 0)))
noncomputable def B_law_cell_0 : DSt -> Option DFlow := dSeq (dIf (dB (d2 ltD (dVar 1) (dCall lenC (dCons (dVar 0) dNil)))) (dRet (d2 ixD (dVar 0) (dVar 1))) dNext) B_law_cell_1
noncomputable def B_law_cell : DSt -> Option DFlow := (dSeq (dIf (dB (d2 ltD (dVar 1) (dCall lenC (dCons (dVar 0) dNil)))) (dRet (d2 ixD (dVar 0) (dVar 1))) dNext) (dRet (dC (.int 0))))
theorem B_law_cell_tl : B_law_cell = B_law_cell_0 := rfl
noncomputable def F_law_cell : List PyData -> Option PyData := runD 2 B_law_cell
noncomputable def B_law_game_3 : DSt -> Option DFlow := (dRet (d2 ixD (dVar 2) (dOwnCall 3 F_law_mix (dCons (dOwnCall 2 F_law_cell (dCons (dVar 0) (dCons (dVar 1) dNil))) (dCons (dC (.int 9973)) (dCons (dVar 3) dNil))))))
noncomputable def B_law_game_2 : DSt -> Option DFlow := dSeq (dIf (dB (d2 gtD (dCall lenC (dCons (dVar 0) dNil)) (dC (.int 63)))) (dSet 3 (dC (.int 13))) dNext) B_law_game_3
noncomputable def B_law_game_1 : DSt -> Option DFlow := dSeq (dSet 3 (dC (.int 9))) B_law_game_2
noncomputable def B_law_game_0 : DSt -> Option DFlow := dSeq (dSet 2 (dOwn (dLstO (dLits [.tuple [.int 2, .int 3], .tuple [.int 3, .int 2], .tuple [.int 3, .int 3], .tuple [.int 2, .int 4], .tuple [.int 4, .int 2], .tuple [.int 1, .int 5], .tuple [.int 2, .int 5], .tuple [.int 3, .int 4], .tuple [.int 4, .int 3], .tuple [.int 5, .int 2], .tuple [.int 2, .int 8], .tuple [.int 1, .int 1], .tuple [.int 2, .int 2]])))) B_law_game_1
noncomputable def B_law_game : DSt -> Option DFlow := (dSeq (dSet 2 (dOwn (dLstO (dLits [.tuple [.int 2, .int 3], .tuple [.int 3, .int 2], .tuple [.int 3, .int 3], .tuple [.int 2, .int 4], .tuple [.int 4, .int 2], .tuple [.int 1, .int 5], .tuple [.int 2, .int 5], .tuple [.int 3, .int 4], .tuple [.int 4, .int 3], .tuple [.int 5, .int 2], .tuple [.int 2, .int 8], .tuple [.int 1, .int 1], .tuple [.int 2, .int 2]])))) (dSeq (dSet 3 (dC (.int 9))) (dSeq (dIf (dB (d2 gtD (dCall lenC (dCons (dVar 0) dNil)) (dC (.int 63)))) (dSet 3 (dC (.int 13))) dNext) (dRet (d2 ixD (dVar 2) (dOwnCall 3 F_law_mix (dCons (dOwnCall 2 F_law_cell (dCons (dVar 0) (dCons (dVar 1) dNil))) (dCons (dC (.int 9973)) (dCons (dVar 3) dNil)))))))))
theorem B_law_game_tl : B_law_game = B_law_game_0 := rfl
noncomputable def F_law_game : List PyData -> Option PyData := runD 4 B_law_game
noncomputable def B_law_code_2 : DSt -> Option DFlow := (dFrz 2 (dRet (dCall tupC (dCons (dVar 2) dNil))))
noncomputable def B_law_code_1 : DSt -> Option DFlow := dSeq (dFor (dRng1 (dCons (d2 ixD (dVar 0) (dC (.int 0))) dNil)) (gN 3) (dAppend 2 (dOwnCall 3 F_law_mix (dCons (d2 addD (d2 addD (dVar 1) (d2 mulI (d2 mulI (dC (.int 31)) (dVar 3)) (dVar 3))) (d2 mulI (dC (.int 7)) (dVar 3))) (dCons (dC (.int 9967)) (dCons (d2 ixD (dVar 0) (dC (.int 1))) dNil)))))) B_law_code_2
noncomputable def B_law_code_0 : DSt -> Option DFlow := dSeq (dSetO 2 (dLstO dNil)) B_law_code_1
noncomputable def B_law_code : DSt -> Option DFlow := (dSeq (dSetO 2 (dLstO dNil)) (dSeq (dFor (dRng1 (dCons (d2 ixD (dVar 0) (dC (.int 0))) dNil)) (gN 3) (dAppend 2 (dOwnCall 3 F_law_mix (dCons (d2 addD (d2 addD (dVar 1) (d2 mulI (d2 mulI (dC (.int 31)) (dVar 3)) (dVar 3))) (d2 mulI (dC (.int 7)) (dVar 3))) (dCons (dC (.int 9967)) (dCons (d2 ixD (dVar 0) (dC (.int 1))) dNil)))))) (dFrz 2 (dRet (dCall tupC (dCons (dVar 2) dNil))))))
theorem B_law_code_tl : B_law_code = B_law_code_0 := rfl
noncomputable def F_law_code : List PyData -> Option PyData := runD 4 B_law_code
noncomputable def B_law_answer_6 : DSt -> Option DFlow := (dRet (dTup (dCons (dVar 2) (dCons (dVar 7) dNil))))
noncomputable def B_law_answer_5 : DSt -> Option DFlow := dSeq (dFrz 3 (dFor (dIter (dVar 3)) (gN 8) (dIf (dB (dInO false 4 (dVar 8))) (dSeq (dRemove 4 (dVar 8)) (dSet 7 (d2 addD (dVar 7) (dC (.int 1))))) dNext))) B_law_answer_6
noncomputable def B_law_answer_4 : DSt -> Option DFlow := dSeq (dSet 7 (dC (.int 0))) B_law_answer_5
noncomputable def B_law_answer_3 : DSt -> Option DFlow := dSeq (dFor (dZip (dCons (dVar 0) (dCons (dVar 1) dNil))) (gT 2 (gC (gN 5) (gC (gN 6) gZ))) (dIf (dB (d2 eqD (dVar 5) (dVar 6))) (dSet 2 (d2 addD (dVar 2) (dC (.int 1)))) (dSeq (dAppend 3 (dVar 5)) (dAppend 4 (dVar 6))))) B_law_answer_4
noncomputable def B_law_answer_2 : DSt -> Option DFlow := dSeq (dSetO 4 (dLstO dNil)) B_law_answer_3
noncomputable def B_law_answer_1 : DSt -> Option DFlow := dSeq (dSetO 3 (dLstO dNil)) B_law_answer_2
noncomputable def B_law_answer_0 : DSt -> Option DFlow := dSeq (dSet 2 (dC (.int 0))) B_law_answer_1
noncomputable def B_law_answer : DSt -> Option DFlow := (dSeq (dSet 2 (dC (.int 0))) (dSeq (dSetO 3 (dLstO dNil)) (dSeq (dSetO 4 (dLstO dNil)) (dSeq (dFor (dZip (dCons (dVar 0) (dCons (dVar 1) dNil))) (gT 2 (gC (gN 5) (gC (gN 6) gZ))) (dIf (dB (d2 eqD (dVar 5) (dVar 6))) (dSet 2 (d2 addD (dVar 2) (dC (.int 1)))) (dSeq (dAppend 3 (dVar 5)) (dAppend 4 (dVar 6))))) (dSeq (dSet 7 (dC (.int 0))) (dSeq (dFrz 3 (dFor (dIter (dVar 3)) (gN 8) (dIf (dB (dInO false 4 (dVar 8))) (dSeq (dRemove 4 (dVar 8)) (dSet 7 (d2 addD (dVar 7) (dC (.int 1))))) dNext))) (dRet (dTup (dCons (dVar 2) (dCons (dVar 7) dNil))))))))))
theorem B_law_answer_tl : B_law_answer = B_law_answer_0 := rfl
noncomputable def F_law_answer : List PyData -> Option PyData := runD 9 B_law_answer
noncomputable def B_law_asks_3 : DSt -> Option DFlow := (dRetO 4)
noncomputable def B_law_asks_2 : DSt -> Option DFlow := dSeq (dFor (dRng1 (dCons (dOwnCall 3 F_law_mix (dCons (dOwnCall 2 F_law_cell (dCons (dVar 0) (dCons (d2 addD (dVar 1) (dC (.int 1))) dNil))) (dCons (dC (.int 9949)) (dCons (dC (.int 5)) dNil)))) dNil)) (gN 5) (dSeq (dSet 6 (d2 addD (dOwnCall 2 F_law_cell (dCons (dVar 0) (dCons (d2 addD (d2 addD (dVar 1) (dC (.int 2))) (dVar 5)) dNil))) (d2 mulI (d2 mulI (dC (.int 13)) (dVar 5)) (dVar 5)))) (dSeq (dSet 7 (dOwnCall 2 F_law_code (dCons (dVar 2) (dCons (dVar 6) dNil)))) (dSeq (dSet 8 (dOwnCall 2 F_law_answer (dCons (dVar 3) (dCons (dVar 7) dNil)))) (dSeq (dIf (dB (d2 eqD (dOwnCall 3 F_law_mix (dCons (dVar 6) (dCons (dC (.int 9941)) (dCons (dC (.int 7)) dNil)))) (dC (.int 1)))) (dSet 8 (dTup (dCons (dOwnCall 3 F_law_mix (dCons (dVar 6) (dCons (dC (.int 9931)) (dCons (d2 addD (d2 ixD (dVar 2) (dC (.int 0))) (dC (.int 1))) dNil)))) (dCons (dOwnCall 3 F_law_mix (dCons (dVar 6) (dCons (dC (.int 9929)) (dCons (d2 addD (d2 ixD (dVar 2) (dC (.int 0))) (dC (.int 1))) dNil)))) dNil)))) dNext) (dAppend 4 (dTup (dCons (dVar 7) (dCons (dVar 8) dNil))))))))) B_law_asks_3
noncomputable def B_law_asks_1 : DSt -> Option DFlow := dSeq (dSetO 4 (dLstO dNil)) B_law_asks_2
noncomputable def B_law_asks_0 : DSt -> Option DFlow := dSeq (dSet 3 (dOwnCall 2 F_law_code (dCons (dVar 2) (dCons (dOwnCall 2 F_law_cell (dCons (dVar 0) (dCons (dVar 1) dNil))) dNil)))) B_law_asks_1
noncomputable def B_law_asks : DSt -> Option DFlow := (dSeq (dSet 3 (dOwnCall 2 F_law_code (dCons (dVar 2) (dCons (dOwnCall 2 F_law_cell (dCons (dVar 0) (dCons (dVar 1) dNil))) dNil)))) (dSeq (dSetO 4 (dLstO dNil)) (dSeq (dFor (dRng1 (dCons (dOwnCall 3 F_law_mix (dCons (dOwnCall 2 F_law_cell (dCons (dVar 0) (dCons (d2 addD (dVar 1) (dC (.int 1))) dNil))) (dCons (dC (.int 9949)) (dCons (dC (.int 5)) dNil)))) dNil)) (gN 5) (dSeq (dSet 6 (d2 addD (dOwnCall 2 F_law_cell (dCons (dVar 0) (dCons (d2 addD (d2 addD (dVar 1) (dC (.int 2))) (dVar 5)) dNil))) (d2 mulI (d2 mulI (dC (.int 13)) (dVar 5)) (dVar 5)))) (dSeq (dSet 7 (dOwnCall 2 F_law_code (dCons (dVar 2) (dCons (dVar 6) dNil)))) (dSeq (dSet 8 (dOwnCall 2 F_law_answer (dCons (dVar 3) (dCons (dVar 7) dNil)))) (dSeq (dIf (dB (d2 eqD (dOwnCall 3 F_law_mix (dCons (dVar 6) (dCons (dC (.int 9941)) (dCons (dC (.int 7)) dNil)))) (dC (.int 1)))) (dSet 8 (dTup (dCons (dOwnCall 3 F_law_mix (dCons (dVar 6) (dCons (dC (.int 9931)) (dCons (d2 addD (d2 ixD (dVar 2) (dC (.int 0))) (dC (.int 1))) dNil)))) (dCons (dOwnCall 3 F_law_mix (dCons (dVar 6) (dCons (dC (.int 9929)) (dCons (d2 addD (d2 ixD (dVar 2) (dC (.int 0))) (dC (.int 1))) dNil)))) dNil)))) dNext) (dAppend 4 (dTup (dCons (dVar 7) (dCons (dVar 8) dNil))))))))) (dRetO 4))))
theorem B_law_asks_tl : B_law_asks = B_law_asks_0 := rfl
noncomputable def F_law_asks : List PyData -> Option (List PyData) := runO 9 B_law_asks
noncomputable def B_law_parts_2 : DSt -> Option DFlow := (dFrz 2 (dRet (dVar 2)))
noncomputable def B_law_parts_1 : DSt -> Option DFlow := dSeq (dParts (dIter (dVar 0)) 3 4 2 (dOwnCall 2 F_law_answer (dCons (dVar 3) (dCons (dVar 1) dNil)))) B_law_parts_2
noncomputable def B_law_parts_0 : DSt -> Option DFlow := dSeq (dSetD 2) B_law_parts_1
noncomputable def B_law_parts : DSt -> Option DFlow := (dSeq (dSetD 2) (dSeq (dParts (dIter (dVar 0)) 3 4 2 (dOwnCall 2 F_law_answer (dCons (dVar 3) (dCons (dVar 1) dNil)))) (dFrz 2 (dRet (dVar 2)))))
theorem B_law_parts_tl : B_law_parts = B_law_parts_0 := rfl
noncomputable def F_law_parts : List PyData -> Option PyData := runD 5 B_law_parts
noncomputable def Bis_pair_0 : DSt -> Option DFlow := (dRet (dAndV (dIsi "tuple" (dVar 0)) (d2 eqD (dCall lenC (dCons (dVar 0) dNil)) (dC (.int 2)))))
noncomputable def Bis_pair : DSt -> Option DFlow := (dRet (dAndV (dIsi "tuple" (dVar 0)) (d2 eqD (dCall lenC (dCons (dVar 0) dNil)) (dC (.int 2)))))
theorem Bis_pair_tl : Bis_pair = Bis_pair_0 := rfl
noncomputable def Fis_pair : List PyData -> Option PyData := runD 1 Bis_pair
noncomputable def Bhow_many_codes : DSt -> Option DFlow := (dSeq (dSet 2 (dC (.int 1))) (dSeq (dFor (dRng1 (dCons (dVar 0) dNil)) (gN 3) (dAug 2 mulI (dVar 1))) (dRet (dVar 2))))
noncomputable def Fhow_many_codes : List PyData -> Option PyData := runD 4 Bhow_many_codes
noncomputable def Bis_number_within_0 : DSt -> Option DFlow := (dRet (dAndV (dIsi "int" (dVar 0)) (dAndV (dNotV (dIsi "bool" (dVar 0))) (dChain leD leD (dVar 1) (dVar 0) (dVar 2)))))
noncomputable def Bis_number_within : DSt -> Option DFlow := (dRet (dAndV (dIsi "int" (dVar 0)) (dAndV (dNotV (dIsi "bool" (dVar 0))) (dChain leD leD (dVar 1) (dVar 0) (dVar 2)))))
theorem Bis_number_within_tl : Bis_number_within = Bis_number_within_0 := rfl
noncomputable def Fis_number_within : List PyData -> Option PyData := runD 3 Bis_number_within
noncomputable def Bis_game : DSt -> Option DFlow := (dSeq (dIf (dNotT (dTru (dOwnCall 1 Fis_pair (dCons (dVar 0) dNil)))) (dRet (dC (.bool false))) dNext) (dSeq (dIf (dOrT (dNotT (dTru (dOwnCall 3 Fis_number_within (dCons (d2 ixD (dVar 0) (dC (.int 0))) (dCons (dC (.int 1)) (dCons (dC (.int 5)) dNil)))))) (dNotT (dTru (dOwnCall 3 Fis_number_within (dCons (d2 ixD (dVar 0) (dC (.int 1))) (dCons (dC (.int 1)) (dCons (dC (.int 8)) dNil))))))) (dRet (dC (.bool false))) dNext) (dRet (d2 leD (dOwnCall 2 Fhow_many_codes (dCons (d2 ixD (dVar 0) (dC (.int 0))) (dCons (d2 ixD (dVar 0) (dC (.int 1))) dNil))) (dC (.int 300))))))
noncomputable def Fis_game : List PyData -> Option PyData := runD 1 Bis_game
noncomputable def Bchecked_game : DSt -> Option DFlow := (dSeq (dIf (dNotT (dTru (dOwnCall 1 Fis_game (dCons (dVar 0) dNil)))) dNever dNext) (dRet (dVar 0)))
noncomputable def Fchecked_game : List PyData -> Option PyData := runD 1 Bchecked_game
noncomputable def Bis_code_1 : DSt -> Option DFlow := (dRet (dCall allC (dCons (dOwn (dCompO 1 [("game", 0)] (dIter (dVar 1)) (gN 0) dYes (dOwnCall 3 Fis_number_within (dCons (dVar 0) (dCons (dC (.int 0)) (dCons (d2 subD (d2 ixD (dVar 1) (dC (.int 1))) (dC (.int 1))) dNil)))))) dNil)))
noncomputable def Bis_code_0 : DSt -> Option DFlow := dSeq (dIf (dOrT (dNotT (dTru (dIsi "tuple" (dVar 1)))) (dB (d2 neD (dCall lenC (dCons (dVar 1) dNil)) (d2 ixD (dVar 0) (dC (.int 0)))))) (dRet (dC (.bool false))) dNext) Bis_code_1
noncomputable def Bis_code : DSt -> Option DFlow := (dSeq (dIf (dOrT (dNotT (dTru (dIsi "tuple" (dVar 1)))) (dB (d2 neD (dCall lenC (dCons (dVar 1) dNil)) (d2 ixD (dVar 0) (dC (.int 0)))))) (dRet (dC (.bool false))) dNext) (dRet (dCall allC (dCons (dOwn (dCompO 1 [("game", 0)] (dIter (dVar 1)) (gN 0) dYes (dOwnCall 3 Fis_number_within (dCons (dVar 0) (dCons (dC (.int 0)) (dCons (d2 subD (d2 ixD (dVar 1) (dC (.int 1))) (dC (.int 1))) dNil)))))) dNil))))
theorem Bis_code_tl : Bis_code = Bis_code_0 := rfl
noncomputable def Fis_code : List PyData -> Option PyData := runD 2 Bis_code
noncomputable def Bis_answer_0 : DSt -> Option DFlow := (dRet (dAndV (dOwnCall 1 Fis_pair (dCons (dVar 1) dNil)) (dCall allC (dCons (dOwn (dCompO 1 [("game", 0)] (dIter (dVar 1)) (gN 0) dYes (dOwnCall 3 Fis_number_within (dCons (dVar 0) (dCons (dC (.int 0)) (dCons (d2 ixD (dVar 1) (dC (.int 0))) dNil)))))) dNil))))
noncomputable def Bis_answer : DSt -> Option DFlow := (dRet (dAndV (dOwnCall 1 Fis_pair (dCons (dVar 1) dNil)) (dCall allC (dCons (dOwn (dCompO 1 [("game", 0)] (dIter (dVar 1)) (gN 0) dYes (dOwnCall 3 Fis_number_within (dCons (dVar 0) (dCons (dC (.int 0)) (dCons (d2 ixD (dVar 1) (dC (.int 0))) dNil)))))) dNil))))
theorem Bis_answer_tl : Bis_answer = Bis_answer_0 := rfl
noncomputable def Fis_answer : List PyData -> Option PyData := runD 2 Bis_answer
noncomputable def Bis_ask_0 : DSt -> Option DFlow := (dRet (dAndV (dOwnCall 1 Fis_pair (dCons (dVar 1) dNil)) (dAndV (dOwnCall 2 Fis_code (dCons (dVar 0) (dCons (d2 ixD (dVar 1) (dC (.int 0))) dNil))) (dOwnCall 2 Fis_answer (dCons (dVar 0) (dCons (d2 ixD (dVar 1) (dC (.int 1))) dNil))))))
noncomputable def Bis_ask : DSt -> Option DFlow := (dRet (dAndV (dOwnCall 1 Fis_pair (dCons (dVar 1) dNil)) (dAndV (dOwnCall 2 Fis_code (dCons (dVar 0) (dCons (d2 ixD (dVar 1) (dC (.int 0))) dNil))) (dOwnCall 2 Fis_answer (dCons (dVar 0) (dCons (d2 ixD (dVar 1) (dC (.int 1))) dNil))))))
theorem Bis_ask_tl : Bis_ask = Bis_ask_0 := rfl
noncomputable def Fis_ask : List PyData -> Option PyData := runD 2 Bis_ask
noncomputable def Bchecked_list_2 : DSt -> Option DFlow := (dRet (dVar 1))
noncomputable def Bchecked_list_1 : DSt -> Option DFlow := dSeq (dFor (dEn (dCons (dVar 1) dNil)) (gT 2 (gC (gN 3) (gC (gN 4) gZ))) (dIf (dNotT (dTru (dCallV 2 "is_ask" 2 Fis_ask (dCons (dVar 0) (dCons (dVar 4) dNil))))) dNever dNext)) Bchecked_list_2
noncomputable def Bchecked_list_0 : DSt -> Option DFlow := dSeq (dIf (dOrT (dNotT (dTru (dIsi "list" (dVar 1)))) (dB (d2 gtD (dCall lenC (dCons (dVar 1) dNil)) (dC (.int 8))))) dNever dNext) Bchecked_list_1
noncomputable def Bchecked_list : DSt -> Option DFlow := (dSeq (dIf (dOrT (dNotT (dTru (dIsi "list" (dVar 1)))) (dB (d2 gtD (dCall lenC (dCons (dVar 1) dNil)) (dC (.int 8))))) dNever dNext) (dSeq (dFor (dEn (dCons (dVar 1) dNil)) (gT 2 (gC (gN 3) (gC (gN 4) gZ))) (dIf (dNotT (dTru (dCallV 2 "is_ask" 2 Fis_ask (dCons (dVar 0) (dCons (dVar 4) dNil))))) dNever dNext)) (dRet (dVar 1))))
theorem Bchecked_list_tl : Bchecked_list = Bchecked_list_0 := rfl
noncomputable def Fchecked_list : List PyData -> Option PyData := runD 5 Bchecked_list
noncomputable def Bchecked_asks_0 : DSt -> Option DFlow := (dRet (dOwnCall 3 Fchecked_list (dCons (dVar 0) (dCons (dVar 1) (dCons (dC (fnD "is_ask")) dNil)))))
noncomputable def Bchecked_asks : DSt -> Option DFlow := (dRet (dOwnCall 3 Fchecked_list (dCons (dVar 0) (dCons (dVar 1) (dCons (dC (fnD "is_ask")) dNil)))))
theorem Bchecked_asks_tl : Bchecked_asks = Bchecked_asks_0 := rfl
noncomputable def Fchecked_asks : List PyData -> Option PyData := runD 2 Bchecked_asks
noncomputable def Banswer_of_4 : DSt -> Option DFlow := (dRet (dTup (dCons (dVar 2) (dCons (d2 subD (dVar 3) (dVar 2)) dNil))))
noncomputable def Banswer_of_3 : DSt -> Option DFlow := dSeq (dFor (dEn (dCons (dVar 1) dNil)) (gT 2 (gC (gN 5) (gC (gN 6) gZ))) (dSeq (dIf (dB (d2 eqD (d2 ixD (dVar 0) (dVar 5)) (dVar 6))) (dAug 2 iaddD (dC (.int 1))) dNext) (dIf (dB (dInO false 4 (dVar 6))) (dSeq (dRemove 4 (dVar 6)) (dAug 3 iaddD (dC (.int 1)))) dNext))) Banswer_of_4
noncomputable def Banswer_of_2 : DSt -> Option DFlow := dSeq (dSetO 4 (dListO (dCons (dVar 0) dNil))) Banswer_of_3
noncomputable def Banswer_of_1 : DSt -> Option DFlow := dSeq (dSet 3 (dC (.int 0))) Banswer_of_2
noncomputable def Banswer_of_0 : DSt -> Option DFlow := dSeq (dSet 2 (dC (.int 0))) Banswer_of_1
noncomputable def Banswer_of : DSt -> Option DFlow := (dSeq (dSet 2 (dC (.int 0))) (dSeq (dSet 3 (dC (.int 0))) (dSeq (dSetO 4 (dListO (dCons (dVar 0) dNil))) (dSeq (dFor (dEn (dCons (dVar 1) dNil)) (gT 2 (gC (gN 5) (gC (gN 6) gZ))) (dSeq (dIf (dB (d2 eqD (d2 ixD (dVar 0) (dVar 5)) (dVar 6))) (dAug 2 iaddD (dC (.int 1))) dNext) (dIf (dB (dInO false 4 (dVar 6))) (dSeq (dRemove 4 (dVar 6)) (dAug 3 iaddD (dC (.int 1)))) dNext))) (dRet (dTup (dCons (dVar 2) (dCons (d2 subD (dVar 3) (dVar 2)) dNil))))))))
theorem Banswer_of_tl : Banswer_of = Banswer_of_0 := rfl
noncomputable def Fanswer_of : List PyData -> Option PyData := runD 7 Banswer_of
noncomputable def Bfits_ask_0 : DSt -> Option DFlow := (dRet (d2 eqD (dOwnCall 2 Fanswer_of (dCons (dVar 0) (dCons (d2 ixD (dVar 1) (dC (.int 0))) dNil))) (d2 ixD (dVar 1) (dC (.int 1)))))
noncomputable def Bfits_ask : DSt -> Option DFlow := (dRet (d2 eqD (dOwnCall 2 Fanswer_of (dCons (dVar 0) (dCons (d2 ixD (dVar 1) (dC (.int 0))) dNil))) (d2 ixD (dVar 1) (dC (.int 1)))))
theorem Bfits_ask_tl : Bfits_ask = Bfits_ask_0 := rfl
noncomputable def Ffits_ask : List PyData -> Option PyData := runD 2 Bfits_ask
noncomputable def Bthose_that_fit_2 : DSt -> Option DFlow := (dRet (dVar 2))
noncomputable def Bthose_that_fit_1 : DSt -> Option DFlow := dSeq (dFor (dIter (dVar 1)) (gN 3) (dSet 2 (dOwn (dCompO 1 [("ask", 3)] (dIter (dVar 2)) (gN 0) (dTru (dOwnCall 2 Ffits_ask (dCons (dVar 0) (dCons (dVar 1) dNil)))) (dVar 0))))) Bthose_that_fit_2
noncomputable def Bthose_that_fit_0 : DSt -> Option DFlow := dSeq (dSet 2 (dVar 0)) Bthose_that_fit_1
noncomputable def Bthose_that_fit : DSt -> Option DFlow := (dSeq (dSet 2 (dVar 0)) (dSeq (dFor (dIter (dVar 1)) (gN 3) (dSet 2 (dOwn (dCompO 1 [("ask", 3)] (dIter (dVar 2)) (gN 0) (dTru (dOwnCall 2 Ffits_ask (dCons (dVar 0) (dCons (dVar 1) dNil)))) (dVar 0))))) (dRet (dVar 2))))
theorem Bthose_that_fit_tl : Bthose_that_fit = Bthose_that_fit_0 := rfl
noncomputable def Fthose_that_fit : List PyData -> Option PyData := runD 4 Bthose_that_fit
noncomputable def Ball_codes_3 : DSt -> Option DFlow := (dRet (dVar 1))
noncomputable def Ball_codes_2 : DSt -> Option DFlow := dSeq (dFor (dRng1 (dCons (d2 ixD (dVar 0) (dC (.int 0))) dNil)) (gN 2) (dSeq (dSetO 3 (dLstO dNil)) (dSeq (dFor (dIter (dVar 1)) (gN 4) (dExtend 3 (dOwn (dCompO 1 [("code", 4)] (dRng1 (dCons (d2 ixD (dVar 0) (dC (.int 1))) dNil)) (gN 0) dYes (d2 addD (dVar 1) (dTup (dCons (dVar 0) dNil))))))) (dFrz 3 (dSet 1 (dVar 3)))))) Ball_codes_3
noncomputable def Ball_codes_1 : DSt -> Option DFlow := dSeq (dSet 1 (dOwn (dLstO (dCons (dTup dNil) dNil)))) Ball_codes_2
noncomputable def Ball_codes_0 : DSt -> Option DFlow := dSeq (dDrop (dOwnCall 1 Fchecked_game (dCons (dVar 0) dNil))) Ball_codes_1
noncomputable def Ball_codes : DSt -> Option DFlow := (dSeq (dDrop (dOwnCall 1 Fchecked_game (dCons (dVar 0) dNil))) (dSeq (dSet 1 (dOwn (dLstO (dCons (dTup dNil) dNil)))) (dSeq (dFor (dRng1 (dCons (d2 ixD (dVar 0) (dC (.int 0))) dNil)) (gN 2) (dSeq (dSetO 3 (dLstO dNil)) (dSeq (dFor (dIter (dVar 1)) (gN 4) (dExtend 3 (dOwn (dCompO 1 [("code", 4)] (dRng1 (dCons (d2 ixD (dVar 0) (dC (.int 1))) dNil)) (gN 0) dYes (d2 addD (dVar 1) (dTup (dCons (dVar 0) dNil))))))) (dFrz 3 (dSet 1 (dVar 3)))))) (dRet (dVar 1)))))
theorem Ball_codes_tl : Ball_codes = Ball_codes_0 := rfl
noncomputable def Fall_codes : List PyData -> Option PyData := runD 5 Ball_codes
noncomputable def Bwhat_fits_2 : DSt -> Option DFlow := (dRet (dOwnCall 2 Fthose_that_fit (dCons (dOwnCall 1 Fall_codes (dCons (dVar 0) dNil)) (dCons (dVar 1) dNil))))
noncomputable def Bwhat_fits_1 : DSt -> Option DFlow := dSeq (dDrop (dOwnCall 2 Fchecked_asks (dCons (dVar 0) (dCons (dVar 1) dNil)))) Bwhat_fits_2
noncomputable def Bwhat_fits_0 : DSt -> Option DFlow := dSeq (dDrop (dOwnCall 1 Fchecked_game (dCons (dVar 0) dNil))) Bwhat_fits_1
noncomputable def Bwhat_fits : DSt -> Option DFlow := (dSeq (dDrop (dOwnCall 1 Fchecked_game (dCons (dVar 0) dNil))) (dSeq (dDrop (dOwnCall 2 Fchecked_asks (dCons (dVar 0) (dCons (dVar 1) dNil)))) (dRet (dOwnCall 2 Fthose_that_fit (dCons (dOwnCall 1 Fall_codes (dCons (dVar 0) dNil)) (dCons (dVar 1) dNil))))))
theorem Bwhat_fits_tl : Bwhat_fits = Bwhat_fits_0 := rfl
noncomputable def Fwhat_fits : List PyData -> Option PyData := runD 2 Bwhat_fits
noncomputable def Bchecked_code_1 : DSt -> Option DFlow := (dRet (dVar 1))
noncomputable def Bchecked_code_0 : DSt -> Option DFlow := dSeq (dIf (dNotT (dTru (dOwnCall 2 Fis_code (dCons (dVar 0) (dCons (dVar 1) dNil))))) dNever dNext) Bchecked_code_1
noncomputable def Bchecked_code : DSt -> Option DFlow := (dSeq (dIf (dNotT (dTru (dOwnCall 2 Fis_code (dCons (dVar 0) (dCons (dVar 1) dNil))))) dNever dNext) (dRet (dVar 1)))
theorem Bchecked_code_tl : Bchecked_code = Bchecked_code_0 := rfl
noncomputable def Fchecked_code : List PyData -> Option PyData := runD 2 Bchecked_code
noncomputable def Bcounts_by_answer_2 : DSt -> Option DFlow := (dFrz 2 (dRet (dVar 2)))
noncomputable def Bcounts_by_answer_1 : DSt -> Option DFlow := dSeq (dFor (dIter (dVar 0)) (gN 3) (dSeq (dSet 4 (dOwnCall 2 Fanswer_of (dCons (dVar 3) (dCons (dVar 1) dNil)))) (dPut 2 (dVar 4) (d2 addD (dGet2E 2 (dVar 4) (dC (.int 0))) (dC (.int 1)))))) Bcounts_by_answer_2
noncomputable def Bcounts_by_answer_0 : DSt -> Option DFlow := dSeq (dSetD 2) Bcounts_by_answer_1
noncomputable def Bcounts_by_answer : DSt -> Option DFlow := (dSeq (dSetD 2) (dSeq (dFor (dIter (dVar 0)) (gN 3) (dSeq (dSet 4 (dOwnCall 2 Fanswer_of (dCons (dVar 3) (dCons (dVar 1) dNil)))) (dPut 2 (dVar 4) (d2 addD (dGet2E 2 (dVar 4) (dC (.int 0))) (dC (.int 1)))))) (dFrz 2 (dRet (dVar 2)))))
theorem Bcounts_by_answer_tl : Bcounts_by_answer = Bcounts_by_answer_0 := rfl
noncomputable def Fcounts_by_answer : List PyData -> Option PyData := runD 5 Bcounts_by_answer
noncomputable def Bsplit_2 : DSt -> Option DFlow := (dRet (dSortI (dOwnCall 2 Fcounts_by_answer (dCons (dVar 3) (dCons (dVar 2) dNil)))))
noncomputable def Bsplit_1 : DSt -> Option DFlow := dSeq (dDrop (dOwnCall 2 Fchecked_code (dCons (dVar 0) (dCons (dVar 2) dNil)))) Bsplit_2
noncomputable def Bsplit_0 : DSt -> Option DFlow := dSeq (dSet 3 (dOwnCall 2 Fwhat_fits (dCons (dVar 0) (dCons (dVar 1) dNil)))) Bsplit_1
noncomputable def Bsplit : DSt -> Option DFlow := (dSeq (dSet 3 (dOwnCall 2 Fwhat_fits (dCons (dVar 0) (dCons (dVar 1) dNil)))) (dSeq (dDrop (dOwnCall 2 Fchecked_code (dCons (dVar 0) (dCons (dVar 2) dNil)))) (dRet (dSortI (dOwnCall 2 Fcounts_by_answer (dCons (dVar 3) (dCons (dVar 2) dNil)))))))
theorem Bsplit_tl : Bsplit = Bsplit_0 := rfl
noncomputable def Fsplit : List PyData -> Option PyData := runD 4 Bsplit
noncomputable def Bfound_or_clash_1 : DSt -> Option DFlow := (dRet (dVar 0))
noncomputable def Bfound_or_clash_0 : DSt -> Option DFlow := dSeq (dIf (dNotT (dTru (dVar 0))) dNever dNext) Bfound_or_clash_1
noncomputable def Bfound_or_clash : DSt -> Option DFlow := (dSeq (dIf (dNotT (dTru (dVar 0))) dNever dNext) (dRet (dVar 0)))
theorem Bfound_or_clash_tl : Bfound_or_clash = Bfound_or_clash_0 := rfl
noncomputable def Ffound_or_clash : List PyData -> Option PyData := runD 1 Bfound_or_clash
noncomputable def Xfound_or_clash : List PyData -> Bool := runX 1 (xIf (dNotT (dTru (dVar 0))) (xRaise (dCons (dC (.str (PySem.Str.ofString "no code fits these asks"))) dNil)))
noncomputable def Bfoe_answer_2 : DSt -> Option DFlow := (dRet (d2 ixD (dVar 4) (dC (.int 0))))
noncomputable def Bfoe_answer_1 : DSt -> Option DFlow := dSeq (dSet 4 (dMinK (dVar 3) [] (dTup (dCons (dNeg (d2 ixD (dVar 0) (dC (.int 1)))) (dCons (d2 ixD (dVar 0) (dC (.int 0))) dNil))))) Bfoe_answer_2
noncomputable def Bfoe_answer_0 : DSt -> Option DFlow := dSeq (dSet 3 (dOwnCall 1 Ffound_or_clash (dCons (dOwnCall 3 Fsplit (dCons (dVar 0) (dCons (dVar 1) (dCons (dVar 2) dNil)))) dNil))) Bfoe_answer_1
noncomputable def Bfoe_answer : DSt -> Option DFlow := (dSeq (dSet 3 (dOwnCall 1 Ffound_or_clash (dCons (dOwnCall 3 Fsplit (dCons (dVar 0) (dCons (dVar 1) (dCons (dVar 2) dNil)))) dNil))) (dSeq (dSet 4 (dMinK (dVar 3) [] (dTup (dCons (dNeg (d2 ixD (dVar 0) (dC (.int 1)))) (dCons (d2 ixD (dVar 0) (dC (.int 0))) dNil))))) (dRet (d2 ixD (dVar 4) (dC (.int 0))))))
theorem Bfoe_answer_tl : Bfoe_answer = Bfoe_answer_0 := rfl
noncomputable def Ffoe_answer : List PyData -> Option PyData := runD 5 Bfoe_answer
noncomputable def Xfoe_answer : List PyData -> Bool := runX 5 (xCall 1 Xfound_or_clash (dCons (dOwnCall 3 Fsplit (dCons (dVar 0) (dCons (dVar 1) (dCons (dVar 2) dNil)))) dNil))
noncomputable def F_law_told : List PyData -> Option PyData := toldD Ffoe_answer Xfoe_answer
noncomputable def B_law_codes_2 : DSt -> Option DFlow := (dRet (dVar 1))
noncomputable def B_law_codes_1 : DSt -> Option DFlow := dSeq (dFor (dRng1 (dCons (d2 ixD (dVar 0) (dC (.int 0))) dNil)) (gN 2) (dSeq (dSet 3 (dOwn (dLstO dNil))) (dSeq (dFor (dIter (dVar 1)) (gN 4) (dSet 3 (d2 addD (dVar 3) (dOwn (dCompO 1 [("_law_code_here", 4)] (dRng1 (dCons (d2 ixD (dVar 0) (dC (.int 1))) dNil)) (gN 0) dYes (d2 addD (dVar 1) (dTup (dCons (dVar 0) dNil)))))))) (dSet 1 (dVar 3))))) B_law_codes_2
noncomputable def B_law_codes_0 : DSt -> Option DFlow := dSeq (dSet 1 (dOwn (dLstO (dCons (dTup dNil) dNil)))) B_law_codes_1
noncomputable def B_law_codes : DSt -> Option DFlow := (dSeq (dSet 1 (dOwn (dLstO (dCons (dTup dNil) dNil)))) (dSeq (dFor (dRng1 (dCons (d2 ixD (dVar 0) (dC (.int 0))) dNil)) (gN 2) (dSeq (dSet 3 (dOwn (dLstO dNil))) (dSeq (dFor (dIter (dVar 1)) (gN 4) (dSet 3 (d2 addD (dVar 3) (dOwn (dCompO 1 [("_law_code_here", 4)] (dRng1 (dCons (d2 ixD (dVar 0) (dC (.int 1))) dNil)) (gN 0) dYes (d2 addD (dVar 1) (dTup (dCons (dVar 0) dNil)))))))) (dSet 1 (dVar 3))))) (dRet (dVar 1))))
theorem B_law_codes_tl : B_law_codes = B_law_codes_0 := rfl
noncomputable def F_law_codes : List PyData -> Option PyData := runD 5 B_law_codes
noncomputable def B_law_left_0 : DSt -> Option DFlow := (dRet (dOwn (dCompO 1 [("_law_asks_here", 1)] (dIter (dOwnCall 1 F_law_codes (dCons (dVar 0) dNil))) (gN 0) (dNotT (dTru (dOwn (dCompO 1 [("_law_code_here", 0)] (dIter (dVar 1)) (gN 0) (dB (d2 neD (dOwnCall 2 F_law_answer (dCons (dVar 1) (dCons (d2 ixD (dVar 0) (dC (.int 0))) dNil))) (d2 ixD (dVar 0) (dC (.int 1))))) (dVar 0))))) (dVar 0))))
noncomputable def B_law_left : DSt -> Option DFlow := (dRet (dOwn (dCompO 1 [("_law_asks_here", 1)] (dIter (dOwnCall 1 F_law_codes (dCons (dVar 0) dNil))) (gN 0) (dNotT (dTru (dOwn (dCompO 1 [("_law_code_here", 0)] (dIter (dVar 1)) (gN 0) (dB (d2 neD (dOwnCall 2 F_law_answer (dCons (dVar 1) (dCons (d2 ixD (dVar 0) (dC (.int 0))) dNil))) (d2 ixD (dVar 0) (dC (.int 1))))) (dVar 0))))) (dVar 0))))
theorem B_law_left_tl : B_law_left = B_law_left_0 := rfl
noncomputable def F_law_left : List PyData -> Option PyData := runD 2 B_law_left
noncomputable def Blaw_9 : DSt -> Option DFlow := (dRet (d2 eqD (dVar 6) (d2 ixD (dOwn (dCompO 2 [("_law_most", 7)] (dIter (dVar 5)) (gT 2 (gC (gN 0) (gC (gN 1) gZ))) (dB (d2 eqD (dVar 1) (dVar 2))) (dVar 0))) (dC (.int 0)))))
noncomputable def Blaw_8 : DSt -> Option DFlow := dSeq (dSet 7 (dCall maxC (dCons (dOwn (dCompO 2 [] (dIter (dVar 5)) (gT 2 (gC (gN 0) (gC (gN 1) gZ))) dYes (dVar 1))) dNil))) Blaw_9
noncomputable def Blaw_7 : DSt -> Option DFlow := dSeq (dIf (dB (d2 eqE (dVar 4) (dC (.dict [])))) (dRet (d2 eqD (dVar 6) (dOwn (dLstO (dCons (dC (.bool true)) (dCons (dC (.bool true)) dNil)))))) dNext) Blaw_8
noncomputable def Blaw_6 : DSt -> Option DFlow := dSeq (dSet 6 (dOwnCall 3 F_law_told (dCons (dVar 1) (dCons (dVar 2) (dCons (dVar 3) dNil))))) Blaw_7
noncomputable def Blaw_5 : DSt -> Option DFlow := dSeq (dIf (dOrT (dNotT (dTru (dIsi "list" (dVar 5)))) (dB (d2 neD (dVar 5) (dOwn (dCompO 1 [("_law_parts_here", 4)] (dIter (dCall sortC (dCons (dVar 4) dNil))) (gN 0) dYes (dTup (dCons (dVar 0) (dCons (dCall lenC (dCons (d2 dgetD (dVar 1) (dVar 0)) dNil)) dNil)))))))) (dRet (dC (.bool false))) dNext) Blaw_6
noncomputable def Blaw_4 : DSt -> Option DFlow := dSeq (dSet 5 (dOwnCall 3 Fsplit (dCons (dVar 1) (dCons (dVar 2) (dCons (dVar 3) dNil))))) Blaw_5
noncomputable def Blaw_3 : DSt -> Option DFlow := dSeq (dSet 4 (dOwnCall 2 F_law_parts (dCons (dOwnCall 2 F_law_left (dCons (dVar 1) (dCons (dVar 2) dNil))) (dCons (dVar 3) dNil)))) Blaw_4
noncomputable def Blaw_2 : DSt -> Option DFlow := dSeq (dSet 3 (dOwnCall 2 F_law_code (dCons (dVar 1) (dCons (dOwnCall 2 F_law_cell (dCons (dVar 0) (dCons (dC (.int 0)) dNil))) dNil)))) Blaw_3
noncomputable def Blaw_1 : DSt -> Option DFlow := dSeq (dSet 2 (dOwn (dOwnCallO 3 F_law_asks (dCons (dVar 0) (dCons (dC (.int 2)) (dCons (dVar 1) dNil)))))) Blaw_2
noncomputable def Blaw_0 : DSt -> Option DFlow := dSeq (dSet 1 (dOwnCall 2 F_law_game (dCons (dVar 0) (dCons (dC (.int 1)) dNil)))) Blaw_1
noncomputable def Blaw : DSt -> Option DFlow := (dSeq (dSet 1 (dOwnCall 2 F_law_game (dCons (dVar 0) (dCons (dC (.int 1)) dNil)))) (dSeq (dSet 2 (dOwn (dOwnCallO 3 F_law_asks (dCons (dVar 0) (dCons (dC (.int 2)) (dCons (dVar 1) dNil)))))) (dSeq (dSet 3 (dOwnCall 2 F_law_code (dCons (dVar 1) (dCons (dOwnCall 2 F_law_cell (dCons (dVar 0) (dCons (dC (.int 0)) dNil))) dNil)))) (dSeq (dSet 4 (dOwnCall 2 F_law_parts (dCons (dOwnCall 2 F_law_left (dCons (dVar 1) (dCons (dVar 2) dNil))) (dCons (dVar 3) dNil)))) (dSeq (dSet 5 (dOwnCall 3 Fsplit (dCons (dVar 1) (dCons (dVar 2) (dCons (dVar 3) dNil))))) (dSeq (dIf (dOrT (dNotT (dTru (dIsi "list" (dVar 5)))) (dB (d2 neD (dVar 5) (dOwn (dCompO 1 [("_law_parts_here", 4)] (dIter (dCall sortC (dCons (dVar 4) dNil))) (gN 0) dYes (dTup (dCons (dVar 0) (dCons (dCall lenC (dCons (d2 dgetD (dVar 1) (dVar 0)) dNil)) dNil)))))))) (dRet (dC (.bool false))) dNext) (dSeq (dSet 6 (dOwnCall 3 F_law_told (dCons (dVar 1) (dCons (dVar 2) (dCons (dVar 3) dNil))))) (dSeq (dIf (dB (d2 eqE (dVar 4) (dC (.dict [])))) (dRet (d2 eqD (dVar 6) (dOwn (dLstO (dCons (dC (.bool true)) (dCons (dC (.bool true)) dNil)))))) dNext) (dSeq (dSet 7 (dCall maxC (dCons (dOwn (dCompO 2 [] (dIter (dVar 5)) (gT 2 (gC (gN 0) (gC (gN 1) gZ))) dYes (dVar 1))) dNil))) (dRet (d2 eqD (dVar 6) (d2 ixD (dOwn (dCompO 2 [("_law_most", 7)] (dIter (dVar 5)) (gT 2 (gC (gN 0) (gC (gN 1) gZ))) (dB (d2 eqD (dVar 1) (dVar 2))) (dVar 0))) (dC (.int 0))))))))))))))
theorem Blaw_tl : Blaw = Blaw_0 := rfl
noncomputable def Flaw : List PyData -> Option PyData := runD 8 Blaw
noncomputable def games : List (Int × Int) := [(2, 3), (3, 2), (3, 3), (2, 4), (4, 2), (1, 5), (2, 5), (3, 4), (4, 3)]
theorem games_or {p c : Int} (h : (p, c) ∈ games) : (p = 2 /\ c = 3) \/ (p = 3 /\ c = 2) \/ (p = 3 /\ c = 3) \/ (p = 2 /\ c = 4) \/ (p = 4 /\ c = 2) \/ (p = 1 /\ c = 5) \/ (p = 2 /\ c = 5) \/ (p = 3 /\ c = 4) \/ (p = 4 /\ c = 3) := by
 simpa [games] using h
theorem games_b {p c : Int} (h : (p, c) ∈ games) : 1 <= p /\ p <= 4 /\ 2 <= c /\ c <= 5 := by
 rcases games_or h with ⟨rfl, rfl⟩ | ⟨rfl, rfl⟩ | ⟨rfl, rfl⟩ | ⟨rfl, rfl⟩ | ⟨rfl, rfl⟩ | ⟨rfl, rfl⟩ | ⟨rfl, rfl⟩ | ⟨rfl, rfl⟩ | ⟨rfl, rfl⟩ <;> decide
noncomputable def mixI (x p m : Int) : Int := x * 48271 % p % m
theorem cMul_right (x : Int) {y : Int} (h : -1000000000000 <= y /\ y <= 1000000000000) : cMul x y = true := by
 unfold cMul
 rw [decide_eq_true h.1, decide_eq_true h.2]
 simp
theorem cMul_left {x : Int} (y : Int) (h : -1000000000000 <= x /\ x <= 1000000000000) : cMul x y = true := by
 unfold cMul
 rw [decide_eq_true h.1, decide_eq_true h.2]
 simp
theorem mix_ok (x : Int) {p m : Int} (hp : 0 < p) (hm : 0 < m) : F_law_mix [.int x, .int p, .int m] = some (.int (mixI x p m)) := by
 have c1 : cMul x 48271 = true := cMul_right x (by omega)
 have c2 : cMod (x * 48271) p = true := decide_eq_true hp
 have c3 : cMod (x * 48271 % p) m = true := decide_eq_true hm
 simp only [F_law_mix, B_law_mix_tl, B_law_mix_0, runD, stD, dRet, dVar, dC, d2, resOf, mul_ii, mod_ii, zI, zL, zC, zH, Q5, zA, zB, List.replicate, zD, zG, Nat.reduceAdd, Nat.reduceSub, ↓reduceIte, c1, c2, c3, mixI]
theorem mixI_b (x : Int) {p m : Int} (hm : 0 < m) : 0 <= mixI x p m /\ mixI x p m < m := ⟨Int.emod_nonneg _ (by omega), Int.emod_lt_of_pos _ hm⟩
noncomputable def cellI (ns : List Int) (k : Nat) : Int := ns.getD k 0
theorem cell_ok (ns : List Int) (k : Nat) : F_law_cell [scr ns, .int (k : Nat)] = some (.int (cellI ns k)) := by
 by_cases h : k < ns.length
 · have d : decide ((k : Int) < (ns.length : Nat)) = true := decide_eq_true (by omega)
   simp only [F_law_cell, B_law_cell_tl, B_law_cell_0, B_law_cell_1, runD, stD, dSeq, dIf, dRet, dVar, dC, d2, dCall, dNil, dCons, dB, dNext, resOf, lenC, lt_ii, zI, zL, zC, zH, Q5, zA, zB, List.replicate, zD, zG, Nat.reduceAdd, Nat.reduceSub, ↓reduceIte, lenD_scr, d, ixD_scr, atI_nat' h, cellI]
   rw [gDq, gEq h]
   rfl
 · have d : decide ((k : Int) < (ns.length : Nat)) = false := decide_eq_false (by omega)
   simp only [F_law_cell, B_law_cell_tl, B_law_cell_0, B_law_cell_1, runD, stD, dSeq, dIf, dRet, dVar, dC, d2, dCall, dNil, dCons, dB, dNext, resOf, lenC, lt_ii, zI, zL, zC, zH, Q5, zA, zB, List.replicate, zD, zG, Nat.reduceAdd, Nat.reduceSub, ↓reduceIte, zN, lenD_scr, d, cellI]
   rw [gDq, List.getElem?_eq_none (by omega)]
   rfl
theorem nine {m : Int} (h : 0 <= m /\ m < 9) : m = 0 \/ m = 1 \/ m = 2 \/ m = 3 \/ m = 4 \/ m = 5 \/ m = 6 \/ m = 7 \/ m = 8 := by
 have h1 : m.toNat < 9 := by omega
 rw [show m = (m.toNat : Int) by omega]
 generalize m.toNat = n at h1
 revert n
 decide
noncomputable def gamesD : List PyData := [tupI [2, 3], tupI [3, 2], tupI [3, 3], tupI [2, 4], tupI [4, 2], tupI [1, 5], tupI [2, 5], tupI [3, 4], tupI [4, 3], tupI [5, 2], tupI [2, 8], tupI [1, 1], tupI [2, 2]]
theorem lit_le (n : Nat) (h : n <= 1000 := by decide) : n <= LIM := Qb h (by decide)
theorem game_ix (ns : List Int) (hl : ns.length <= 63) (k : Nat) : F_law_game [scr ns, .int (k : Nat)] = atI gamesD (mixI (cellI ns k) 9973 9) := by
 have d : decide ((63 : Int) < (ns.length : Nat)) = false := decide_eq_false (by omega)
 have l2 : (2 : Nat) <= LIM := lit_le 2
 have l13 : (13 : Nat) <= LIM := lit_le 13
 simp only [F_law_game, B_law_game_tl, B_law_game_0, B_law_game_1, B_law_game_2, B_law_game_3, dLits,  runD, stD, dSeq, dIf, dSet, dRet, dVar, dC, d2, dCall, dOwnCall, dNil, dCons, dLstO, dOwn, dB, dNext, lenC, gt_ii, zI, zL, zC, zH, Q3, Q9, zA, zB, zE, zF, List.replicate, zD, zG, Nat.reduceAdd, Nat.reduceSub, ↓reduceIte, zN, l13, lenD_scr, d, cell_ok, mix_ok _ (show (0 : Int) < 9973 by decide) (show (0 : Int) < 9 by decide), ixD]
 generalize mixI (cellI ns k) 9973 9 = m
 show ((atI gamesD m).map DFlow.rt).bind resOf = _
 cases atI gamesD m <;> rfl
theorem game_ok (ns : List Int) (hl : ns.length <= 63) (k : Nat) : ∃ p c, F_law_game [scr ns, .int (k : Nat)] = some (tupI [p, c]) /\ (p, c) ∈ games := by
 rw [game_ix ns hl k]
 rcases nine (mixI_b (cellI ns k) (p := 9973) (show (0 : Int) < 9 by decide)) with h | h | h | h | h | h | h | h | h <;> rw [h]
 · exact ⟨2, 3, rfl, by decide⟩
 · exact ⟨3, 2, rfl, by decide⟩
 · exact ⟨3, 3, rfl, by decide⟩
 · exact ⟨2, 4, rfl, by decide⟩
 · exact ⟨4, 2, rfl, by decide⟩
 · exact ⟨1, 5, rfl, by decide⟩
 · exact ⟨2, 5, rfl, by decide⟩
 · exact ⟨3, 4, rfl, by decide⟩
 · exact ⟨4, 3, rfl, by decide⟩
structure Code (p c : Int) (a : List Int) : Prop where
 len : (a.length : Int) = p
 all : ∀ n ∈ a, 0 <= n /\ n <= c - 1
noncomputable def codeI (p c x : Int) : List Int := (List.range p.toNat).map λ i : Nat => mixI (x + 31 * (i : Int) * (i : Int) + 7 * (i : Int)) 9967 c
theorem codeI_code {p c : Int} (h : (p, c) ∈ games) (x : Int) : Code p c (codeI p c x) := by
 have b := games_b h
 refine ⟨by simp [codeI]; omega, λ n hn => ?_⟩
 obtain ⟨i, _, rfl⟩ := Qc.mp hn
 have := mixI_b (x + 31 * (i : Int) * (i : Int) + 7 * (i : Int)) (p := 9967) (m := c) (by omega)
 omega
theorem code_ok {p c : Int} (h : (p, c) ∈ games) (x : Int) : F_law_code [tupI [p, c], .int x] = some (tupI (codeI p c x)) := by
 have b := games_b h
 have m9 : ∀ y, F_law_mix [.int y, .int 9967, .int c] = some (.int (mixI y 9967 c)) := λ y => mix_ok y (by decide) (by omega)
 have sm : smallI p = true := by
  unfold smallI
  rw [decide_eq_true (show -1000000000 <= p by omega), decide_eq_true (show p <= 1000000000 by omega)]; rfl
 have len : ((List.range p.toNat).map λ k : Nat => PyData.int (0 + (k : Int))).length = p.toNat := by simp
 have i0 : ixD (.tuple [.int p, .int c]) (.int 0) = some (.int p) := rfl
 have i1 : ixD (.tuple [.int p, .int c]) (.int 1) = some (.int c) := rfl
 obtain ⟨δ', e1, v, e2⟩ := loopD_of (fg := (gN 3)) (fb := (dAppend 2 (dOwnCall 3 F_law_mix (dCons (d2 addD (d2 addD (dVar 1) (d2 mulI (d2 mulI (dC (.int 31)) (dVar 3)) (dVar 3))) (d2 mulI (dC (.int 7)) (dVar 3))) (dCons (dC (.int 9967)) (dCons (d2 ixD (dVar 0) (dC (.int 1))) dNil))))))
  (ds := rangeD 0 p.toNat) (δ := [some (.fz (.tuple [.int p, .int c])), some (.fz (.int x)), some (.ow []), none])
  (λ i δ => ∃ v, δ = [some (.fz (.tuple [.int p, .int c])), some (.fz (.int x)), some (.ow (((List.range i).map λ i : Nat => mixI (x + 31 * (i : Int) * (i : Int) + 7 * (i : Int)) 9967 c).map PyData.int)), v]) ⟨none, rfl⟩ (by
   rintro i hi δ ⟨v, rfl⟩
   have hi' : i < p.toNat := by simpa [rangeD] using hi
   have ei : (rangeD 0 p.toNat)[i] = .int (i : Nat) := by simp [rangeD]
   have q1 : cMul 31 (i : Int) = true := cMul_left _ (by omega)
   have q2 : cMul (31 * (i : Int)) (i : Int) = true := cMul_right _ (by omega)
   have q3 : cMul 7 (i : Int) = true := cMul_left _ (by omega)
   have q4 : (((List.range i).map λ i : Nat => mixI (x + 31 * (i : Int) * (i : Int) + 7 * (i : Int)) 9967 c).map PyData.int).length < LIM := by
    rw [zJ, zJ, Q20]
    exact nLl (show i < 1000 by omega) (by decide)
   refine ⟨_, [some (.fz (.tuple [.int p, .int c])), some (.fz (.int x)), some (.ow (((List.range (i + 1)).map λ i : Nat => mixI (x + 31 * (i : Int) * (i : Int) + 7 * (i : Int)) 9967 c).map PyData.int)), some (.fz (.int (i : Nat)))], rfl, ?_, _, rfl⟩
   rw [ei]
   simp only [dAppend, dVar, dC, d2, dOwnCall, dNil, dCons, mul_ii, add_ii, zC, zH, zA, zB, zE, zF, zD, Nat.reduceAdd, ↓reduceIte, q1, q2, q3, q4, i1, m9]
   rw [List.range_succ, Q1c, Q1c]
   rfl)
 have len2 : (rangeD 0 p.toNat).length = p.toNat := by simp [rangeD]
 rw [len2] at e2
 subst e2
 have z : (0 : Nat) <= LIM := zU _
 simp only [F_law_code, B_law_code_tl, B_law_code_0, B_law_code_1, B_law_code_2, tupI, runD, stD, dSeq, dSetO, dRet, dFrz, dFor, dVar, dC, d2, dCall, dNil, dCons, dLstO, dRng1, DL.frz, resOf, tupC, zI, zL, zC, zH, Q3, Q9, zA, zB, zE, zF, List.replicate, zD, zG, Nat.reduceAdd, Nat.reduceSub, ↓reduceIte, z, i0, sm, e1]
 rfl
theorem intE (b : List Int) {i : Nat} (h : i < b.length) : (b.map PyData.int)[i]? = some (.int b[i]) := by rw [zK, gEq h]; rfl
theorem ixE (a : List Int) {i : Nat} (h : i < a.length) : ixD (.tuple (a.map PyData.int)) (.int (i : Nat)) = some (.int a[i]) := by
 show atI (a.map PyData.int) (i : Int) = _
 rw [atI_map, atI_nat' h]; rfl
theorem answer_of_ok {a b : List Int} (l : a.length = b.length) (lim : a.length <= 100) : Fanswer_of [tupI a, tupI b] = some (tupI (GC.ans a b)) := by
 obtain ⟨δ', e1, v1, v2, e2⟩ := loopD_of (fg := (gT 2 (gC (gN 5) (gC (gN 6) gZ)))) (fb := (dSeq (dIf (dB (d2 eqD (d2 ixD (dVar 0) (dVar 5)) (dVar 6))) (dAug 2 iaddD (dC (.int 1))) dNext) (dIf (dB (dInO false 4 (dVar 6))) (dSeq (dRemove 4 (dVar 6)) (dAug 3 iaddD (dC (.int 1)))) dNext))) (ds := enumD (b.map PyData.int))
  (δ := [some (.fz (.tuple (a.map PyData.int))), some (.fz (.tuple (b.map PyData.int))), some (.fz (.int 0)), some (.fz (.int 0)), some (.ow (a.map PyData.int)), none, none])
  (λ i δ => ∃ v1 v2, δ = [some (.fz (.tuple (a.map PyData.int))), some (.fz (.tuple (b.map PyData.int))), some (.fz (.int (GC.rgt (a.take i) (b.take i) : Nat))), some (.fz (.int (GC.inter a (b.take i) : Nat))), some (.ow ((GC.left a (b.take i)).map PyData.int)), v1, v2]) ⟨none, none, rfl⟩ (by
   rintro i hi δ ⟨v1, v2, rfl⟩
   have hi' : i < b.length := by simpa [enumD] using hi
   have hia : i < a.length := by omega
   have ed : (enumD (b.map PyData.int))[i] = .tuple [.int (i : Nat), .int b[i]] := by
    have := gEq hi
    obtain ⟨e, h1, h2⟩ := enumD_get this
    rw [intE b hi'] at h1
    cases h1
    exact h2
   have et : (a.take i).length = (b.take i).length := by rw [Q24, Q24]; omega
   have er : GC.rgt (a.take (i + 1)) (b.take (i + 1)) = GC.rgt (a.take i) (b.take i) + if a[i] = b[i] then 1 else 0 := by rw [GC.take_snoc hia, GC.take_snoc hi', GC.rgt_snoc _ _ _ _ et]
   have ei : GC.inter a (b.take (i + 1)) = GC.inter a (b.take i) + if b[i] ∈ GC.left a (b.take i) then 1 else 0 := by rw [GC.take_snoc hi', GC.inter_snoc]
   have eL : GC.left a (b.take (i + 1)) = if b[i] ∈ GC.left a (b.take i) then (GC.left a (b.take i)).erase b[i] else GC.left a (b.take i) := by rw [GC.take_snoc hi', GC.left_snoc]
   rw [ed]
   refine ⟨_, _, rfl, ?_, some (.fz (.int (i : Nat))), some (.fz (.int b[i])), rfl⟩
   rw [er, ei, eL]
   by_cases c1 : a[i] = b[i] <;> by_cases c2 : b[i] ∈ GC.left a (b.take i)
   · simp only [dSeq, dIf, dAug, dRemove, dVar, dC, d2, dB, dNext, dInO, iadd_ii, zA, zB, zE, zF, zD, zG, ↓reduceIte, zN, ixE a hia, eqD_int, intsD_map, if_pos c1, if_pos c2, decide_eq_true c1, decide_eq_true c2]
     rfl
   · simp only [dSeq, dIf, dAug, dRemove, dVar, dC, d2, dB, dNext, dInO, iadd_ii, zA, zB, zE, zF, zD, Option.bind_none, zG, ↓reduceIte, zN, ixE a hia, eqD_int, intsD_map, if_pos c1, if_neg c2, decide_eq_true c1, decide_eq_false c2]
     rfl
   · simp only [dSeq, dIf, dAug, dRemove, dVar, dC, d2, dB, dNext, dInO, iadd_ii, zA, zB, zE, zF, zD, zG, ↓reduceIte, zN, ixE a hia, eqD_int, intsD_map, if_neg c1, if_pos c2, decide_eq_false c1, decide_eq_true c2]
     rfl
   · simp only [dSeq, dIf, dAug, dRemove, dVar, dC, d2, dB, dNext, dInO, iadd_ii, zA, zB, zE, zF, zD, Option.bind_none, zG, ↓reduceIte, zN, ixE a hia, eqD_int, intsD_map, if_neg c1, if_neg c2, decide_eq_false c1, decide_eq_false c2]
     rfl)
 have len2 : (enumD (b.map PyData.int)).length = b.length := by simp [enumD]
 have e0 : a.take b.length = a := by rw [<- l, Q23]
 rw [len2, Q23, e0] at e2
 subst e2
 have z : (2 : Nat) <= LIM := lit_le 2
 simp only [Fanswer_of, Banswer_of_tl, Banswer_of_0, Banswer_of_1, Banswer_of_2, Banswer_of_3, Banswer_of_4, tupI, runD, stD, dSeq, dSet, dSetO, dRet, dFor, dVar, dC, d2, dNil, dCons, dTup, seqD, dEn, resOf, dListO, sub_ii, zI, zL, zC, zH, Q3, Q9, zA, zB, zE, zF, List.replicate, zD, zG, Nat.reduceAdd, Nat.reduceSub, ↓reduceIte, z, e1]
 rfl
theorem law_answer_ok {a b : List Int} (l : a.length = b.length) (lim : a.length <= 100) : F_law_answer [tupI a, tupI b] = some (tupI (GC.lawAns a b)) := by
 obtain ⟨δ1, e1, v1, v2, e2⟩ := loopD_of (fg := (gT 2 (gC (gN 5) (gC (gN 6) gZ)))) (fb := (dIf (dB (d2 eqD (dVar 5) (dVar 6))) (dSet 2 (d2 addD (dVar 2) (dC (.int 1)))) (dSeq (dAppend 3 (dVar 5)) (dAppend 4 (dVar 6))))) (ds := zipD (a.map PyData.int) (b.map PyData.int))
  (δ := [some (.fz (.tuple (a.map PyData.int))), some (.fz (.tuple (b.map PyData.int))), some (.fz (.int 0)), some (.ow []), some (.ow []), none, none, none, none])
  (λ i δ => ∃ v1 v2, δ = [some (.fz (.tuple (a.map PyData.int))), some (.fz (.tuple (b.map PyData.int))), some (.fz (.int (GC.rgt (a.take i) (b.take i) : Nat))), some (.ow ((GC.mine (a.take i) (b.take i)).map PyData.int)), some (.ow ((GC.thrs (a.take i) (b.take i)).map PyData.int)), v1, v2, none, none]) ⟨none, none, rfl⟩ (by
   rintro i hi δ ⟨v1, v2, rfl⟩
   have hi' : i < b.length := by simpa [zipD, l] using hi
   have hia : i < a.length := by omega
   have ed : (zipD (a.map PyData.int) (b.map PyData.int))[i] = .tuple [.int a[i], .int b[i]] := by
    have := gEq hi
    obtain ⟨x, y, h1, h2, h3⟩ := zipD_get this
    rw [intE a hia] at h1
    rw [intE b hi'] at h2
    cases h1
    cases h2
    exact h3
   have et : (a.take i).length = (b.take i).length := by rw [Q24, Q24]; omega
   have er : GC.rgt (a.take (i + 1)) (b.take (i + 1)) = GC.rgt (a.take i) (b.take i) + if a[i] = b[i] then 1 else 0 := by rw [GC.take_snoc hia, GC.take_snoc hi', GC.rgt_snoc _ _ _ _ et]
   have em : GC.mine (a.take (i + 1)) (b.take (i + 1)) = GC.mine (a.take i) (b.take i) ++ if a[i] = b[i] then [] else [a[i]] := by rw [GC.take_snoc hia, GC.take_snoc hi', GC.mine_snoc _ _ _ _ et]
   have eT : GC.thrs (a.take (i + 1)) (b.take (i + 1)) = GC.thrs (a.take i) (b.take i) ++ if a[i] = b[i] then [] else [b[i]] := by rw [GC.take_snoc hia, GC.take_snoc hi', GC.thrs_snoc _ _ _ _ et]
   have ml := GC.mine_len (a.take i) (b.take i) et
   have tl := GC.thrs_len (a.take i) (b.take i) et
   have al : (a.take i).length <= 100 := by rw [Q24]; omega
   have q1 : ((GC.mine (a.take i) (b.take i)).map PyData.int).length < LIM := by rw [zJ]; exact nLl (show _ < 1000 by omega) (by decide)
   have q2 : ((GC.thrs (a.take i) (b.take i)).map PyData.int).length < LIM := by rw [zJ]; exact nLl (show _ < 1000 by omega) (by decide)
   rw [ed]
   refine ⟨_, _, rfl, ?_, some (.fz (.int a[i])), some (.fz (.int b[i])), rfl⟩
   rw [er, em, eT]
   by_cases c1 : a[i] = b[i]
   · simp only [dSeq, dIf, dSet, dAppend, dVar, dC, d2, dB, add_ii, Q5, zA, zB, zE, zF, zD, zG, ↓reduceIte, eqD_int, if_pos c1, decide_eq_true c1]
     rfl
   · simp only [dSeq, dIf, dSet, dAppend, dVar, dC, d2, dB, add_ii, zA, zB, zE, zF, zD, zG, ↓reduceIte, zN, eqD_int, if_neg c1, decide_eq_false c1, q1, q2]
     rw [Q1c, Q1c]
     rfl)
 have len2 : (zipD (a.map PyData.int) (b.map PyData.int)).length = b.length := by simp [zipD, l]
 have e0 : a.take b.length = a := by rw [<- l, Q23]
 rw [len2, Q23, e0] at e2
 subst e2
 obtain ⟨δ2, f1, w1, f2⟩ := loopD_of (fg := (gN 8)) (fb := (dIf (dB (dInO false 4 (dVar 8))) (dSeq (dRemove 4 (dVar 8)) (dSet 7 (d2 addD (dVar 7) (dC (.int 1))))) dNext)) (ds := (GC.mine a b).map PyData.int)
  (δ := [some (.fz (.tuple (a.map PyData.int))), some (.fz (.tuple (b.map PyData.int))), some (.fz (.int (GC.rgt a b : Nat))), some (.fz (.list ((GC.mine a b).map PyData.int))), some (.ow ((GC.thrs a b).map PyData.int)), v1, v2, some (.fz (.int 0)), none])
  (λ i δ => ∃ w1, δ = [some (.fz (.tuple (a.map PyData.int))), some (.fz (.tuple (b.map PyData.int))), some (.fz (.int (GC.rgt a b : Nat))), some (.fz (.list ((GC.mine a b).map PyData.int))), some (.ow ((GC.left (GC.thrs a b) ((GC.mine a b).take i)).map PyData.int)), v1, v2, some (.fz (.int (GC.inter (GC.thrs a b) ((GC.mine a b).take i) : Nat))), w1]) ⟨none, rfl⟩ (by
   rintro i hi δ ⟨w1, rfl⟩
   have hi' : i < (GC.mine a b).length := by simpa using hi
   have ei : GC.inter (GC.thrs a b) ((GC.mine a b).take (i + 1)) = GC.inter (GC.thrs a b) ((GC.mine a b).take i) + if (GC.mine a b)[i] ∈ GC.left (GC.thrs a b) ((GC.mine a b).take i) then 1 else 0 := by rw [GC.take_snoc hi', GC.inter_snoc]
   have eL : GC.left (GC.thrs a b) ((GC.mine a b).take (i + 1)) = if (GC.mine a b)[i] ∈ GC.left (GC.thrs a b) ((GC.mine a b).take i) then (GC.left (GC.thrs a b) ((GC.mine a b).take i)).erase (GC.mine a b)[i] else GC.left (GC.thrs a b) ((GC.mine a b).take i) := by rw [GC.take_snoc hi', GC.left_snoc]
   have ed : ((GC.mine a b).map PyData.int)[i] = .int (GC.mine a b)[i] := by simp
   rw [ed]
   refine ⟨_, _, rfl, ?_, some (.fz (.int (GC.mine a b)[i])), rfl⟩
   rw [ei, eL]
   by_cases c2 : (GC.mine a b)[i] ∈ GC.left (GC.thrs a b) ((GC.mine a b).take i)
   · simp only [dSeq, dIf, dSet, dRemove, dVar, dC, d2, dB, dNext, dInO, add_ii, zA, zB, zE, zF, zD, zG, ↓reduceIte, zN, intsD_map, if_pos c2, decide_eq_true c2]
     rfl
   · simp only [dSeq, dIf, dSet, dRemove, dVar, dC, d2, dB, dNext, dInO, zA, zB, zE, zF, zD, Option.bind_none, ↓reduceIte, zN, intsD_map, if_neg c2, decide_eq_false c2]
     rfl)
 rw [zJ, Q23] at f2
 subst f2
 have z : (2 : Nat) <= LIM := lit_le 2
 have z0 : (0 : Nat) <= LIM := zU _
 have hl : (a.map PyData.int).length = (b.map PyData.int).length := by simp [l]
 simp only [F_law_answer, B_law_answer_tl, B_law_answer_0, B_law_answer_1, B_law_answer_2, B_law_answer_3, B_law_answer_4, B_law_answer_5, B_law_answer_6, tupI, runD, stD, dSeq, dSet, dSetO, dRet, dFrz, dFor, dVar, dC, dNil, dCons, dTup, dLstO, dIter, seqD, dZip, DL.frz, resOf, zI, zL, zC, zH, Q3, Q9, zA, zB, zE, zF, List.replicate, zD, zG, Nat.reduceAdd, Nat.reduceSub, ↓reduceIte, z, z0, hl, e1, f1]
 rfl
theorem is_num_ok (n lo hi : Int) : Fis_number_within [.int n, .int lo, .int hi] = some (.bool (decide (lo <= n) && decide (n <= hi))) := by
 by_cases h : lo <= n
 · simp only [Fis_number_within, Bis_number_within_tl, Bis_number_within_0, runD, stD, dRet, dVar, dB, dAndV, dNotV, resOf, dIsi, isi_ii, isi_ib, le_ii, dChain, zI, zL, zC, zH, Q5, zA, zB, List.replicate, zD, zG, Nat.reduceAdd, Nat.reduceSub, ↓reduceIte, Bool.not_false, Bool.true_and, decide_eq_true h]
 · simp only [Fis_number_within, Bis_number_within_tl, Bis_number_within_0, runD, stD, dRet, dVar, dB, dAndV, dNotV, resOf, dIsi, isi_ii, isi_ib, le_ii, dChain, zI, zL, zC, zH, Q5, zA, zB, List.replicate, zD, zG, Nat.reduceAdd, Nat.reduceSub, ↓reduceIte, Bool.not_false, Bool.false_and, decide_eq_false h]
theorem checked_game_ok {p c : Int} (h : (p, c) ∈ games) : Fchecked_game [tupI [p, c]] = some (tupI [p, c]) := by
 rcases games_or h with ⟨rfl, rfl⟩ | ⟨rfl, rfl⟩ | ⟨rfl, rfl⟩ | ⟨rfl, rfl⟩ | ⟨rfl, rfl⟩ | ⟨rfl, rfl⟩ | ⟨rfl, rfl⟩ | ⟨rfl, rfl⟩ | ⟨rfl, rfl⟩ <;> rfl
theorem is_code_ok {p c : Int} (h : (p, c) ∈ games) {a : List Int} (ca : Code p c a) : Fis_code [tupI [p, c], tupI a] = some (.bool true) := by
 have b := games_b h
 have i0 : ixD (.tuple [.int p, .int c]) (.int 0) = some (.int p) := rfl
 have i1 : ixD (.tuple [.int p, .int c]) (.int 1) = some (.int c) := rfl
 have e0 : decide (((a.map PyData.int).length : Int) = p) = true := decide_eq_true (by rw [zJ]; exact ca.len)
 have al := ca.len
 have l1 : (a.map PyData.int).length <= LIM := by rw [zJ]; exact Qb (show _ <= 1000 by omega) (by decide)
 have mm : (dCompO 1 [("game", 0)] (dIter (dVar 1)) (gN 0) dYes (dOwnCall 3 Fis_number_within (dCons (dVar 0) (dCons (dC (.int 0)) (dCons (d2 subD (d2 ixD (dVar 1) (dC (.int 1))) (dC (.int 1))) dNil))))) [some (.fz (.tuple [.int p, .int c])), some (.fz (.tuple (a.map PyData.int)))] = some ((a.map PyData.int).map λ _ => .bool true) := by
  refine dCompO_map _ rfl l1 λ d hd => ?_
  obtain ⟨n, hn, rfl⟩ := Qc.mp hd
  have q := ca.all n hn
  simp only [dVar, dC, d2, dOwnCall, dNil, dCons, st0D, dYes, gN, sub_ii, zI, zL, zC, zH, Q3, Q9, zA, zB, zE, List.replicate, zD, zG, Nat.reduceAdd, ↓reduceIte, Bool.and_true, i1, is_num_ok, decide_eq_true q.1, decide_eq_true q.2]
 have bs : boolsD ((a.map PyData.int).map λ _ => PyData.bool true) = some ((a.map PyData.int).map λ _ => true) := by
  rw [show ((a.map PyData.int).map λ _ => PyData.bool true) = ((a.map PyData.int).map λ _ => true).map PyData.bool by simp]
  exact boolsD_map _
 have al2 : ((a.map PyData.int).map λ _ => true).all id = true := by simp
 simp only [Fis_code, Bis_code_tl, Bis_code_0, Bis_code_1, tupI, runD, stD, dSeq, dIf, dRet, dVar, dC, d2, dCall, dNil, dCons, dOwn, dB, dTru, truD, dNotT, dOrT, dNext, resOf, dIsi, isi_tt, lenC, len_t, allC, zI, zL, zC, zH, Q5, zA, zB, List.replicate, zD, zG, Nat.reduceAdd, Nat.reduceSub, ↓reduceIte, Q1f, zN, i0, neD_int, e0, mm, bs, al2]
theorem checked_code_ok {p c : Int} (h : (p, c) ∈ games) {a : List Int} (ca : Code p c a) : Fchecked_code [tupI [p, c], tupI a] = some (tupI a) := by
 have q := is_code_ok h ca
 simp only [Fchecked_code, Bchecked_code_tl, Bchecked_code_0, Bchecked_code_1, runD, stD, dSeq, dIf, dRet, dVar, dOwnCall, dNil, dCons, dTru, truD, dNotT, dNext, dNever, resOf, zI, zL, zC, zH, Q5, zA, zB, List.replicate, zD, zG, Nat.reduceAdd, Nat.reduceSub, ↓reduceIte, Q1f, zN, q]
noncomputable def ext (c : Nat) (a : List Int) : List (List Int) := (List.range c).map λ k : Nat => a ++ [(k : Int)]
noncomputable def codesN (c : Nat) : Nat -> List (List Int)
 | 0 => [[]]
 | n + 1 => (codesN c n).flatMap (ext c)
noncomputable def codes (p c : Int) : List (List Int) := codesN c.toNat p.toNat
noncomputable def lstC (cs : List (List Int)) : PyData := .list (cs.map tupI)
theorem ext_len (c : Nat) (a : List Int) : (ext c a).length = c := by simp [ext]
theorem flat_len (c : Nat) : ∀ l : List (List Int), (l.flatMap (ext c)).length = l.length * c
 | [] => by simp
 | a :: r => by rw [List.flatMap_cons, zQ, ext_len, flat_len c r, zC, Nat.succ_mul]; omega
theorem codesN_len (c : Nat) : ∀ n, (codesN c n).length = c ^ n
 | 0 => rfl
 | n + 1 => by rw [codesN, flat_len, codesN_len c n, Nat.pow_succ]
theorem pow_small {c n : Nat} (hc : c <= 5) (hn : n <= 4) : c ^ n <= 625 := by
 refine Qb (Nat.pow_le_pow_left hc n) (Qb (Nat.pow_le_pow_right (by decide) hn) (by decide))
theorem codesN_mem (c : Nat) : ∀ n a, a ∈ codesN c n -> a.length = n /\ ∀ x ∈ a, 0 <= x /\ x < (c : Int)
 | 0, a, h => by
  have : a = [] := by simpa [codesN] using h
  subst this
  exact ⟨rfl, λ x hx => by cases hx⟩
 | n + 1, a, h => by
  obtain ⟨b, hb, ha⟩ := List.mem_flatMap.mp h
  obtain ⟨k, hk, rfl⟩ := Qc.mp ha
  have hk' : k < c := by simpa using hk
  obtain ⟨l, q⟩ := codesN_mem c n b hb
  refine ⟨by simp [l], λ x hx => ?_⟩
  rcases Q25.mp hx with z | z
  · exact q x z
  · have : x = (k : Int) := by simpa using z
    omega
theorem codes_code {p c : Int} (h : (p, c) ∈ games) {a : List Int} (ha : a ∈ codes p c) : Code p c a := by
 have b := games_b h
 obtain ⟨l, q⟩ := codesN_mem _ _ _ ha
 refine ⟨by omega, λ n hn => ?_⟩
 have := q n hn
 omega
theorem codes_len {p c : Int} (h : (p, c) ∈ games) : (codes p c).length <= 625 := by
 have b := games_b h
 unfold codes
 rw [codesN_len]
 exact pow_small (by omega) (by omega)
theorem lim625 {n : Nat} (h : n <= 1000) : n <= LIM := Qb h (by decide)
theorem add_one (a : List Int) (k : Int) (ha : a.length <= 100) : addD (tupI a) (.tuple [.int k]) = some (tupI (a ++ [k])) := by
 have q : (a.map PyData.int).length + [PyData.int k].length <= LIM := by rw [zJ]; exact lim625 (by simp; omega)
 unfold tupI
 rw [Q1c]
 simp only [addD, q, ↓reduceIte]
 rfl
theorem range_int (c : Nat) : rangeD 0 c = (List.range c).map λ k : Nat => PyData.int (k : Int) := by
 unfold rangeD
 apply Q26
 intro k _
 rw [Int.zero_add]
theorem comp_ext {nm : Str} {k : Nat} {c : Nat} {a : List Int} {fi : DSt -> Option (List PyData)} {δ : DSt} (hi : fi δ = some (rangeD 0 c)) (hc : c <= 100) (ha : a.length <= 100) (hk : δ[k]? = some (some (.fz (tupI a)))) :
 dCompO 1 [(nm, k)] fi (gN 0) dYes (d2 addD (dVar 1) (dTup (dCons (dVar 0) dNil))) δ = some ((ext c a).map tupI) := by
 rw [dCompO_map (λ d => match d with | .int k => tupI (a ++ [k]) | d => d) hi (by simp [rangeD]; exact lim625 (by omega)) (λ d hd => ?_)]
 · rw [range_int, zO, ext, zO]
   rfl
 · rw [range_int] at hd
   obtain ⟨m, _, rfl⟩ := Qc.mp hd
   have z : (1 : Nat) <= LIM := lit_le 1
   simp only [dVar, d2, dNil, dCons, dTup, st0D, dYes, gN, zI, zL, zC, zH, Q3, Q9, zA, zB, zE, List.replicate, zD, zG, Nat.reduceAdd, ↓reduceIte, hk, z, add_one a (m : Int) ha]
theorem rng_ok {c : Int} (h0 : 0 <= c) (h1 : c <= 1000) : smallI c = true := by
 unfold smallI
 rw [decide_eq_true (show -1000000000 <= c by omega), decide_eq_true (show c <= 1000000000 by omega)]; rfl
theorem take_flat {c : Nat} {l : List (List Int)} {j : Nat} (h : j < l.length) : (l.take (j + 1)).flatMap (ext c) = (l.take j).flatMap (ext c) ++ ext c l[j] := by
 rw [Q2b h, List.flatMap_append]
 simp
theorem all_codes_ok {p c : Int} (h : (p, c) ∈ games) : Fall_codes [tupI [p, c]] = some (lstC (codes p c)) := by
 have b := games_b h
 have i0 : ixD (.tuple [.int p, .int c]) (.int 0) = some (.int p) := rfl
 have i1 : ixD (.tuple [.int p, .int c]) (.int 1) = some (.int c) := rfl
 have hg : Fchecked_game [.tuple [.int p, .int c]] = some (.tuple [.int p, .int c]) := checked_game_ok h
 have sp := rng_ok (c := p) (by omega) (by omega)
 have sc := rng_ok (c := c) (by omega) (by omega)
 have z : (0 : Nat) <= LIM := zU _
 have z1 : (1 : Nat) <= LIM := lit_le 1
 have inner : ∀ (i : Nat), i < p.toNat -> ∀ v4 : Option Sl, ∃ w4, loopD ((gN 4)) ((dExtend 3 (dOwn (dCompO 1 [("code", 4)] (dRng1 (dCons (d2 ixD (dVar 0) (dC (.int 1))) dNil)) (gN 0) dYes (d2 addD (dVar 1) (dTup (dCons (dVar 0) dNil))))))) ((codesN c.toNat i).map tupI) [some (.fz (.tuple [.int p, .int c])), some (.fz (lstC (codesN c.toNat i))), some (.fz (.int (i : Nat))), some (.ow []), v4] =
  some (.nx [some (.fz (.tuple [.int p, .int c])), some (.fz (lstC (codesN c.toNat i))), some (.fz (.int (i : Nat))), some (.ow ((codesN c.toNat (i + 1)).map tupI)), w4]) := by
  intro i hi v4
  obtain ⟨δ', e1, w4, e2⟩ := loopD_of (fg := (gN 4)) (fb := (dExtend 3 (dOwn (dCompO 1 [("code", 4)] (dRng1 (dCons (d2 ixD (dVar 0) (dC (.int 1))) dNil)) (gN 0) dYes (d2 addD (dVar 1) (dTup (dCons (dVar 0) dNil))))))) (ds := (codesN c.toNat i).map tupI) (δ := [some (.fz (.tuple [.int p, .int c])), some (.fz (lstC (codesN c.toNat i))), some (.fz (.int (i : Nat))), some (.ow []), v4])
   (λ j δ => ∃ w4, δ = [some (.fz (.tuple [.int p, .int c])), some (.fz (lstC (codesN c.toNat i))), some (.fz (.int (i : Nat))), some (.ow ((((codesN c.toNat i).take j).flatMap (ext c.toNat)).map tupI)), w4]) ⟨v4, rfl⟩ (by
    rintro j hj δ ⟨w4, rfl⟩
    have hj' : j < (codesN c.toNat i).length := by simpa using hj
    have ed : ((codesN c.toNat i).map tupI)[j] = tupI (codesN c.toNat i)[j] := by simp
    have hm : (codesN c.toNat i)[j] ∈ codesN c.toNat i := Q17 hj'
    have hl := (codesN_mem _ _ _ hm).1
    have hz : ((((codesN c.toNat i).take j).flatMap (ext c.toNat)).map tupI).length + ((ext c.toNat (codesN c.toNat i)[j]).map tupI).length <= LIM := by
     rw [zJ, zJ, flat_len, ext_len, Q24, codesN_len]
     have q1 : c.toNat ^ i.succ <= 625 := pow_small (by omega) (by omega)
     rw [codesN_len] at hj'
     have q2 : (j + 1) * c.toNat <= c.toNat ^ i * c.toNat := Nat.mul_le_mul_right _ hj'
     rw [<- Nat.pow_succ] at q2
     have q3 : min j (c.toNat ^ i) = j := Nat.min_eq_left (nLe hj')
     rw [q3]
     have q4 : (j + 1) * c.toNat = j * c.toNat + c.toNat := Nat.succ_mul _ _
     exact lim625 (by omega)
    rw [ed]
    refine ⟨_, _, rfl, ?_, some (.fz (tupI (codesN c.toNat i)[j])), rfl⟩
    have cx := comp_ext (nm := "code") (k := 4) (c := c.toNat) (a := (codesN c.toNat i)[j]) (fi := dRng1 (dCons (d2 ixD (dVar 0) (dC (.int 1))) dNil)) (δ := [some (.fz (.tuple [.int p, .int c])), some (.fz (lstC (codesN c.toNat i))), some (.fz (.int (i : Nat))), some (.ow ((((codesN c.toNat i).take j).flatMap (ext c.toNat)).map tupI)), some (.fz (tupI (codesN c.toNat i)[j]))])
     (by simp only [dVar, dC, d2, dNil, dCons, dRng1, zA, zD, ↓reduceIte, i1, sc]) (by omega) (by omega) rfl
    simp only [dExtend, dOwn, zA, zB, zE, zF, zD, zG, ↓reduceIte, cx, hz]
    rw [take_flat hj', Q1c])
  rw [zJ, Q23] at e2
  subst e2
  exact ⟨w4, e1⟩
 obtain ⟨δ', e1, v2, v3, v4, e2⟩ := loopD_of (fg := (gN 2)) (fb := (dSeq (dSetO 3 (dLstO dNil)) (dSeq (dFor (dIter (dVar 1)) (gN 4) (dExtend 3 (dOwn (dCompO 1 [("code", 4)] (dRng1 (dCons (d2 ixD (dVar 0) (dC (.int 1))) dNil)) (gN 0) dYes (d2 addD (dVar 1) (dTup (dCons (dVar 0) dNil))))))) (dFrz 3 (dSet 1 (dVar 3)))))) (ds := rangeD 0 p.toNat) (δ := [some (.fz (.tuple [.int p, .int c])), some (.fz (.list [.tuple []])), none, none, none])
  (λ i δ => ∃ v2 v3 v4, δ = [some (.fz (.tuple [.int p, .int c])), some (.fz (lstC (codesN c.toNat i))), v2, v3, v4]) ⟨none, none, none, rfl⟩ (by
   rintro i hi δ ⟨v2, v3, v4, rfl⟩
   have hi' : i < p.toNat := by simpa [rangeD] using hi
   have ed : (rangeD 0 p.toNat)[i] = .int (i : Nat) := by simp [rangeD]
   obtain ⟨w4, f1⟩ := inner i hi' v4
   rw [ed]
   refine ⟨_, [some (.fz (.tuple [.int p, .int c])), some (.fz (lstC (codesN c.toNat (i + 1)))), some (.fz (.int (i : Nat))), some (.fz (lstC (codesN c.toNat (i + 1)))), w4], rfl, ?_, _, _, _, rfl⟩
   unfold lstC at f1 ⊢
   simp only [dSeq, dSet, dSetO, dFrz, dFor, dVar, dNil, dLstO, dIter, seqD, DL.frz, zH, zA, zB, zE, zF, zD, zG, ↓reduceIte, z, f1])
 have len2 : (rangeD 0 p.toNat).length = p.toNat := by simp [rangeD]
 rw [len2] at e2
 subst e2
 simp only [Fall_codes, Ball_codes_tl, Ball_codes_0, Ball_codes_1, Ball_codes_2, Ball_codes_3, tupI, runD, stD, dSeq, dSet, dRet, dDrop, dFor, dVar, dC, d2, dOwnCall, dNil, dCons, dTup, dLstO, dOwn, dRng1, resOf, zI, zL, zC, zH, Q3, Q9, zA, zB, zE, zF, List.replicate, zD, zG, Nat.reduceAdd, Nat.reduceSub, ↓reduceIte, hg, z, z1, i0, sp, e1]
 rfl
theorem law_codes_ok {p c : Int} (h : (p, c) ∈ games) : F_law_codes [tupI [p, c]] = some (lstC (codes p c)) := by
 have b := games_b h
 have i0 : ixD (.tuple [.int p, .int c]) (.int 0) = some (.int p) := rfl
 have i1 : ixD (.tuple [.int p, .int c]) (.int 1) = some (.int c) := rfl
 have sp := rng_ok (c := p) (by omega) (by omega)
 have sc := rng_ok (c := c) (by omega) (by omega)
 have z : (0 : Nat) <= LIM := zU _
 have z1 : (1 : Nat) <= LIM := lit_le 1
 have inner : ∀ (i : Nat), i < p.toNat -> ∀ v4 : Option Sl, ∃ w4, loopD ((gN 4)) ((dSet 3 (d2 addD (dVar 3) (dOwn (dCompO 1 [("_law_code_here", 4)] (dRng1 (dCons (d2 ixD (dVar 0) (dC (.int 1))) dNil)) (gN 0) dYes (d2 addD (dVar 1) (dTup (dCons (dVar 0) dNil)))))))) ((codesN c.toNat i).map tupI) [some (.fz (.tuple [.int p, .int c])), some (.fz (lstC (codesN c.toNat i))), some (.fz (.int (i : Nat))), some (.fz (.list [])), v4] =
  some (.nx [some (.fz (.tuple [.int p, .int c])), some (.fz (lstC (codesN c.toNat i))), some (.fz (.int (i : Nat))), some (.fz (lstC (codesN c.toNat (i + 1)))), w4]) := by
  intro i hi v4
  obtain ⟨δ', e1, w4, e2⟩ := loopD_of (fg := (gN 4)) (fb := (dSet 3 (d2 addD (dVar 3) (dOwn (dCompO 1 [("_law_code_here", 4)] (dRng1 (dCons (d2 ixD (dVar 0) (dC (.int 1))) dNil)) (gN 0) dYes (d2 addD (dVar 1) (dTup (dCons (dVar 0) dNil)))))))) (ds := (codesN c.toNat i).map tupI) (δ := [some (.fz (.tuple [.int p, .int c])), some (.fz (lstC (codesN c.toNat i))), some (.fz (.int (i : Nat))), some (.fz (.list [])), v4])
   (λ j δ => ∃ w4, δ = [some (.fz (.tuple [.int p, .int c])), some (.fz (lstC (codesN c.toNat i))), some (.fz (.int (i : Nat))), some (.fz (.list ((((codesN c.toNat i).take j).flatMap (ext c.toNat)).map tupI))), w4]) ⟨v4, rfl⟩ (by
    rintro j hj δ ⟨w4, rfl⟩
    have hj' : j < (codesN c.toNat i).length := by simpa using hj
    have ed : ((codesN c.toNat i).map tupI)[j] = tupI (codesN c.toNat i)[j] := by simp
    have hm : (codesN c.toNat i)[j] ∈ codesN c.toNat i := Q17 hj'
    have hl := (codesN_mem _ _ _ hm).1
    have hz : ((((codesN c.toNat i).take j).flatMap (ext c.toNat)).map tupI).length + ((ext c.toNat (codesN c.toNat i)[j]).map tupI).length <= LIM := by
     rw [zJ, zJ, flat_len, ext_len, Q24, codesN_len]
     have q1 : c.toNat ^ i.succ <= 625 := pow_small (by omega) (by omega)
     rw [codesN_len] at hj'
     have q2 : (j + 1) * c.toNat <= c.toNat ^ i * c.toNat := Nat.mul_le_mul_right _ hj'
     rw [<- Nat.pow_succ] at q2
     have q3 : min j (c.toNat ^ i) = j := Nat.min_eq_left (nLe hj')
     rw [q3]
     have q4 : (j + 1) * c.toNat = j * c.toNat + c.toNat := Nat.succ_mul _ _
     exact lim625 (by omega)
    have ad : addD (.list ((((codesN c.toNat i).take j).flatMap (ext c.toNat)).map tupI)) (.list ((ext c.toNat (codesN c.toNat i)[j]).map tupI)) = some (.list ((((codesN c.toNat i).take (j + 1)).flatMap (ext c.toNat)).map tupI)) := by
     rw [take_flat hj', Q1c]
     simp only [addD, hz, ↓reduceIte]
    rw [ed]
    refine ⟨_, _, rfl, ?_, some (.fz (tupI (codesN c.toNat i)[j])), rfl⟩
    have cx := comp_ext (nm := "_law_code_here") (k := 4) (c := c.toNat) (a := (codesN c.toNat i)[j]) (fi := dRng1 (dCons (d2 ixD (dVar 0) (dC (.int 1))) dNil)) (δ := [some (.fz (.tuple [.int p, .int c])), some (.fz (lstC (codesN c.toNat i))), some (.fz (.int (i : Nat))), some (.fz (.list ((((codesN c.toNat i).take j).flatMap (ext c.toNat)).map tupI))), some (.fz (tupI (codesN c.toNat i)[j]))])
     (by simp only [dVar, dC, d2, dNil, dCons, dRng1, zA, zD, ↓reduceIte, i1, sc]) (by omega) (by omega) rfl
    simp only [dSet, dVar, d2, dOwn, zA, zB, zE, zF, zD, zG, cx, ad])
  rw [zJ, Q23] at e2
  subst e2
  exact ⟨w4, e1⟩
 obtain ⟨δ', e1, v2, v3, v4, e2⟩ := loopD_of (fg := (gN 2)) (fb := (dSeq (dSet 3 (dOwn (dLstO dNil))) (dSeq (dFor (dIter (dVar 1)) (gN 4) (dSet 3 (d2 addD (dVar 3) (dOwn (dCompO 1 [("_law_code_here", 4)] (dRng1 (dCons (d2 ixD (dVar 0) (dC (.int 1))) dNil)) (gN 0) dYes (d2 addD (dVar 1) (dTup (dCons (dVar 0) dNil)))))))) (dSet 1 (dVar 3))))) (ds := rangeD 0 p.toNat) (δ := [some (.fz (.tuple [.int p, .int c])), some (.fz (.list [.tuple []])), none, none, none])
  (λ i δ => ∃ v2 v3 v4, δ = [some (.fz (.tuple [.int p, .int c])), some (.fz (lstC (codesN c.toNat i))), v2, v3, v4]) ⟨none, none, none, rfl⟩ (by
   rintro i hi δ ⟨v2, v3, v4, rfl⟩
   have hi' : i < p.toNat := by simpa [rangeD] using hi
   have ed : (rangeD 0 p.toNat)[i] = .int (i : Nat) := by simp [rangeD]
   obtain ⟨w4, f1⟩ := inner i hi' v4
   rw [ed]
   refine ⟨_, [some (.fz (.tuple [.int p, .int c])), some (.fz (lstC (codesN c.toNat (i + 1)))), some (.fz (.int (i : Nat))), some (.fz (lstC (codesN c.toNat (i + 1)))), w4], rfl, ?_, _, _, _, rfl⟩
   unfold lstC at f1 ⊢
   simp only [dSeq, dSet, dFor, dVar, dNil, dLstO, dOwn, dIter, seqD, zH, zA, zB, zE, zF, zD, zG, ↓reduceIte, z, f1])
 have len2 : (rangeD 0 p.toNat).length = p.toNat := by simp [rangeD]
 rw [len2] at e2
 subst e2
 simp only [F_law_codes, B_law_codes_tl, B_law_codes_0, B_law_codes_1, B_law_codes_2, tupI, runD, stD, dSeq, dSet, dRet, dFor, dVar, dC, d2, dNil, dCons, dTup, dLstO, dOwn, dRng1, resOf, zI, zL, zC, zH, Q3, Q9, zA, zB, zE, zF, List.replicate, zD, zG, Nat.reduceAdd, Nat.reduceSub, ↓reduceIte, z, z1, i0, sp, e1]
 rfl
noncomputable abbrev Ask := List Int × List Int
noncomputable def encA (a : Ask) : PyData := .tuple [tupI a.1, tupI a.2]
noncomputable def lstA (as : List Ask) : PyData := .list (as.map encA)
structure AskOk (p c : Int) (a : Ask) : Prop where
 code : Code p c a.1
 two : a.2.length = 2
 b : ∀ n ∈ a.2, 0 <= n /\ n <= p
theorem lawAns_ok {p c : Int} {x y : List Int} (hx : Code p c x) (hy : Code p c y) : (GC.lawAns x y).length = 2 /\ ∀ n ∈ GC.lawAns x y, 0 <= n /\ n <= p := by
 have l1 := hx.len
 have l2 := hy.len
 obtain ⟨e, _⟩ := GC.lawAns_ends (h := x) (g := y) (by omega)
 refine ⟨rfl, λ n hn => ?_⟩
 have : n = (GC.rgt x y : Int) \/ n = (GC.inter (GC.thrs x y) (GC.mine x y) : Int) := by simpa [GC.lawAns] using hn
 omega
theorem asks_ok {p c : Int} (h : (p, c) ∈ games) (ns : List Int) (k : Nat) : ∃ as : List Ask, F_law_asks [scr ns, .int (k : Nat), tupI [p, c]] = some (as.map encA) /\ as.length <= 4 /\ ∀ a ∈ as, AskOk p c a := by
 have b := games_b h
 have i0 : ixD (.tuple [.int p, .int c]) (.int 0) = some (.int p) := rfl
 have z : (0 : Nat) <= LIM := zU _
 have z2 : (2 : Nat) <= LIM := lit_le 2
 have cell : ∀ j : Nat, F_law_cell [scr ns, .int (j : Nat)] = some (.int (cellI ns j)) := cell_ok ns
 have c1 : F_law_cell [scr ns, .int ((k : Int) + 1)] = some (.int (cellI ns (k + 1))) := cell (k + 1)
 have cd : ∀ x, F_law_code [.tuple [.int p, .int c], .int x] = some (.tuple ((codeI p c x).map .int)) := λ x => code_ok h x
 have mx : ∀ (x : Int) {q m : Int}, 0 < q -> 0 < m -> F_law_mix [.int x, .int q, .int m] = some (.int (mixI x q m)) := λ x q m => mix_ok x
 have m5 := mixI_b (cellI ns (k + 1)) (p := 9949) (show (0 : Int) < 5 by decide)
 have s5 := rng_ok (c := mixI (cellI ns (k + 1)) 9949 5) (by omega) (by omega)
 generalize hN : mixI (cellI ns (k + 1)) 9949 5 = N at m5 s5
 have C0 := codeI_code h (cellI ns k)
 generalize hx : codeI p c (cellI ns k) = x at C0
 obtain ⟨δ', e1, as, v5, v6, v7, v8, e2, al, ao⟩ := loopD_of (fg := (gN 5)) (fb := (dSeq (dSet 6 (d2 addD (dOwnCall 2 F_law_cell (dCons (dVar 0) (dCons (d2 addD (d2 addD (dVar 1) (dC (.int 2))) (dVar 5)) dNil))) (d2 mulI (d2 mulI (dC (.int 13)) (dVar 5)) (dVar 5)))) (dSeq (dSet 7 (dOwnCall 2 F_law_code (dCons (dVar 2) (dCons (dVar 6) dNil)))) (dSeq (dSet 8 (dOwnCall 2 F_law_answer (dCons (dVar 3) (dCons (dVar 7) dNil)))) (dSeq (dIf (dB (d2 eqD (dOwnCall 3 F_law_mix (dCons (dVar 6) (dCons (dC (.int 9941)) (dCons (dC (.int 7)) dNil)))) (dC (.int 1)))) (dSet 8 (dTup (dCons (dOwnCall 3 F_law_mix (dCons (dVar 6) (dCons (dC (.int 9931)) (dCons (d2 addD (d2 ixD (dVar 2) (dC (.int 0))) (dC (.int 1))) dNil)))) (dCons (dOwnCall 3 F_law_mix (dCons (dVar 6) (dCons (dC (.int 9929)) (dCons (d2 addD (d2 ixD (dVar 2) (dC (.int 0))) (dC (.int 1))) dNil)))) dNil)))) dNext) (dAppend 4 (dTup (dCons (dVar 7) (dCons (dVar 8) dNil))))))))) (ds := rangeD 0 N.toNat) (δ := [some (.fz (scr ns)), some (.fz (.int (k : Nat))), some (.fz (.tuple [.int p, .int c])), some (.fz (.tuple (x.map .int))), some (.ow []), none, none, none, none])
  (λ i δ => ∃ (as : List Ask) (v5 v6 v7 v8 : Option Sl), δ = [some (.fz (scr ns)), some (.fz (.int (k : Nat))), some (.fz (.tuple [.int p, .int c])), some (.fz (.tuple (x.map .int))), some (.ow (as.map encA)), v5, v6, v7, v8] /\ as.length = i /\ ∀ a ∈ as, AskOk p c a) ⟨[], none, none, none, none, rfl, rfl, λ a ha => by cases ha⟩ (by
   rintro i hi δ ⟨as, v5, v6, v7, v8, rfl, al, ao⟩
   have hi' : i < N.toNat := by simpa [rangeD] using hi
   have ed : (rangeD 0 N.toNat)[i] = .int (i : Nat) := by simp [rangeD]
   have ce : F_law_cell [scr ns, .int ((k : Int) + 2 + (i : Int))] = some (.int (cellI ns (k + 2 + i))) := cell (k + 2 + i)
   have q1 : cMul 13 (i : Int) = true := cMul_left _ (by omega)
   have q2 : cMul (13 * (i : Int)) (i : Int) = true := cMul_right _ (by omega)
   have q4 : (as.map encA).length < LIM := by rw [zJ]; exact nLl (show _ < 1000 by omega) (by decide)
   generalize hs : cellI ns (k + 2 + i) + 13 * (i : Int) * (i : Int) = sd
   have C1 := codeI_code h sd
   have cd1 := cd sd
   generalize codeI p c sd = y at C1 cd1
   have l1 := C0.len
   have l2 := C1.len
   have an : F_law_answer [.tuple (x.map .int), .tuple (y.map .int)] = some (tupI (GC.lawAns x y)) := law_answer_ok (by omega) (by omega)
   have m1 := mx sd (show (0 : Int) < 9941 by decide) (show (0 : Int) < 7 by decide)
   have m2 := mx sd (show (0 : Int) < 9931 by decide) (show (0 : Int) < p + 1 by omega)
   have m3 := mx sd (show (0 : Int) < 9929 by decide) (show (0 : Int) < p + 1 by omega)
   have step : ∀ t : List Int, t.length = 2 -> (∀ n ∈ t, 0 <= n /\ n <= p) -> ∃ as' : List Ask, (as ++ [(y, t)]) = as' /\ as'.length = i + 1 /\ ∀ a ∈ as', AskOk p c a := λ t t1 t2 => ⟨_, rfl, by simp [al], λ a ha => by
    rcases Q25.mp ha with q | q
    · exact ao a q
    · have : a = (y, t) := by simpa using q
      subst this
      exact ⟨C1, t1, t2⟩⟩
   rw [ed]
   by_cases hm : mixI sd 9941 7 = 1
   · have e7 : eqD (.int (mixI sd 9941 7)) (.int 1) = some (.bool true) := by rw [eqD_int, decide_eq_true hm]
     have b1 := mixI_b sd (p := 9931) (show (0 : Int) < p + 1 by omega)
     have b2 := mixI_b sd (p := 9929) (show (0 : Int) < p + 1 by omega)
     obtain ⟨as', ea, l', o'⟩ := step [mixI sd 9931 (p + 1), mixI sd 9929 (p + 1)] rfl (by
      intro n hn
      have : n = mixI sd 9931 (p + 1) \/ n = mixI sd 9929 (p + 1) := by simpa using hn
      omega)
     refine ⟨_, _, rfl, ?_, as', some (.fz (.int (i : Nat))), some (.fz (.int sd)), some (.fz (.tuple (y.map .int))), some (.fz (.tuple [.int (mixI sd 9931 (p + 1)), .int (mixI sd 9929 (p + 1))])), rfl, l', o'⟩
     simp only [dSeq, dIf, dSet, dAppend, dVar, dC, d2, dOwnCall, dNil, dCons, dTup, dB, dNext, mul_ii, add_ii, zC, zH, zA, zB, zE, zF, zD, zG, Nat.reduceAdd, ↓reduceIte, q1, q2, q4, ce, hs, cd1, an, m1, m2, m3, e7, i0, z2]
     rw [<- ea, Q1c]
     rfl
   · have e7 : eqD (.int (mixI sd 9941 7)) (.int 1) = some (.bool false) := by rw [eqD_int, decide_eq_false hm]
     obtain ⟨b1, b2⟩ := lawAns_ok C0 C1
     obtain ⟨as', ea, l', o'⟩ := step (GC.lawAns x y) b1 b2
     refine ⟨_, _, rfl, ?_, as', some (.fz (.int (i : Nat))), some (.fz (.int sd)), some (.fz (.tuple (y.map .int))), some (.fz (tupI (GC.lawAns x y))), rfl, l', o'⟩
     simp only [dSeq, dIf, dSet, dAppend, dVar, dC, d2, dOwnCall, dNil, dCons, dTup, dB, dNext, mul_ii, add_ii, zC, zH, zA, zB, zE, zF, zD, zG, Nat.reduceAdd, ↓reduceIte, zN, q1, q2, q4, ce, hs, cd1, an, m1, e7, i0, z2]
     rw [<- ea, Q1c]
     rfl)
 have len2 : (rangeD 0 N.toNat).length = N.toNat := by simp [rangeD]
 rw [len2] at al
 subst e2
 refine ⟨as, ?_, by omega, ao⟩
 have cx := cd (cellI ns k)
 rw [hx] at cx
 have c0 := cell k
 have mN := mx (cellI ns (k + 1)) (show (0 : Int) < 9949 by decide) (show (0 : Int) < 5 by decide)
 rw [hN] at mN
 simp only [F_law_asks, B_law_asks_tl, B_law_asks_0, B_law_asks_1, B_law_asks_2, B_law_asks_3, tupI, runO, stD, dSeq, dSet, dSetO, dRetO, dFor, dVar, dC, d2, dOwnCall, dNil, dCons, dLstO, dRng1, add_ii, zI, zL, zC, zH, Q3, Q9, zA, zB, zE, zF, List.replicate, zD, zG, Nat.reduceAdd, Nat.reduceSub, ↓reduceIte, c0, c1, cx, z, mN, s5, e1]
noncomputable def fits (as : List Ask) (x : List Int) : Bool := as.all λ a => decide (GC.ans x a.1 = a.2)
theorem ix0 (a : Ask) : ixD (encA a) (.int 0) = some (tupI a.1) := rfl
theorem ix1 (a : Ask) : ixD (encA a) (.int 1) = some (tupI a.2) := rfl
theorem fits_ask_ok {p c : Int} (h : (p, c) ∈ games) {x : List Int} (cx : Code p c x) {a : Ask} (ha : AskOk p c a) : Ffits_ask [tupI x, encA a] = some (.bool (decide (GC.ans x a.1 = a.2))) := by
 have b := games_b h
 have l1 := cx.len
 have l2 := ha.code.len
 have q := answer_of_ok (a := x) (b := a.1) (by omega) (by omega)
 simp only [Ffits_ask, Bfits_ask_tl, Bfits_ask_0, runD, stD, dRet, dVar, dC, d2, dOwnCall, dNil, dCons, resOf, zI, zL, zC, zH, Q5, zA, zB, List.replicate, zD, zG, Nat.reduceAdd, Nat.reduceSub, ↓reduceIte, ix0, ix1, q, eqD_tupI]
theorem is_answer_ok {p c : Int} (h : (p, c) ∈ games) {t : List Int} (t2 : t.length = 2) (tb : ∀ n ∈ t, 0 <= n /\ n <= p) : Fis_answer [tupI [p, c], tupI t] = some (.bool true) := by
 have i0 : ixD (.tuple [.int p, .int c]) (.int 0) = some (.int p) := rfl
 have ip : Fis_pair [.tuple (t.map .int)] = some (.bool true) := by
  have e : eqD (.int ((t.map PyData.int).length : Nat)) (.int 2) = some (.bool true) := by rw [eqD_int, decide_eq_true]; rw [zJ, t2]; rfl
  simp only [Fis_pair, Bis_pair_tl, Bis_pair_0, runD, stD, dRet, dVar, dC, d2, dCall, dNil, dCons, dB, dAndV, resOf, dIsi, isi_tt, lenC, len_t, zI, zL, zC, zH, Q5, zA, List.replicate, zD, zG, Nat.reduceAdd, Nat.reduceSub, ↓reduceIte, e]
 have l1 : (t.map PyData.int).length <= LIM := by rw [zJ, t2]; exact lit_le 2
 have mm : (dCompO 1 [("game", 0)] (dIter (dVar 1)) (gN 0) dYes (dOwnCall 3 Fis_number_within (dCons (dVar 0) (dCons (dC (.int 0)) (dCons (d2 ixD (dVar 1) (dC (.int 0))) dNil))))) [some (.fz (.tuple [.int p, .int c])), some (.fz (.tuple (t.map PyData.int)))] = some ((t.map PyData.int).map λ _ => .bool true) := by
  refine dCompO_map _ rfl l1 λ d hd => ?_
  obtain ⟨n, hn, rfl⟩ := Qc.mp hd
  have q := tb n hn
  simp only [dVar, dC, d2, dOwnCall, dNil, dCons, st0D, dYes, gN, zI, zL, zC, zH, Q3, Q9, zA, zB, zE, List.replicate, zD, zG, Nat.reduceAdd, ↓reduceIte, Bool.and_true, i0, is_num_ok, decide_eq_true q.1, decide_eq_true q.2]
 have bs : boolsD ((t.map PyData.int).map λ _ => PyData.bool true) = some ((t.map PyData.int).map λ _ => true) := by
  rw [show ((t.map PyData.int).map λ _ => PyData.bool true) = ((t.map PyData.int).map λ _ => true).map PyData.bool by simp]
  exact boolsD_map _
 have al2 : ((t.map PyData.int).map λ _ => true).all id = true := by simp
 simp only [Fis_answer, Bis_answer_tl, Bis_answer_0, tupI, runD, stD, dRet, dVar, dCall, dOwnCall, dNil, dCons, dOwn, dB, dAndV, resOf, allC, zI, zL, zC, zH, Q5, zA, zB, List.replicate, zD, zG, Nat.reduceAdd, Nat.reduceSub, ↓reduceIte, ip, mm, bs, al2]
theorem is_ask_ok {p c : Int} (h : (p, c) ∈ games) {a : Ask} (ha : AskOk p c a) : Fis_ask [tupI [p, c], encA a] = some (.bool true) := by
 have ip : Fis_pair [encA a] = some (.bool true) := by
  have e : eqD (.int ((2 : Nat) : Int)) (.int 2) = some (.bool true) := by rw [eqD_int]; rfl
  simp only [Fis_pair, Bis_pair_tl, Bis_pair_0, encA, runD, stD, dRet, dVar, dC, d2, dCall, dNil, dCons, dB, dAndV, resOf, dIsi, isi_tt, lenC, len_t, zI, zL, zC, zH, Q5, zA, List.replicate, zD, zG, Nat.reduceAdd, Nat.reduceSub, ↓reduceIte, e]
 have q1 := is_code_ok h ha.code
 have q2 := is_answer_ok h ha.two ha.b
 simp only [Fis_ask, Bis_ask_tl, Bis_ask_0, runD, stD, dRet, dVar, dC, d2, dOwnCall, dNil, dCons, dB, dAndV, resOf, zI, zL, zC, zH, Q5, zA, zB, List.replicate, zD, zG, Nat.reduceAdd, Nat.reduceSub, ↓reduceIte, ip, ix0, ix1, q1, q2]
theorem checked_list_ok {p c : Int} (h : (p, c) ∈ games) {as : List Ask} (ao : ∀ a ∈ as, AskOk p c a) (al : as.length <= 8) : Fchecked_list [tupI [p, c], lstA as, fnD "is_ask"] = some (lstA as) := by
 obtain ⟨δ', e1, v2, v3, e2⟩ := loopD_of (fg := (gT 2 (gC (gN 3) (gC (gN 4) gZ)))) (fb := (dIf (dNotT (dTru (dCallV 2 "is_ask" 2 Fis_ask (dCons (dVar 0) (dCons (dVar 4) dNil))))) dNever dNext)) (ds := enumD (as.map encA)) (δ := [some (.fz (tupI [p, c])), some (.fz (.list (as.map encA))), some (.fz (fnD "is_ask")), none, none])
  (λ i δ => ∃ v2 v3, δ = [some (.fz (tupI [p, c])), some (.fz (.list (as.map encA))), some (.fz (fnD "is_ask")), v2, v3]) ⟨none, none, rfl⟩ (by
   rintro i hi δ ⟨v2, v3, rfl⟩
   have hi' : i < as.length := by simpa [enumD] using hi
   have ed : (enumD (as.map encA))[i] = .tuple [.int (i : Nat), encA as[i]] := by
    have := gEq hi
    obtain ⟨e, h1, h2⟩ := enumD_get this
    rw [zK, gEq hi'] at h1
    cases h1
    exact h2
   have q := is_ask_ok h (ao _ (Q17 hi'))
   rw [ed]
   refine ⟨_, _, rfl, ?_, some (.fz (.int (i : Nat))), some (.fz (encA as[i])), rfl⟩
   simp only [dIf, dVar, dOwnCall, dNil, dCons, dTru, truD, dNotT, dNext, dNever, zC, zH, zA, zB, zE, zF, zD, zG, Nat.reduceAdd, ↓reduceIte, Q1f, zN, dCallV, isFn_self, q])
 subst e2
 have d : decide ((8 : Int) < ((as.map encA).length : Nat)) = false := decide_eq_false (by rw [zJ]; omega)
 simp only [Fchecked_list, Bchecked_list_tl, Bchecked_list_0, Bchecked_list_1, Bchecked_list_2, lstA, runD, stD, dSeq, dIf, dRet, dFor, dVar, dC, d2, dCall, dNil, dCons, dB, dTru, truD, dNotT, dOrT, seqD, dEn, dNext, dNever, resOf, dIsi, isi_ll, lenC, len_l, gt_ii, zI, zL, zC, zH, Q3, Q9, zA, zB, List.replicate, zD, zG, Nat.reduceAdd, Nat.reduceSub, ↓reduceIte, Q1f, zN, d, e1]
theorem checked_asks_ok {p c : Int} (h : (p, c) ∈ games) {as : List Ask} (ao : ∀ a ∈ as, AskOk p c a) (al : as.length <= 8) : Fchecked_asks [tupI [p, c], lstA as] = some (lstA as) := by
 have q := checked_list_ok h ao al
 simp only [Fchecked_asks, Bchecked_asks_tl, Bchecked_asks_0, runD, stD, dRet, dVar, dC, dOwnCall, dNil, dCons, resOf, zI, zL, zC, zH, Q5, zA, zB, List.replicate, zD, zG, Nat.reduceAdd, Nat.reduceSub, ↓reduceIte, q]
theorem tup_mem {cs : List (List Int)} {d : PyData} (h : d ∈ cs.map tupI) : ∃ x ∈ cs, d = tupI x := by
 obtain ⟨x, hx, e⟩ := Qc.mp h
 exact ⟨x, hx, e.symm⟩
theorem filter_enc {α : Type} (enc : α -> PyData) (f : PyData -> Bool) (q : α -> Bool) : ∀ {l : List α}, (∀ a ∈ l, f (enc a) = q a) -> (l.map enc).filter f = (l.filter q).map enc
 | [], _ => rfl
 | a :: r, h => by
  have ih := filter_enc enc f q (l := r) λ x hx => h x (lMc _ hx)
  rw [zI, List.filter_cons, List.filter_cons, h a lMs, ih]
  cases q a <;> rfl
noncomputable def codeOf (d : PyData) : List Int := @dite _ (∃ x, tupI x = d) (Classical.propDecidable _) (λ h => Classical.choose h) (λ _ => [])
theorem codeOf_tup (x : List Int) : codeOf (tupI x) = x := by
 unfold codeOf
 have h : ∃ y, tupI y = tupI x := ⟨x, rfl⟩
 rw [dif_pos h]
 exact tupI_inj (Classical.choose_spec h)
theorem map_id' {l : List PyData} : l.map (λ d => d) = l := List.map_id l
theorem those_ok {p c : Int} (h : (p, c) ∈ games) {cs : List (List Int)} (hc : ∀ x ∈ cs, Code p c x) (hl : cs.length <= 1000) {as : List Ask} (ao : ∀ a ∈ as, AskOk p c a) :
 Fthose_that_fit [lstC cs, lstA as] = some (lstC (cs.filter (fits as))) := by
 obtain ⟨δ', e1, v3, e2⟩ := loopD_of (fg := (gN 3)) (fb := (dSet 2 (dOwn (dCompO 1 [("ask", 3)] (dIter (dVar 2)) (gN 0) (dTru (dOwnCall 2 Ffits_ask (dCons (dVar 0) (dCons (dVar 1) dNil)))) (dVar 0))))) (ds := as.map encA) (δ := [some (.fz (.list (cs.map tupI))), some (.fz (.list (as.map encA))), some (.fz (.list (cs.map tupI))), none])
  (λ i δ => ∃ v3, δ = [some (.fz (.list (cs.map tupI))), some (.fz (.list (as.map encA))), some (.fz (.list ((cs.filter (fits (as.take i))).map tupI))), v3]) ⟨none, by
   have : cs.filter (fits (as.take 0)) = cs := List.filter_eq_self.mpr λ a _ => rfl
   rw [this]⟩ (by
   rintro i hi δ ⟨v3, rfl⟩
   have hi' : i < as.length := by simpa using hi
   have ed : (as.map encA)[i] = encA as[i] := by simp
   have oa := ao _ (Q17 hi')
   rw [ed]
   refine ⟨_, _, rfl, ?_, some (.fz (encA as[i])), rfl⟩
   have cx : (dCompO 1 [("ask", 3)] (dIter (dVar 2)) (gN 0) (dTru (dOwnCall 2 Ffits_ask (dCons (dVar 0) (dCons (dVar 1) dNil)))) (dVar 0)) [some (.fz (.list (cs.map tupI))), some (.fz (.list (as.map encA))), some (.fz (.list ((cs.filter (fits (as.take i))).map tupI))), some (.fz (encA as[i]))] = some ((cs.filter (fits (as.take (i + 1)))).map tupI) := by
    rw [dCompO_filter (ds := (cs.filter (fits (as.take i))).map tupI) (λ d => decide (GC.ans (codeOf d) as[i].1 = as[i].2)) (λ d => d) rfl (by
     rw [zJ]; exact Qb (List.length_filter_le _ _) (lim625 hl)) (λ d hd => ?_)]
    · rw [map_id', filter_enc tupI _ (λ x => decide (GC.ans x as[i].1 = as[i].2)) (λ x _ => by rw [codeOf_tup]), List.filter_filter]
      congr 2
      apply List.filter_congr
      intro x _
      rw [Q2b hi']
      simp only [fits, List.all_append, List.all_cons, List.all_nil, Bool.and_true]
      rw [Bool.and_comm]
    · obtain ⟨x, hx, rfl⟩ := tup_mem hd
      have q := fits_ask_ok h (hc x (List.mem_filter.mp hx).1) oa
      rw [codeOf_tup]
      cases hd' : decide (GC.ans x as[i].1 = as[i].2) <;> simp only [dVar, dOwnCall, dNil, dCons, dTru, truD, st0D, gN, zI, zL, zC, zH, Q3, Q9, zA, zB, zE, List.replicate, zD, zG, Nat.reduceAdd, ↓reduceIte, zN, q, hd']
   simp only [dSet, dOwn, zE, zF, zG, cx])
 rw [zJ, Q23] at e2
 subst e2
 simp only [Fthose_that_fit, Bthose_that_fit_tl, Bthose_that_fit_0, Bthose_that_fit_1, Bthose_that_fit_2, lstC, lstA, runD, stD, dSeq, dSet, dRet, dFor, dVar, dIter, seqD, resOf, zI, zL, zC, zH, Q3, Q9, zA, zB, zE, zF, List.replicate, zD, zG, Nat.reduceAdd, Nat.reduceSub, e1]
theorem codes_all {p c : Int} (h : (p, c) ∈ games) : ∀ x ∈ codes p c, Code p c x := λ x hx => codes_code h hx
theorem what_fits_ok {p c : Int} (h : (p, c) ∈ games) {as : List Ask} (ao : ∀ a ∈ as, AskOk p c a) (al : as.length <= 8) : Fwhat_fits [tupI [p, c], lstA as] = some (lstC ((codes p c).filter (fits as))) := by
 have q1 := checked_game_ok h
 have q2 := checked_asks_ok h ao al
 have q3 := all_codes_ok h
 have q4 := those_ok h (codes_all h) (Qb (codes_len h) (by decide)) ao
 simp only [Fwhat_fits, Bwhat_fits_tl, Bwhat_fits_0, Bwhat_fits_1, Bwhat_fits_2, runD, stD, dSeq, dRet, dDrop, dVar, dOwnCall, dNil, dCons, resOf, zI, zL, zC, zH, Q5, zA, zB, List.replicate, zD, zG, Nat.reduceAdd, Nat.reduceSub, ↓reduceIte, q1, q2, q3, q4]
theorem left_ok {p c : Int} (h : (p, c) ∈ games) {as : List Ask} (ao : ∀ a ∈ as, AskOk p c a) (al : as.length <= 1000) : F_law_left [tupI [p, c], lstA as] = some (lstC ((codes p c).filter (fits as))) := by
 have b := games_b h
 have q0 := law_codes_ok h
 have inner : ∀ x ∈ codes p c, ∀ δ : DSt, δ[0]? = some (some (.fz (tupI x))) -> δ[1]? = some (some (.fz (.list (as.map encA)))) -> ∃ es, (dCompO 1 [("_law_code_here", 0)] (dIter (dVar 1)) (gN 0) (dB (d2 neD (dOwnCall 2 F_law_answer (dCons (dVar 1) (dCons (d2 ixD (dVar 0) (dC (.int 0))) dNil))) (d2 ixD (dVar 0) (dC (.int 1))))) (dVar 0)) δ = some es /\ es.isEmpty = fits as x := by
  intro x hx δ h0 h1
  have cx := codes_code h hx
  have f1 : (dIter (dVar 1)) δ = some (as.map encA) := by simp only [dIter, dVar, h1, zD, seqD]
  have hk : ∀ a ∈ as, F_law_answer [tupI x, tupI a.1] = some (tupI (GC.ans x a.1)) := λ a ha => by
   have l1 := cx.len
   have l2 := (ao a ha).code.len
   rw [GC.ans_law (by omega)]
   exact law_answer_ok (by omega) (by omega)
  refine ⟨_, dCompO_filter (ds := as.map encA) (λ d => match d with | .tuple [d1, d2] => !PyData.eqv (tupI (GC.ans x (codeOf d1))) d2 | _ => true) (λ d => d) f1 (by rw [zJ]; exact lim625 al) (λ d hd => ?_), ?_⟩
  · obtain ⟨a, ha, rfl⟩ := Qc.mp hd
    have q := hk a ha
    have e : (match encA a with | .tuple [d1, d2] => !PyData.eqv (tupI (GC.ans x (codeOf d1))) d2 | _ => true) = !decide (GC.ans x a.1 = a.2) := by
     show (!PyData.eqv (tupI (GC.ans x (codeOf (tupI a.1)))) (tupI a.2)) = _
     rw [codeOf_tup, eqv_tupI]
    rw [e]
    cases hd' : decide (GC.ans x a.1 = a.2) <;> simp only [dVar, dC, d2, dOwnCall, dNil, dCons, dB, st0D, gN, zI, zL, zC, zH, Q3, Q9, zA, zB, zE, List.replicate, zD, zG, Nat.reduceAdd, ↓reduceIte, Q1f, Bool.not_false, zN, h0, ix0, ix1, q, neD_tupI, hd']
  · rw [map_id', filter_enc encA _ (λ a => !decide (GC.ans x a.1 = a.2)) (λ a _ => by
     show (!PyData.eqv (tupI (GC.ans x (codeOf (tupI a.1)))) (tupI a.2)) = _
     rw [codeOf_tup, eqv_tupI])]
    rw [Bool.eq_iff_iff, List.isEmpty_iff, List.map_eq_nil_iff, List.filter_eq_nil_iff, fits, Q12]
    constructor
    · intro q a ha
      have := q a ha
      simpa using this
    · intro q a ha
      have := q a ha
      simpa using this
 have cx : (dCompO 1 [("_law_asks_here", 1)] (dIter (dOwnCall 1 F_law_codes (dCons (dVar 0) dNil))) (gN 0) (dNotT (dTru (dOwn (dCompO 1 [("_law_code_here", 0)] (dIter (dVar 1)) (gN 0) (dB (d2 neD (dOwnCall 2 F_law_answer (dCons (dVar 1) (dCons (d2 ixD (dVar 0) (dC (.int 0))) dNil))) (d2 ixD (dVar 0) (dC (.int 1))))) (dVar 0))))) (dVar 0)) [some (.fz (.tuple [.int p, .int c])), some (.fz (.list (as.map encA)))] = some (((codes p c).filter (fits as)).map tupI) := by
  have hi : ((dIter (dOwnCall 1 F_law_codes (dCons (dVar 0) dNil)))) [some (.fz (.tuple [.int p, .int c])), some (.fz (.list (as.map encA)))] = some ((codes p c).map tupI) := by
   have q0' : F_law_codes [.tuple [.int p, .int c]] = some (lstC (codes p c)) := q0
   simp only [dVar, dOwnCall, dNil, dCons, dIter, seqD, zC, zH, zA, zD, Nat.reduceAdd, ↓reduceIte, q0', lstC]
  rw [dCompO_filter (ds := (codes p c).map tupI) (λ d => fits as (codeOf d)) (λ d => d) hi (by rw [zJ]; exact lim625 (Qb (codes_len h) (by decide))) (λ d hd => ?_)]
  · rw [map_id', filter_enc tupI _ (fits as) (λ x _ => by rw [codeOf_tup])]
  · obtain ⟨x, hx, rfl⟩ := tup_mem hd
    obtain ⟨es, f1, f2⟩ := inner x hx [some (.fz (tupI x)), some (.fz (.list (as.map encA)))] rfl rfl
    rw [codeOf_tup, <- f2]
    cases hE : es.isEmpty <;> simp only [dVar, dOwn, dTru, truD, dNotT, st0D, gN, zI, zL, Q3, Q9, zA, zB, zE, List.replicate, zD, zG, ↓reduceIte, Q1f, Bool.not_false, zN, f1, hE]
 simp only [F_law_left, B_law_left_tl, B_law_left_0, tupI, lstA, runD, stD, dRet, dOwn, resOf, zI, zL, zC, zH, Q5, List.replicate, zD, zG, Nat.reduceAdd, Nat.reduceSub, cx]
 rfl
noncomputable abbrev Cn := List (List Int × Int)
noncomputable def putN (m : Cn) (k : List Int) (v : Int) : Cn := if k ∈ m.map (·.1) then m.map (λ p => if p.1 = k then (p.1, v) else p) else m ++ [(k, v)]
noncomputable def getN (m : Cn) (k : List Int) : Int := ((m.find? λ p => decide (p.1 = k)).map (·.2)).getD 0
noncomputable def cntN (g : List Int) (cs : List (List Int)) : Cn := cs.foldl (λ m x => putN m (GC.ans x g) (getN m (GC.ans x g) + 1)) []
noncomputable def encN (m : Cn) : List (PyData × PyData) := m.map λ p => (tupI p.1, .int p.2)
theorem keyD_tup (k : List Int) : keyD (tupI k) = some k := intsD_map k
theorem put_encN (m : Cn) (k : List Int) (v : Int) : putP (encN m) k (.int v) = encN (putN m k v) := by
 have any : ((encN m).any λ p => decide (keyD p.1 = some k)) = decide (k ∈ m.map (·.1)) := by
  rw [Bool.eq_iff_iff, List.any_eq_true, decide_eq_true_eq]
  constructor
  · rintro ⟨p, hp, e⟩
    obtain ⟨x, hx, rfl⟩ := Qc.mp hp
    have e' := of_decide_eq_true e
    rw [keyD_tup] at e'
    cases e'
    exact zP hx
  · intro h
    obtain ⟨x, hx, e⟩ := Qc.mp h
    exact ⟨_, zP hx, decide_eq_true (by rw [<- e]; exact keyD_tup _)⟩
 have same : ((encN m).map λ p => if keyD p.1 = some k then (p.1, PyData.int v) else p) = encN (m.map λ p => if p.1 = k then (p.1, v) else p) := by
  unfold encN
  rw [zO, zO]
  apply Q26
  intro p _
  show (if keyD (tupI p.1) = some k then (tupI p.1, PyData.int v) else (tupI p.1, .int p.2)) = (tupI (if p.1 = k then (p.1, v) else p).1, PyData.int (if p.1 = k then (p.1, v) else p).2)
  rw [keyD_tup]
  by_cases h : p.1 = k
  · rw [if_pos (congrArg some h), if_pos h]
  · rw [if_neg (λ z => h (zV z)), if_neg h]
 unfold putP putN
 rw [any, same]
 by_cases h : k ∈ m.map (·.1)
 · rw [if_pos (decide_eq_true h), if_pos h]
 · rw [if_neg (by rw [decide_eq_false h]; decide), if_neg h]
   simp [encN, tupI]
theorem tkd_encN (m : Cn) : tkd (encN m) = true := by
 cases m <;> rfl
theorem get_encN (m : Cn) (k : List Int) : (kvGet (encN m) (tupI k)).map (λ r => r.getD (.int 0)) = some (.int (getN m k)) := by
 have e : kvGet (encN m) (tupI k) = some (((encN m).find? λ p => decide (keyD p.1 = some k)).map (·.2)) := by
  show ((intsD (k.map PyData.int)).bind λ ks => if tkd (encN m) = true then some (((encN m).find? λ p => decide (keyD p.1 = some ks)).map (·.2)) else none) = _
  rw [intsD_map, zD, if_pos (tkd_encN m)]
 rw [e, zG]
 congr 1
 unfold getN encN
 rw [List.find?_map]
 have f : ((λ p : PyData × PyData => decide (keyD p.1 = some k)) ∘ λ p : List Int × Int => (tupI p.1, PyData.int p.2)) = λ p => decide (p.1 = k) := by
  funext p
  show decide (keyD (tupI p.1) = some k) = _
  rw [keyD_tup]
  exact decide_eq_decide.mpr ⟨zV, congrArg some⟩
 rw [f]
 cases m.find? λ p => decide (p.1 = k) <;> rfl
theorem putN_len (m : Cn) (k : List Int) (v : Int) : (putN m k v).length <= m.length + 1 := by
 unfold putN
 split <;> simp
theorem cntN_snoc (g : List Int) (cs : List (List Int)) (x : List Int) : cntN g (cs ++ [x]) = putN (cntN g cs) (GC.ans x g) (getN (cntN g cs) (GC.ans x g) + 1) := by
 unfold cntN
 rw [List.foldl_append]
 rfl
theorem foldl_len {g : List Int} : ∀ (cs : List (List Int)) (m : Cn), (cs.foldl (λ m x => putN m (GC.ans x g) (getN m (GC.ans x g) + 1)) m).length <= m.length + cs.length
 | [], m => Q1 _
 | x :: r, m => by
  have h1 := foldl_len r (putN m (GC.ans x g) (getN m (GC.ans x g) + 1)) (g := g)
  have h2 := putN_len m (GC.ans x g) (getN m (GC.ans x g) + 1)
  rw [List.foldl_cons, zC]
  omega
theorem cntN_len (g : List Int) (cs : List (List Int)) : (cntN g cs).length <= cs.length := by
 have := foldl_len (g := g) cs []
 simpa [cntN] using this
theorem counts_ok {cs : List (List Int)} {g : List Int} (hx : ∀ x ∈ cs, x.length = g.length) (gl : g.length <= 100) (cl : cs.length <= 1000) : Fcounts_by_answer [.list (cs.map tupI), tupI g] = some (.dict (encN (cntN g cs))) := by
 obtain ⟨δ', e1, v3, v4, e2⟩ := loopD_of (fg := (gN 3)) (fb := (dSeq (dSet 4 (dOwnCall 2 Fanswer_of (dCons (dVar 3) (dCons (dVar 1) dNil)))) (dPut 2 (dVar 4) (d2 addD (dGet2E 2 (dVar 4) (dC (.int 0))) (dC (.int 1)))))) (ds := cs.map tupI) (δ := [some (.fz (.list (cs.map tupI))), some (.fz (tupI g)), some (.od []), none, none])
  (λ i δ => ∃ v3 v4, δ = [some (.fz (.list (cs.map tupI))), some (.fz (tupI g)), some (.od (encN (cntN g (cs.take i)))), v3, v4]) ⟨none, none, rfl⟩ (by
   rintro i hi δ ⟨v3, v4, rfl⟩
   have hi' : i < cs.length := by simpa using hi
   have ed : (cs.map tupI)[i] = tupI cs[i] := by simp
   have q1 := answer_of_ok (hx _ (Q17 hi')) (by rw [hx _ (Q17 hi')]; exact gl)
   have l1 : (encN (cntN g (cs.take i))).length < LIM := by
    have := cntN_len g (cs.take i)
    rw [encN, zJ]
    exact nLl (show _ < 1001 by rw [Q24] at this; omega) (by decide)
   refine ⟨_, [some (.fz (.list (cs.map tupI))), some (.fz (tupI g)), some (.od (encN (cntN g (cs.take (i + 1))))), some (.fz (tupI cs[i])), some (.fz (tupI (GC.ans cs[i] g)))], rfl, ?_, _, _, rfl⟩
   rw [ed, Q2b hi', cntN_snoc]
   simp only [dSeq, dSet, dVar, dC, d2, dOwnCall, dNil, dCons, add_ii, dPut, dGet2E, slotD, zC, zH, zA, zB, zE, zF, zD, zG, Nat.reduceAdd, ↓reduceIte, q1, get_encN, put_encN, keyD_tup, tkd_encN, l1])
 rw [zJ, Q23] at e2
 subst e2
 simp only [Fcounts_by_answer, Bcounts_by_answer_tl, Bcounts_by_answer_0, Bcounts_by_answer_1, Bcounts_by_answer_2, runD, stD, dSeq, dRet, dFrz, dFor, dVar, dIter, seqD, DL.frz, resOf, dSetD, zI, zL, zC, zH, Q3, Q9, zA, zB, zE, zF, List.replicate, zD, zG, Nat.reduceAdd, Nat.reduceSub, e1]
theorem vints_encN : ∀ m : Cn, vintsD (encN m) = some (m.map (·.2))
 | [] => rfl
 | p :: r => by
  show (vintsD (encN r)).map (p.2 :: ·) = _
  rw [vints_encN r]
  rfl
theorem keys_encN : ∀ m : Cn, keysD (encN m) = some (m.map (·.1))
 | [] => rfl
 | p :: r => by
  show (keyD (tupI p.1)).bind (λ k => (keysD (encN r)).map (k :: ·)) = _
  rw [keyD_tup, keys_encN r]
  rfl
theorem code_len {p c : Int} {x : List Int} (h : Code p c x) : x.length = p.toNat := by have := h.len; omega
theorem sort_ok {m : Cn} (h2 : m.length < 64) : sortID (.dict (encN m)) = some (.list ((srtP m).map pairD)) := by
 show (keysD (encN m)).bind (λ ks => (vintsD (encN m)).bind λ ns => if decide (ks.length < 64) = true then some (PyData.list ((srtP (ks.zip ns)).map pairD)) else none) = _
 rw [keys_encN, vints_encN, zD, zD, if_pos]
 · rw [List.zip_map']
   have : m.map (λ x => (x.1, x.2)) = m := List.map_id m
   rw [this]
 · rw [zJ]; exact decide_eq_true h2
theorem split_ok {p c : Int} (h : (p, c) ∈ games) {as : List Ask} (ao : ∀ a ∈ as, AskOk p c a) (al : as.length <= 8) {g : List Int} (cg : Code p c g) (h2 : (cntN g ((codes p c).filter (fits as))).length < 64) :
 Fsplit [tupI [p, c], .list (as.map encA), tupI g] = some (.list ((srtP (cntN g ((codes p c).filter (fits as)))).map pairD)) := by
 have b := games_b h
 have q1 : Fwhat_fits [tupI [p, c], .list (as.map encA)] = some (.list (((codes p c).filter (fits as)).map tupI)) := what_fits_ok h ao al
 have q2 := checked_code_ok h cg
 have lg := code_len cg
 have q3 := counts_ok (cs := (codes p c).filter (fits as)) (g := g) (λ x hx => by rw [lg, code_len (codes_code h (List.mem_filter.mp hx).1)]) (by omega) (Qb (List.length_filter_le _ _) (Qb (codes_len h) (by decide)))
 have q4 := sort_ok h2
 simp only [Fsplit, Bsplit_tl, Bsplit_0, Bsplit_1, Bsplit_2, runD, stD, dSeq, dSet, dRet, dDrop, dVar, dOwnCall, dNil, dCons, resOf, zI, zL, zC, zH, Q3, Q9, zA, zB, zE, zF, List.replicate, zD, zG, Nat.reduceAdd, Nat.reduceSub, ↓reduceIte, dSortI, q1, q2, q3, q4]
noncomputable def phL (m : Cl) : Cn := m.map λ p => (p.1, (p.2.length : Int))
noncomputable def partsL (g : List Int) (m : Cl) (cs : List (List Int)) : Cl := cs.foldl (λ m x => pushL m (GC.ans x g) (tupI x)) m
theorem pushL_mem {k x : List Int} {d : PyData} : ∀ {m : Cl}, x ∈ (pushL m k d).map (·.1) -> x ∈ m.map (·.1) \/ x = k
 | [], h => .inr (by simpa [pushL] using h)
 | p :: r, h => by
  unfold pushL at h
  split at h
  · exact .inl h
  · rcases Q2.mp h with h | h
    · exact .inl (by rw [h]; exact lMs)
    · rcases pushL_mem h with h | h
      · exact .inl (lMc _ h)
      · exact .inr h
theorem pushL_nd {k : List Int} {d : PyData} : ∀ {m : Cl}, (m.map (·.1)).Nodup -> ((pushL m k d).map (·.1)).Nodup
 | [], _ => by simp [pushL]
 | p :: r, h => by
  obtain ⟨h1, h2⟩ := Q14.mp (show (p.1 :: r.map (·.1)).Nodup from h)
  unfold pushL
  split
  · exact h
  · rename_i n
    refine Q14.mpr ⟨λ z => ?_, pushL_nd h2⟩
    rcases pushL_mem z with z | z
    · exact h1 z
    · exact n z
theorem getN_eq {p : List Int × Int} {r : Cn} {k : List Int} (e : p.1 = k) : getN (p :: r) k = p.2 := by
 unfold getN
 rw [Q15 (by simpa using e)]
 rfl
theorem getN_ne {p : List Int × Int} {r : Cn} {k : List Int} (e : ¬ p.1 = k) : getN (p :: r) k = getN r k := by
 unfold getN
 rw [Q16 (by simpa using e)]
theorem putN_ne {p : List Int × Int} {r : Cn} {k : List Int} {v : Int} (e : ¬ p.1 = k) : putN (p :: r) k v = p :: putN r k v := by
 unfold putN
 by_cases h : k ∈ r.map (·.1)
 · have hc : k ∈ (p :: r).map (·.1) := by rw [zI]; exact lMc _ h
   rw [if_pos hc, if_pos h, zI, if_neg e]
 · have hc : ¬ k ∈ (p :: r).map (·.1) := λ z => by
    rw [zI] at z
    rcases Q2.mp z with z | z
    · exact e z.symm
    · exact h z
   rw [if_neg hc, if_neg h]
   rfl
theorem putN_eq {p : List Int × Int} {r : Cn} {k : List Int} {v : Int} (e : p.1 = k) (n : k ∉ r.map (·.1)) : putN (p :: r) k v = (p.1, v) :: r := by
 unfold putN
 have hc : k ∈ (p :: r).map (·.1) := by rw [zI, <- e]; exact lMs
 rw [if_pos hc, zI, if_pos e]
 congr 1
 conv => rhs; rw [<- List.map_id r]
 apply Q26
 intro q hq
 rw [if_neg (λ z => n (by rw [<- z]; exact zP hq))]
 rfl
theorem ph_push {k : List Int} {d : PyData} : ∀ {m : Cl}, (m.map (·.1)).Nodup -> phL (pushL m k d) = putN (phL m) k (getN (phL m) k + 1)
 | [], _ => rfl
 | p :: r, h => by
  obtain ⟨h1, h2⟩ := Q14.mp (show (p.1 :: r.map (·.1)).Nodup from h)
  have keys : (phL r).map (·.1) = r.map (·.1) := by
   unfold phL
   rw [zO]
   rfl
  show phL (pushL (p :: r) k d) = putN ((p.1, (p.2.length : Int)) :: phL r) k (getN ((p.1, (p.2.length : Int)) :: phL r) k + 1)
  by_cases e : p.1 = k
  · rw [getN_eq (p := (p.1, (p.2.length : Int))) e, putN_eq (p := (p.1, (p.2.length : Int))) e (by rw [keys, <- e]; exact h1)]
    have e2 : pushL (p :: r) k d = (p.1, p.2 ++ [d]) :: r := if_pos e
    rw [e2]
    show (p.1, ((p.2 ++ [d]).length : Int)) :: phL r = _
    rw [zQ, Q29]
    rfl
  · rw [getN_ne (p := (p.1, (p.2.length : Int))) e, putN_ne (p := (p.1, (p.2.length : Int))) e, <- ph_push (d := d) h2]
    have e2 : pushL (p :: r) k d = p :: pushL r k d := if_neg e
    rw [e2]
    rfl
theorem ph_parts (g : List Int) : ∀ (cs : List (List Int)) (m : Cl), (m.map (·.1)).Nodup -> phL (partsL g m cs) = cs.foldl (λ m x => putN m (GC.ans x g) (getN m (GC.ans x g) + 1)) (phL m) /\ ((partsL g m cs).map (·.1)).Nodup
 | [], m, h => ⟨rfl, h⟩
 | x :: r, m, h => by
  have q := ph_parts g r (pushL m (GC.ans x g) (tupI x)) (pushL_nd h)
  rw [ph_push h] at q
  exact q
theorem parts_cnt (g : List Int) (cs : List (List Int)) : phL (partsL g [] cs) = cntN g cs := (ph_parts g cs [] List.nodup_nil).1
theorem parts_nd (g : List Int) (cs : List (List Int)) : ((partsL g [] cs).map (·.1)).Nodup := (ph_parts g cs [] List.nodup_nil).2
theorem pushL_len (k : List Int) (d : PyData) : ∀ m : Cl, (pushL m k d).length <= m.length + 1
 | [] => by simp [pushL]
 | p :: r => by
  have := pushL_len k d r
  unfold pushL
  split
  · simp
  · simp only [zC]; omega
theorem pushL_each {k : List Int} {d : PyData} {n : Nat} : ∀ {m : Cl}, (∀ p ∈ m, p.2.length <= n) -> ∀ p ∈ pushL m k d, p.2.length <= n + 1
 | [], _, p, hp => by
  have : p = (k, [d]) := by simpa [pushL] using hp
  rw [this]
  simp
 | q :: r, h, p, hp => by
  unfold pushL at hp
  split at hp
  · rcases Q2.mp hp with rfl | hp
    · have := h q lMs
      simp only [zQ, Q29]; omega
    · have := h p (lMc _ hp); omega
  · rcases Q2.mp hp with rfl | hp
    · have := h p lMs; omega
    · exact pushL_each (λ p hp => h p (lMc _ hp)) p hp
theorem loopP_ok {g : List Int} {d0 : PyData} (gl : g.length <= 100) : ∀ (cs : List (List Int)) (kls : Cl) (v3 v4 : Option Sl) (n : Nat), (∀ x ∈ cs, x.length = g.length) -> kls.length <= n -> (∀ p ∈ kls, p.2.length <= n) -> n + cs.length <= 1000 ->
 ∃ v3' v4', loopP (dOwnCall 2 F_law_answer (dCons (dVar 3) (dCons (dVar 1) dNil))) 3 4 2 (cs.map tupI) [some (.fz d0), some (.fz (tupI g)), none, v3, v4] kls = some (.nx [some (.fz d0), some (.fz (tupI g)), some (.od (encL (partsL g kls cs))), v3', v4'])
 | [], kls, v3, v4, n, _, _, _, _ => ⟨v3, v4, rfl⟩
 | x :: cs, kls, v3, v4, n, hx, h1, h2, h3 => by
  have lx := hx x lMs
  have q1 := law_answer_ok (a := x) (b := g) lx (by rw [lx]; exact gl)
  rw [<- GC.ans_law lx] at q1
  have hz : (decide (kls.length < LIM) && kls.all λ p => decide (p.2.length < LIM)) = true := by
   rw [Q4, Q12]
   rw [zC] at h3
   refine ⟨decide_eq_true (nLl (show kls.length < 1000 by omega) (by decide)), λ p hp => ?_⟩
   have := h2 p hp
   exact decide_eq_true (nLl (show p.2.length < 1000 by omega) (by decide))
  obtain ⟨v3', v4', go⟩ := loopP_ok (d0 := d0) gl cs (pushL kls (GC.ans x g) (tupI x)) (some (.fz (tupI x))) (some (.fz (tupI (GC.ans x g)))) (n + 1) (λ y hy => hx y (lMc _ hy)) (by have := pushL_len (GC.ans x g) (tupI x) kls; omega) (pushL_each h2) (by rw [zC] at h3; omega)
  refine ⟨v3', v4', ?_⟩
  rw [zI, loopP]
  simp only [dVar, dOwnCall, dNil, dCons, zC, zH, zA, zB, zE, zF, zD, Nat.reduceAdd, ↓reduceIte, q1, keyD_tup, hz]
  exact go
theorem parts_ok {cs : List (List Int)} {g : List Int} (hx : ∀ x ∈ cs, x.length = g.length) (gl : g.length <= 100) (cl : cs.length <= 1000) : F_law_parts [.list (cs.map tupI), tupI g] = some (.dict (encL (partsL g [] cs))) := by
 obtain ⟨v3, v4, go⟩ := loopP_ok (d0 := .list (cs.map tupI)) gl cs [] none none 0 hx (Q1 _) (λ p hp => nomatch hp) (by omega)
 have z : fzOnly [some (.fz (.list (cs.map tupI))), some (.fz (tupI g)), none, none, none] = true := rfl
 have z1 : decide (3 < 5) = true := rfl
 have z2 : decide (4 < 5) = true := rfl
 simp only [F_law_parts, B_law_parts_tl, B_law_parts_0, B_law_parts_1, B_law_parts_2, dParts, runD, stD, dSeq, dRet, dFrz, dVar, dIter, seqD, DL.frz, resOf, dSetD, zI, zL, zC, zH, Q3, Q9, zA, zB, zE, zF, List.replicate, zD, zG, Nat.reduceAdd, Nat.reduceSub, ↓reduceIte, Bool.and_true, z, z1, z2, go]
theorem keys_encL : ∀ m : Cl, keysD (encL m) = some (m.map (·.1))
 | [] => rfl
 | p :: r => by
  show (keyD (tupI p.1)).bind (λ k => (keysD (encL r)).map (k :: ·)) = _
  rw [keyD_tup, keys_encL r]
  rfl
theorem find_nd : ∀ {m : Cl} {p : List Int × List PyData}, (m.map (·.1)).Nodup -> p ∈ m -> m.find? (λ q => decide (q.1 = p.1)) = some p
 | [], _, _, h => by cases h
 | q :: r, p, nd, h => by
  obtain ⟨h1, h2⟩ := Q14.mp (show (q.1 :: r.map (·.1)).Nodup from nd)
  rcases Q2.mp h with rfl | h
  · rw [Q15 (by simp)]
  · rw [Q16 (by simpa using λ z => h1 (by rw [z]; exact zP h))]
    exact find_nd h2 h
theorem dget_encL {m : Cl} {p : List Int × List PyData} (nd : (m.map (·.1)).Nodup) (h : p ∈ m) : dgetD (.dict (encL m)) (tupI p.1) = some (.list p.2) := by
 have tk : tkd (encL m) = true := by cases m <;> rfl
 show (keysD (encL m)).bind (λ _ => (kvGet (encL m) (tupI p.1)).bind λ r => r) = _
 rw [keys_encL, zD]
 have e : kvGet (encL m) (tupI p.1) = some (((encL m).find? λ q => decide (keyD q.1 = some p.1)).map (·.2)) := by
  show ((intsD (p.1.map PyData.int)).bind λ ks => if tkd (encL m) = true then some (((encL m).find? λ p => decide (keyD p.1 = some ks)).map (·.2)) else none) = _
  rw [intsD_map, zD, if_pos tk]
 rw [e, zD]
 unfold encL
 rw [List.find?_map]
 have f : ((λ q : PyData × PyData => decide (keyD q.1 = some p.1)) ∘ λ q : List Int × List PyData => (tupI q.1, PyData.list q.2)) = λ q => decide (q.1 = p.1) := by
  funext q
  show decide (keyD (tupI q.1) = some p.1) = _
  rw [keyD_tup]
  exact decide_eq_decide.mpr ⟨zV, congrArg some⟩
 rw [f, find_nd nd h]
 rfl
theorem max_ix {ns : List Int} : ∀ j, j < ns.length -> ns.getD (mIx (λ i j => gtI ((ns.map PyData.int).getD i .none) ((ns.map PyData.int).getD j .none)) j) 0 = mxL ns j /\ mIx (λ i j => gtI ((ns.map PyData.int).getD i .none) ((ns.map PyData.int).getD j .none)) j <= j
 | 0, _ => ⟨rfl, Q1 _⟩
 | j + 1, h => by
  obtain ⟨q1, q2⟩ := max_ix (ns := ns) j (by omega)
  have gx : ∀ i, i < ns.length -> (ns.map PyData.int).getD i .none = .int (ns.getD i 0) := λ i hi => by
   rw [gDq, zK, gEq hi, gDq, gEq hi]
   rfl
  have hI : mIx (λ i j => gtI ((ns.map PyData.int).getD i .none) ((ns.map PyData.int).getD j .none)) (j + 1) = if gtI ((ns.map PyData.int).getD (j + 1) .none) ((ns.map PyData.int).getD (mIx (λ i j => gtI ((ns.map PyData.int).getD i .none) ((ns.map PyData.int).getD j .none)) j) .none) = true then j + 1 else mIx (λ i j => gtI ((ns.map PyData.int).getD i .none) ((ns.map PyData.int).getD j .none)) j := rfl
  have hM : mxL ns (j + 1) = if decide (ns.getD (j + 1) 0 > mxL ns j) = true then ns.getD (j + 1) 0 else mxL ns j := rfl
  rw [hI, hM, gx (j + 1) h, gx _ (by omega), q1]
  by_cases c : decide (ns.getD (j + 1) 0 > mxL ns j) = true
  · have c' : gtI (.int (ns.getD (j + 1) 0)) (.int (mxL ns j)) = true := c
    rw [if_pos c', if_pos c]
    exact ⟨rfl, Q1 _⟩
  · have c' : ¬ gtI (.int (ns.getD (j + 1) 0)) (.int (mxL ns j)) = true := c
    rw [if_neg c', if_neg c]
    exact ⟨q1, by omega⟩
theorem max_ok {ns : List Int} (h : ns ≠ []) : maxC [.list (ns.map PyData.int)] = some (.int (mxL ns (ns.length - 1))) := by
 have pos : 0 < ns.length := List.length_pos_iff.mpr h
 obtain ⟨q1, q2⟩ := max_ix (ns := ns) (ns.length - 1) (by omega)
 have c : (!(ns.map PyData.int).isEmpty && (intsD (ns.map PyData.int)).isSome) = true := by
  rw [intsD_map]
  cases ns with
  | nil => exact absurd rfl h
  | cons _ _ => rfl
 show (if (!(ns.map PyData.int).isEmpty && (intsD (ns.map PyData.int)).isSome) = true then (ns.map PyData.int)[_]? else none) = _
 rw [if_pos c, zJ, zK, gEq (by omega)]
 rw [gDq, gEq (by omega)] at q1
 rw [<- q1]
 rfl
theorem okD_can {d : PyData} (h : okD d = true) : d.canLay0 = true := by
 unfold okD at h
 rw [Q4] at h
 exact h.1
theorem neD_self {d : PyData} (h : okD d = true) : neD d d = some (.bool false) := by
 rw [neD_of h h, SeqAt.eqv_refl _ (okD_can h)]
 rfl
theorem okN_pair (q : KN) : okN 2 (pairD q) := okN_tup λ d hd => by
 rcases Q2.mp hd with rfl | hd
 · exact okN_tupI _
 · rcases Q2.mp hd with rfl | hd
   · exact ⟨(okN_int _).1, by have := (okN_int q.2).2; omega⟩
   · cases hd
theorem ok_rows (l : List KN) : okD (.list (l.map pairD)) = true := (okN_list (n := 2) λ d hd => by
 obtain ⟨a, _, rfl⟩ := Qc.mp hd
 exact okN_pair a).ok
theorem putN_inv {m : Cn} {k j : List Int} {v : Int} (h : j ∈ (putN m k v).map (·.1)) : j ∈ m.map (·.1) \/ j = k := by
 unfold putN at h
 split at h
 · rw [zO] at h
   obtain ⟨p, hp, e⟩ := Qc.mp h
   have e : (if p.1 = k then (p.1, v) else p).1 = j := e
   split at e
   · exact .inl (Qc.mpr ⟨p, hp, e⟩)
   · exact .inl (Qc.mpr ⟨p, hp, e⟩)
 · rw [Q1c] at h
   rcases Q25.mp h with h | h
   · exact .inl h
   · exact .inr (by simpa using h)
theorem foldl_inv {g j : List Int} : ∀ (cs : List (List Int)) (m : Cn), j ∈ (cs.foldl (λ m x => putN m (GC.ans x g) (getN m (GC.ans x g) + 1)) m).map (·.1) -> j ∈ m.map (·.1) \/ ∃ x ∈ cs, GC.ans x g = j
 | [], m, h => .inl h
 | x :: r, m, h => by
  rw [List.foldl_cons] at h
  rcases foldl_inv r _ h with h | ⟨y, hy, e⟩
  · rcases putN_inv h with h | h
    · exact .inl h
    · exact .inr ⟨x, lMs, h.symm⟩
  · exact .inr ⟨y, lMc _ hy, e⟩
theorem cntN_inv {g j : List Int} {cs : List (List Int)} (h : j ∈ (cntN g cs).map (·.1)) : ∃ x ∈ cs, GC.ans x g = j := by
 rcases foldl_inv cs [] h with h | h
 · cases h
 · exact h
theorem nd_len {α : Type} [DecidableEq α] : ∀ {l L : List α}, l.Nodup -> (∀ x ∈ l, x ∈ L) -> l.length <= L.length
 | [], _, _, _ => zU _
 | x :: r, L, nd, h => by
  obtain ⟨h1, h2⟩ := Q14.mp nd
  have hx := h x lMs
  have := nd_len (l := r) (L := L.erase x) h2 λ y hy => (List.mem_erase_of_ne (λ z : y = x => h1 (by rw [<- z]; exact hy))).mpr (h y (lMc _ hy))
  rw [List.length_erase_of_mem hx] at this
  have := List.length_pos_of_mem hx
  rw [zC]
  omega
theorem cnt_keys (g : List Int) (cs : List (List Int)) : (cntN g cs).map (·.1) = (partsL g [] cs).map (·.1) := by
 rw [<- parts_cnt]
 unfold phL
 rw [zO]
 rfl
theorem cnt_nd (g : List Int) (cs : List (List Int)) : ((cntN g cs).map (·.1)).Nodup := by rw [cnt_keys]; exact parts_nd g cs
theorem cnt_few {p c : Int} (h : (p, c) ∈ games) {cs : List (List Int)} (hc : ∀ x ∈ cs, Code p c x) {g : List Int} (cg : Code p c g) : (∀ k ∈ (cntN g cs).map (·.1), k.length = 2) /\ (cntN g cs).length < 64 := by
 have b := games_b h
 have two : ∀ k ∈ (cntN g cs).map (·.1), k.length = 2 /\ ∀ n ∈ k, 0 <= n /\ n <= p := λ k hk => by
  obtain ⟨x, hx, rfl⟩ := cntN_inv hk
  have l : x.length = g.length := by rw [code_len (hc x hx), code_len cg]
  rw [GC.ans_law l]
  exact lawAns_ok (hc x hx) cg
 refine ⟨λ k hk => (two k hk).1, ?_⟩
 have := nd_len (L := (List.range 5).flatMap λ r : Nat => (List.range 5).map λ e : Nat => [(r : Int), (e : Int)]) (cnt_nd g cs) λ k hk => by
  obtain ⟨l, q⟩ := two k hk
  match k, l with
  | [r, e], _ =>
   have qr := q r (by simp)
   have qe := q e (by simp)
   refine List.mem_flatMap.mpr ⟨r.toNat, List.mem_range.mpr (by omega), Qc.mpr ⟨e.toNat, List.mem_range.mpr (by omega), ?_⟩⟩
   rw [Int.toNat_of_nonneg qr.1, Int.toNat_of_nonneg qe.1]
 rw [zJ] at this
 exact Q27 this (by decide)
theorem getN_of {m : Cn} (nd : (m.map (·.1)).Nodup) {p : List Int × Int} (h : p ∈ m) : getN m p.1 = p.2 := by
 induction m with
 | nil => cases h
 | cons q r ih =>
  obtain ⟨h1, h2⟩ := Q14.mp (show (q.1 :: r.map (·.1)).Nodup from nd)
  rcases Q2.mp h with rfl | h
  · exact getN_eq rfl
  · rw [getN_ne (λ z => h1 (by rw [z]; exact zP h))]
    exact ih h2 h
theorem srt_keys {m : Cn} (nd : (m.map (·.1)).Nodup) : srtP m = (sortK (m.map (·.1))).map λ k => (k, getN m k) := by
 have p := srtP_perm m
 have pw := srtP_pw nd
 have e : (srtP m).map (·.1) = sortK (m.map (·.1)) := sortK_of nd (p.map _) (List.pairwise_map.mpr pw)
 rw [<- e, zO]
 conv => lhs; rw [<- List.map_id (srtP m)]
 apply Q26
 intro q hq
 show q = (q.1, getN m q.1)
 rw [getN_of nd (p.mem_iff.mp hq)]
theorem sortC_encL {m : Cl} (h1 : ∀ k ∈ m.map (·.1), k ≠ []) (h3 : m.length < 64) (nd : (m.map (·.1)).Nodup) : sortC [.dict (encL m)] = some (.list ((sortK (m.map (·.1))).map tupI)) := by
 have a1 : ((m.map (·.1)).all λ k => !k.isEmpty) = true := by
  rw [Q12]
  intro k hk
  cases k with
  | nil => exact absurd rfl (h1 _ hk)
  | cons _ _ => rfl
 have a3 : (m.map (·.1)).length < 64 := by rw [zJ]; exact h3
 show ((keysD (encL m)).bind λ ks => if (ks.all (λ k => !k.isEmpty) && decide (ks.length < 64) && decide ks.Nodup) = true then some (PyData.list ((sortK ks).map λ k => PyData.tuple (k.map PyData.int))) else none) = _
 rw [keys_encL, zD, a1, decide_eq_true a3, decide_eq_true nd]
 rfl
noncomputable def rowKey (q : KN) : PyData := .tuple [.int (-q.2), tupI q.1]
theorem okD_row (q : KN) : okD (rowKey q) = true := (okN_tup (n := 1) λ d hd => by
 rcases Q2.mp hd with rfl | hd
 · exact ⟨(okN_int _).1, by have := (okN_int (-q.2)).2; omega⟩
 · rcases Q2.mp hd with rfl | hd
   · exact okN_tupI _
   · cases hd).ok
theorem ltD_row (a b : KN) : L2.ltD (rowKey a) (rowKey b) = some (if a.2 = b.2 then lexI a.1 b.1 else decide (a.2 > b.2)) := by
 unfold rowKey
 rw [L2.ltD, L2.ltL, L2.ltL, eqv_int, eqv_tupI]
 by_cases e : a.2 = b.2
 · rw [if_pos (by rw [e]; exact decide_eq_true rfl), if_pos e]
   by_cases e2 : a.1 = b.1
   · rw [if_pos (decide_eq_true e2), e2, DL.lexI_irr]
     rfl
   · rw [if_neg (by simpa using e2), ltD_ints]
 · rw [if_neg (by simp; omega), if_neg e]
   show some (decide (-a.2 < -b.2)) = _
   congr 1
   exact decide_eq_decide.mpr (by omega)
noncomputable abbrev gtN (ns : List Int) : Nat -> Nat -> Bool := λ i j => gtI ((ns.map PyData.int).getD i .none) ((ns.map PyData.int).getD j .none)
theorem foe_ix {rows : List KN} (pw : rows.Pairwise ltP) : ∀ t, t < rows.length -> mIx (ltK (rows.map rowKey)) t = mIx (gtN (rows.map (·.2))) t
 | 0, _ => rfl
 | t + 1, h => by
  have ih := foe_ix pw t (by omega)
  have le := mIx_le (gtN (rows.map (·.2))) t
  show (if ltK (rows.map rowKey) (t + 1) (mIx (ltK (rows.map rowKey)) t) = true then t + 1 else mIx (ltK (rows.map rowKey)) t) = (if gtN (rows.map (·.2)) (t + 1) (mIx (gtN (rows.map (·.2))) t) = true then t + 1 else mIx (gtN (rows.map (·.2))) t)
  rw [ih]
  generalize mIx (gtN (rows.map (·.2))) t = i at le
  have hi : i < rows.length := by omega
  have kx : ∀ j (hj : j < rows.length), (rows.map rowKey).getD j .none = rowKey rows[j] := λ j hj => by
   rw [gDq, zK, gEq hj]
   rfl
  have nx : ∀ j (hj : j < rows.length), ((rows.map (·.2)).map PyData.int).getD j .none = .int rows[j].2 := λ j hj => by
   rw [gDq, zK, zK, gEq hj]
   rfl
  have asc : lexI rows[i].1 rows[t + 1].1 = true := List.pairwise_iff_getElem.mp pw i (t + 1) hi h (by omega)
  have desc : lexI rows[t + 1].1 rows[i].1 = false := by
   cases z : lexI rows[t + 1].1 rows[i].1 with
   | false => rfl
   | true =>
    have := lexI_tr _ _ _ asc z
    rw [DL.lexI_irr] at this
    cases this
  have e : ltK (rows.map rowKey) (t + 1) i = gtN (rows.map (·.2)) (t + 1) i := by
   unfold ltK
   show _ = gtI (((rows.map (·.2)).map PyData.int).getD (t + 1) .none) (((rows.map (·.2)).map PyData.int).getD i .none)
   rw [kx _ h, kx _ hi, nx _ h, nx _ hi, ltD_row, desc]
   show (if rows[t + 1].2 = rows[i].2 then false else decide (rows[t + 1].2 > rows[i].2)) = decide (rows[t + 1].2 > rows[i].2)
   split
   · rename_i z
     exact (decide_eq_false (by omega)).symm
   · rfl
  rw [e]
theorem mx_le {ns : List Int} : ∀ t i, i <= t -> ns.getD i 0 <= mxL ns t
 | 0, i, h => by
  have : i = 0 := by omega
  subst this
  exact Int.le_refl _
 | t + 1, i, h => by
  show _ <= if decide (ns.getD (t + 1) 0 > mxL ns t) = true then ns.getD (t + 1) 0 else mxL ns t
  rcases Nat.lt_or_ge t i with z | z
  · have : i = t + 1 := by omega
    subst this
    split
    · exact Int.le_refl _
    · rename_i c
      have : ¬ ns.getD (t + 1) 0 > mxL ns t := by simpa using c
      omega
  · have := mx_le (ns := ns) t i z
    split
    · rename_i c
      have := of_decide_eq_true c
      omega
    · exact this
theorem first_max {ns : List Int} : ∀ t, t < ns.length -> ∀ i, i < mIx (gtN ns) t -> ns.getD i 0 < mxL ns t
 | 0, _, i, h => absurd h (Nat.not_lt_zero _)
 | t + 1, h, i, hi => by
  obtain ⟨q1, q2⟩ : ns.getD (mIx (gtN ns) t) 0 = mxL ns t /\ mIx (gtN ns) t <= t := max_ix (ns := ns) t (by omega)
  have gx : ∀ i, i < ns.length -> (ns.map PyData.int).getD i .none = .int (ns.getD i 0) := λ i hi => by
   rw [gDq, zK, gEq hi, gDq, gEq hi]
   rfl
  have hI : mIx (gtN ns) (t + 1) = if gtI ((ns.map PyData.int).getD (t + 1) .none) ((ns.map PyData.int).getD (mIx (gtN ns) t) .none) = true then t + 1 else mIx (gtN ns) t := rfl
  have hM : mxL ns (t + 1) = if decide (ns.getD (t + 1) 0 > mxL ns t) = true then ns.getD (t + 1) 0 else mxL ns t := rfl
  rw [gx (t + 1) h, gx _ (by omega), q1] at hI
  rw [hI] at hi
  rw [hM]
  by_cases c : decide (ns.getD (t + 1) 0 > mxL ns t) = true
  · have c' : gtI (.int (ns.getD (t + 1) 0)) (.int (mxL ns t)) = true := c
    rw [if_pos c'] at hi
    rw [if_pos c]
    have := mx_le (ns := ns) t i (by omega)
    have := of_decide_eq_true c
    omega
  · have c' : ¬ gtI (.int (ns.getD (t + 1) 0)) (.int (mxL ns t)) = true := c
    rw [if_neg c'] at hi
    rw [if_neg c]
    exact first_max t (by omega) i hi
noncomputable def foeI (rows : List KN) : KN := rows.getD (mIx (gtN (rows.map (·.2))) (rows.length - 1)) ([], 0)
theorem foe_ixlt {rows : List KN} (h : rows ≠ []) : mIx (gtN (rows.map (·.2))) (rows.length - 1) < rows.length := by
 have := mIx_le (gtN (rows.map (·.2))) (rows.length - 1)
 have : 0 < rows.length := List.length_pos_iff.mpr h
 omega
theorem foe_first {rows : List KN} (h : rows ≠ []) : rows.find? (λ q => decide (q.2 = mxL (rows.map (·.2)) ((rows.map (·.2)).length - 1))) = some (foeI rows) := by
 have pos : 0 < rows.length := List.length_pos_iff.mpr h
 have ix := foe_ixlt h
 have len : (rows.map (·.2)).length = rows.length := zJ _
 obtain ⟨q1, q2⟩ := max_ix (ns := rows.map (·.2)) (rows.length - 1) (by omega)
 have nx : ∀ j (hj : j < rows.length), (rows.map (·.2)).getD j 0 = rows[j].2 := λ j hj => by
  rw [gDq, zK, gEq hj]
  rfl
 have fe : foeI rows = rows[mIx (gtN (rows.map (·.2))) (rows.length - 1)] := by
  unfold foeI
  rw [gDq, gEq ix]
  rfl
 rw [len, fe, List.find?_eq_some_iff_getElem]
 refine ⟨?_, _, ix, rfl, λ j hj => ?_⟩
 · have q : (rows.map (·.2)).getD (mIx (gtN (rows.map (·.2))) (rows.length - 1)) 0 = _ := q1
   rw [nx _ ix] at q
   exact decide_eq_true q
 · have lt := first_max (ns := rows.map (·.2)) (rows.length - 1) (by omega) j hj
   rw [nx _ (by omega)] at lt
   have : decide (rows[j].2 = mxL (rows.map (·.2)) (rows.length - 1)) = false := decide_eq_false (by omega)
   rw [this]
   rfl
theorem kys_row {fk : PyData -> Option PyData} : ∀ {l : List KN}, (∀ q ∈ l, fk (pairD q) = some (rowKey q)) -> kysD fk (l.map pairD) = some (l.map rowKey)
 | [], _ => rfl
 | x :: r, h => by
  show (fk (pairD x)).bind (λ k => (kysD fk (r.map pairD)).bind λ ks => some (k :: ks)) = _
  rw [h x lMs, kys_row λ y hy => h y (lMc _ hy)]
  rfl
theorem foe_min {rows : List KN} (pw : rows.Pairwise ltP) (hne : rows ≠ []) (v0 v1 v2 v4 : Option Sl) : (dMinK (dVar 3) [] (dTup (dCons (dNeg (d2 ixD (dVar 0) (dC (.int 1)))) (dCons (d2 ixD (dVar 0) (dC (.int 0))) dNil)))) [v0, v1, v2, some (.fz (.list (rows.map pairD))), v4] = some (pairD (foeI rows)) := by
 have ky := kys_row (fk := λ x => (dTup (dCons (dNeg (d2 ixD (dVar 0) (dC (.int 1)))) (dCons (d2 ixD (dVar 0) (dC (.int 0))) dNil))) (stD 1 [x])) (l := rows) λ q _ => by
  have i1 : ixD (pairD q) (.int 1) = some (.int q.2) := rfl
  have i0 : ixD (pairD q) (.int 0) = some (tupI q.1) := rfl
  have l2 : (2 : Nat) <= LIM := lim625 (by decide)
  simp only [stD, dVar, dC, d2, dNil, dCons, dTup, dNeg, zI, zL, zC, zH, Q5, zA, List.replicate, zD, Nat.reduceAdd, Nat.reduceSub, ↓reduceIte, stD, zI, zL, i1, i0, l2, rowKey]
 show minKD (λ x => (dTup (dCons (dNeg (d2 ixD (dVar 0) (dC (.int 1)))) (dCons (d2 ixD (dVar 0) (dC (.int 0))) dNil))) (stD 1 [x])) (rows.map pairD) = _
 unfold minKD
 rw [ky, zD, if_pos]
 · have pos : 0 < rows.length := List.length_pos_iff.mpr hne
   have h := foe_ixlt hne
   rw [zJ, foe_ix pw _ (by omega), zK, gEq h]
   unfold foeI
   rw [gDq, gEq h]
   rfl
 · rw [Q4, Q4]
   refine ⟨⟨?_, ?_⟩, ?_⟩
   · cases rows with
     | nil => exact absurd rfl hne
     | cons _ _ => rfl
   · rw [Q12]
     intro d hd
     obtain ⟨x, _, rfl⟩ := Qc.mp hd
     exact okD_row x
   · rw [Q12]
     intro d hd
     rw [Q12]
     intro e he
     obtain ⟨x, _, rfl⟩ := Qc.mp hd
     obtain ⟨y, _, rfl⟩ := Qc.mp he
     rw [ltD_row]
     rfl
theorem found_any {l : List PyData} (h : l.isEmpty = false) : Ffound_or_clash [.list l] = some (.list l) := by
 simp only [Ffound_or_clash, Bfound_or_clash_tl, Bfound_or_clash_0, Bfound_or_clash_1, runD, stD, dSeq, dIf, dRet, dVar, dTru, truD, dNotT, dNext, dNever, resOf, zI, zL, zC, zH, Q5, zA, List.replicate, zD, zG, Nat.reduceAdd, Nat.reduceSub, ↓reduceIte, Q1f, Bool.not_false, zN, h]
theorem found_none' : Ffound_or_clash [.list []] = none := by
 have e : ([] : List PyData).isEmpty = true := rfl
 simp only [Ffound_or_clash, Bfound_or_clash_tl, Bfound_or_clash_0, Bfound_or_clash_1, runD, stD, dSeq, dIf, dRet, dVar, dTru, truD, dNotT, dNext, dNever, zI, zL, zC, zH, Q5, zA, List.replicate, zD, Option.bind_none, zG, Nat.reduceAdd, Nat.reduceSub, ↓reduceIte, Q1f, Bool.not_false, List.isEmpty_nil]
theorem found_x' : Xfound_or_clash [.list []] = true := rfl
theorem foe_ok {p c : Int} {as : List Ask} {g : List Int} {rows : List KN} (q1 : Fsplit [tupI [p, c], .list (as.map encA), tupI g] = some (.list (rows.map pairD))) (pw : rows.Pairwise ltP) (hne : rows ≠ []) : Ffoe_answer [tupI [p, c], .list (as.map encA), tupI g] = some (tupI (foeI rows).1) := by
 have e : (rows.map pairD).isEmpty = false := by
  cases rows with
  | nil => exact absurd rfl hne
  | cons _ _ => rfl
 have q2 := found_any e
 have q3 := foe_min pw hne (some (.fz (tupI [p, c]))) (some (.fz (.list (as.map encA)))) (some (.fz (tupI g))) none
 have q4 : ixD (pairD (foeI rows)) (.int 0) = some (tupI (foeI rows).1) := rfl
 simp only [Ffoe_answer, Bfoe_answer_tl, Bfoe_answer_0, Bfoe_answer_1, Bfoe_answer_2, runD, stD, dSeq, dSet, dRet, dVar, dC, d2, dOwnCall, dNil, dCons, resOf, zI, zL, zC, zH, Q3, Q9, zA, zB, zE, zF, List.replicate, zD, zG, Nat.reduceAdd, Nat.reduceSub, ↓reduceIte, q1, q2, q3, q4]
theorem told_ok {p c : Int} {as : List Ask} {g : List Int} {rows : List KN} (q1 : Fsplit [tupI [p, c], .list (as.map encA), tupI g] = some (.list (rows.map pairD))) (pw : rows.Pairwise ltP) :
 F_law_told [tupI [p, c], .list (as.map encA), tupI g] = some (if rows = [] then .list [.bool true, .bool true] else tupI (foeI rows).1) := by
 unfold F_law_told toldD
 by_cases e : rows = []
 · have q1 : Fsplit [tupI [p, c], .list (as.map encA), tupI g] = some (.list []) := by rw [q1, e]; rfl
   have q2 := found_none'
   have q3 := found_x'
   have a : Ffoe_answer [tupI [p, c], .list (as.map encA), tupI g] = none := by simp only [Ffoe_answer, Bfoe_answer_tl, Bfoe_answer_0, Bfoe_answer_1, Bfoe_answer_2, runD, stD, dSeq, dSet, dRet, dVar, dC, d2, dOwnCall, dNil, dCons, zI, zL, zC, zH, Q3, Q9, zA, zB, zE, zF, List.replicate, zD, Option.bind_none, Option.map_none, Nat.reduceAdd, Nat.reduceSub, ↓reduceIte, q1, q2]
   have b : Xfoe_answer [tupI [p, c], .list (as.map encA), tupI g] = true := by simp only [Xfoe_answer, runX, xCall, stD, dVar, dOwnCall, dNil, dCons, zI, zL, zC, zH, Q3, Q9, zA, zB, List.replicate, zD, Nat.reduceAdd, Nat.reduceSub, ↓reduceIte, Bool.and_true, q1, q3, decide_true]
   rw [a, b, if_pos e]
   rfl
 · rw [foe_ok q1 pw e, if_neg e]
noncomputable def nOf : PyData -> Int
 | .tuple [_, .int n] => n
 | _ => 0
theorem nOf_pair (q : KN) : nOf (pairD q) = q.2 := rfl
theorem law_true (ns : List Int) (hl : ns.length <= 63) : Flaw [scr ns] = some (.bool true) := by
 obtain ⟨p, c, hg, hm⟩ := game_ok ns hl 1
 obtain ⟨as, ha, al, ao⟩ := asks_ok hm ns 2
 have b := games_b hm
 have hg' : F_law_game [scr ns, .int 1] = some (tupI [p, c]) := hg
 have ha' : F_law_asks [scr ns, .int 2, tupI [p, c]] = some (as.map encA) := ha
 have k0 : F_law_cell [scr ns, .int 0] = some (.int (cellI ns 0)) := cell_ok ns 0
 have k1 := code_ok hm (cellI ns 0)
 have cg := codeI_code hm (cellI ns 0)
 generalize codeI p c (cellI ns 0) = g at k1 cg
 have l0 : (as.map encA).length <= LIM := by rw [zJ]; exact lim625 (by omega)
 have q1 : F_law_left [tupI [p, c], .list (as.map encA)] = some (.list (((codes p c).filter (fits as)).map tupI)) := left_ok hm ao (by omega)
 have fl : ((codes p c).filter (fits as)).length <= 625 := Qb (List.length_filter_le _ _) (codes_len hm)
 have fc : ∀ x ∈ (codes p c).filter (fits as), Code p c x := λ x hx => codes_code hm (List.mem_filter.mp hx).1
 obtain ⟨two, few⟩ := cnt_few hm fc cg
 have q2 := split_ok hm ao (by omega) cg few
 generalize (codes p c).filter (fits as) = fit at q1 q2 fl fc two few
 have gl := code_len cg
 have q3 := parts_ok (cs := fit) (g := g) (λ x hx => by rw [code_len (fc x hx), gl]) (by omega) (by omega)
 have nd := parts_nd g fit
 have pc := parts_cnt g fit
 have kk := cnt_keys g fit
 have ndm := cnt_nd g fit
 have pe : (partsL g [] fit).length = (cntN g fit).length := by rw [<- pc]; exact (zJ _).symm
 have pw := srtP_pw ndm
 have sk := srt_keys ndm
 have rl : (srtP (cntN g fit)).length < 64 := by rw [(srtP_perm _).length_eq]; exact few
 have rz : srtP (cntN g fit) = [] ↔ cntN g fit = [] := by
  constructor
  · intro z
    have := (srtP_perm (cntN g fit)).length_eq
    rw [z] at this
    exact List.length_eq_zero_iff.mp this.symm
  · intro z; rw [z]; rfl
 have q4 := told_ok q2 pw
 generalize hp : partsL g [] fit = pl at q3 nd pc kk pe
 generalize hm' : cntN g fit = m at q2 two few pc kk ndm pe pw sk rl rz q4
 have sc := sortC_encL (m := pl) (λ k hk z => by
  have := two k (by rw [kk]; exact hk)
  rw [z] at this
  cases this) (by omega) nd
 generalize hrw : srtP m = rows at q2 pw sk rl rz q4
 have c0 : (dCompO 1 [("_law_parts_here", 4)] (dIter (dCall sortC (dCons (dVar 4) dNil))) (gN 0) dYes (dTup (dCons (dVar 0) (dCons (dCall lenC (dCons (d2 dgetD (dVar 1) (dVar 0)) dNil)) dNil)))) [some (.fz (scr ns)), some (.fz (tupI [p, c])), some (.fz (.list (as.map encA))), some (.fz (tupI g)), some (.fz (.dict (encL pl))), some (.fz (.list (rows.map pairD))), none, none] = some (rows.map pairD) := by
  rw [dCompO_map (ds := (sortK (pl.map (·.1))).map tupI) (λ d => .tuple [d, (lenC [(dgetD (.dict (encL pl)) d).getD .none]).getD .none]) (by simp only [dVar, dCall, dNil, dCons, dIter, seqD, zA, zB, zD, sc]) (by
   rw [zJ, show sortK (pl.map (·.1)) = sortK (m.map (·.1)) by rw [kk]]
   have : (sortK (m.map (·.1))).length = (m.map (·.1)).length := (List.mergeSort_perm _ leI).length_eq
   rw [this, zJ]
   exact lim625 (by omega)) (λ d hd => ?_)]
  · rw [sk, zO, zO, <- kk]
    congr 1
    apply Q26
    intro k hk
    have hk2 : k ∈ m.map (·.1) := (List.mergeSort_perm _ leI).mem_iff.mp hk
    rw [kk] at hk2
    obtain ⟨q, hq, rfl⟩ := Qc.mp hk2
    show PyData.tuple [tupI q.1, (lenC [(dgetD (.dict (encL pl)) (tupI q.1)).getD .none]).getD .none] = .tuple [tupI q.1, .int (getN m q.1)]
    have gm : getN m q.1 = (q.2.length : Int) := getN_of ndm (p := (q.1, (q.2.length : Int))) (by rw [<- pc]; exact zP hq)
    rw [dget_encL nd hq, gm]
    rfl
  · obtain ⟨k, hk, rfl⟩ := Qc.mp hd
    have hk2 : k ∈ pl.map (·.1) := (List.mergeSort_perm _ leI).mem_iff.mp hk
    obtain ⟨q, hq, rfl⟩ := Qc.mp hk2
    have g1 := dget_encL nd hq
    have l2 : (2 : Nat) <= LIM := lim625 (by decide)
    simp only [dVar, d2, dCall, dNil, dCons, dTup, st0D, dYes, gN, lenC, len_l, zI, zL, zC, zH, Q3, Q9, zA, zB, zE, List.replicate, zD, zG, Nat.reduceAdd, ↓reduceIte, g1, l2, Option.getD_some]
 have n1 := neD_self (ok_rows rows)
 have eE : eqE (.dict (encL pl)) (.dict []) = some (.bool pl.isEmpty) := by
  show (keysD (encL pl)).map (λ _ => PyData.bool (encL pl).isEmpty) = _
  rw [keys_encL]
  cases pl <;> rfl
 have rl2 : (rows.map pairD).length <= LIM := by rw [zJ]; exact lim625 (by omega)
 have z : (0 : Nat) <= LIM := zU _
 have z2 : (2 : Nat) <= LIM := lim625 (by decide)
 have pz : pl.isEmpty = decide (rows = []) := by
  rw [Bool.eq_iff_iff, List.isEmpty_iff, decide_eq_true_eq, rz]
  rw [<- List.length_eq_zero_iff, <- List.length_eq_zero_iff]
  omega
 by_cases hr : rows = []
 · rw [if_pos hr] at q4
   rw [pz, decide_eq_true hr] at eE
   have tb : eqD (.list [.bool true, .bool true]) (.list [.bool true, .bool true]) = some (.bool true) := rfl
   simp only [Flaw, Blaw_tl, Blaw_0, Blaw_1, Blaw_2, Blaw_3, Blaw_4, Blaw_5, Blaw_6, Blaw_7, Blaw_8, Blaw_9, runD, stD, dSeq, dIf, dSet, dRet, dVar, dC, d2, dCall, dOwnCall, dOwnCallO, dNil, dCons, dLstO, dOwn, dB, dTru, truD, dNotT, dOrT, dNext, resOf, dIsi, isi_ll, zI, zL, zC, zH, Q3, Q9, zA, zB, zE, zF, List.replicate, zD, zG, Nat.reduceAdd, Nat.reduceSub, ↓reduceIte, Q1f, zN, hg', ha', k0, k1, q1, q2, q3, q4, c0, n1, eE, tb, z2]
 · rw [if_neg hr] at q4
   rw [pz, decide_eq_false hr] at eE
   have c1 : ∀ v6, (dCompO 2 [] (dIter (dVar 5)) (gT 2 (gC (gN 0) (gC (gN 1) gZ))) dYes (dVar 1)) [some (.fz (scr ns)), some (.fz (tupI [p, c])), some (.fz (.list (as.map encA))), some (.fz (tupI g)), some (.fz (.dict (encL pl))), some (.fz (.list (rows.map pairD))), v6, none] = some ((rows.map (·.2)).map PyData.int) := λ v6 => by
    rw [dCompO_map (ds := rows.map pairD) (λ d => .int (nOf d)) (by simp only [dVar, dIter, seqD, zA, zB, zD]) rl2 (λ d hd => ?_)]
    · rw [zO, zO]
      rfl
    · obtain ⟨q, _, rfl⟩ := Qc.mp hd
      simp only [dVar, st0D, dYes, gN, gT, gZ, gC, zL, zC, zH, Q5, zA, zB, zE, zF, List.replicate, zD, zG, Nat.reduceAdd, ↓reduceIte, pairD, nOf]
   have mne : rows.map (·.2) ≠ [] := λ y => hr (List.map_eq_nil_iff.mp y)
   have mx := max_ok mne
   have ff := foe_first hr
   generalize mxL (rows.map (·.2)) ((rows.map (·.2)).length - 1) = M at mx ff
   have c2 : ∀ v6, (dCompO 2 [("_law_most", 7)] (dIter (dVar 5)) (gT 2 (gC (gN 0) (gC (gN 1) gZ))) (dB (d2 eqD (dVar 1) (dVar 2))) (dVar 0)) [some (.fz (scr ns)), some (.fz (tupI [p, c])), some (.fz (.list (as.map encA))), some (.fz (tupI g)), some (.fz (.dict (encL pl))), some (.fz (.list (rows.map pairD))), v6, some (.fz (.int M))] = some ((rows.filter λ q => decide (q.2 = M)).map λ q => tupI q.1) := λ v6 => by
    rw [dCompO_filter (ds := rows.map pairD) (λ d => decide (nOf d = M)) (λ d => (ixD d (.int 0)).getD .none) (by simp only [dVar, dIter, seqD, zA, zB, zD]) rl2 (λ d hd => ?_)]
    · rw [filter_enc pairD _ (λ q => decide (q.2 = M)) (λ q _ => by rw [nOf_pair]), zO]
      rfl
    · obtain ⟨q, _, rfl⟩ := Qc.mp hd
      have i0 : ixD (pairD q) (.int 0) = some (tupI q.1) := rfl
      rw [nOf_pair, i0]
      cases hd' : decide (q.2 = M) <;> simp only [dVar, d2, dB, st0D, gN, gT, gZ, gC, zI, zL, zC, zH, Q3, Q9, zA, zB, zE, zF, List.replicate, zD, zG, Nat.reduceAdd, ↓reduceIte, zN, pairD, eqD_int, hd', Option.getD_some]
   have ix : ixD (.list ((rows.filter λ q => decide (q.2 = M)).map λ q => tupI q.1)) (.int 0) = some (tupI (foeI rows).1) := by
    have h1 : (rows.filter λ q => decide (q.2 = M)).head? = some (foeI rows) := by rw [List.head?_filter]; exact ff
    cases hz : rows.filter λ q => decide (q.2 = M) with
    | nil => rw [hz] at h1; cases h1
    | cons x r =>
     rw [hz] at h1
     cases h1
     exact atI_nat' (xs := (foeI rows :: r).map λ q => tupI q.1) (j := 0) (by simp)
   have es : eqD (tupI (foeI rows).1) (tupI (foeI rows).1) = some (.bool true) := by rw [eqD_tupI, decide_eq_true rfl]
   have ml : ((rows.map (·.2)).map PyData.int).length <= LIM := by rw [zJ, zJ]; exact lim625 (by omega)
   simp only [Flaw, Blaw_tl, Blaw_0, Blaw_1, Blaw_2, Blaw_3, Blaw_4, Blaw_5, Blaw_6, Blaw_7, Blaw_8, Blaw_9, runD, stD, dSeq, dIf, dSet, dRet, dVar, dC, d2, dCall, dOwnCall, dOwnCallO, dNil, dCons, dLstO, dOwn, dB, dTru, truD, dNotT, dOrT, dNext, resOf, dIsi, isi_ll, zI, zL, zC, zH, Q3, Q9, zA, zB, zE, zF, List.replicate, zD, zG, Nat.reduceAdd, Nat.reduceSub, ↓reduceIte, Q1f, zN, hg', ha', k0, k1, q1, q2, q3, q4, c0, n1, eE, c1, mx, c2, ix, es]
noncomputable def top (i : Nat) : Stmt := PySem.Challenge.pw_guesscode_k08_splits.main.body.getD i (.Pass ⟨0, 0, 0, 0⟩)
section
variable {P : Program} {w : World} {K : Fg} {mg : Str -> Option Value} {base : Heap} {f : Addr} {fd : FuncData}
noncomputable abbrev s_law_mix : Stmt := top 35
theorem sc_law_mix : FnScope ["_law_cell_here", "_law_prime", "_law_many"] ["_law_cell_here", "_law_prime", "_law_many"] (defScope s_law_mix) := fsc
theorem ok_law_mix (F : Fun K "_law_mix" "_law_mix" s_law_mix f fd) (B : Bt mg) : FnOk P w K mg base CX0 1 f fd ["_law_cell_here", "_law_prime", "_law_many"] (spD K 3 F_law_mix) :=
 fun_okD F sc_law_mix rfl rfl λ cdv A outer s H E hr => have hu := hr.units
  ⟨_, (pss_one (ps_ret (pe_op op_mod (pe_op op_mod (pe_op op_mul (pv 0) pe_int) (pv 1)) (pv 2)))), (ss_ret (se_op od_mod (se_op od_mod (se_op od_mul (se_var 0) se_int) (se_var 1)) (se_var 2)))⟩
abbrev W_law_mix (P : Program) (w : World) (K : Fg) (mg : Str -> Option Value) (base : Heap) : Prop := Own P w K mg base 1 "_law_mix" ["_law_cell_here", "_law_prime", "_law_many"] (spD K 3 F_law_mix)
noncomputable abbrev s_law_cell : Stmt := top 34
theorem sc_law_cell : FnScope ["_law_script", "_law_k"] ["_law_script", "_law_k"] (defScope s_law_cell) := fsc
theorem ok_law_cell (F : Fun K "_law_cell" "_law_cell" s_law_cell f fd) (B : Bt mg) : FnOk P w K mg base CX0 1 f fd ["_law_script", "_law_k"] (spD K 2 F_law_cell) :=
 fun_okD F sc_law_cell rfl rfl λ cdv A outer s H E hr => have hu := hr.units
  ⟨_, (pss_cons (ps_if (pt_cmpR op_lt (pv 1) (pe_callB (kx_lenA K) (by rfl) B.len PySem.boot_len (pa_cons (pv 0) pa_nil)) (nomark _)) (pss_one (ps_ret (pe_ix (kx_ix K) (pv 0) (pv 1) (λ _ _ => rfl)))) pss_nil) (pss_one (ps_ret pe_int))), (ss_seq (ss_if (st_test (se_op od_lt (se_var 1) (se_callB cd_len (sa_cons (se_var 0) sa_nil)))) (ss_ret (se_op od_ix (se_var 0) (se_var 1))) ss_next) (ss_ret se_int))⟩
abbrev W_law_cell (P : Program) (w : World) (K : Fg) (mg : Str -> Option Value) (base : Heap) : Prop := Own P w K mg base 1 "_law_cell" ["_law_script", "_law_k"] (spD K 2 F_law_cell)
noncomputable abbrev s_law_game : Stmt := top 36
theorem sc_law_game : FnScope ["_law_script", "_law_at", "_law_some", "_law_many"] ["_law_script", "_law_at"] (defScope s_law_game) := fsc
theorem ok_law_game (F : Fun K "_law_game" "_law_game" s_law_game f fd) (B : Bt mg) (O_law_mix : W_law_mix P w K mg base) (O_law_cell : W_law_cell P w K mg base) : FnOk P w K mg base CX0 2 f fd ["_law_script", "_law_at"] (spD K 2 F_law_game) :=
 fun_okD F sc_law_game rfl rfl λ cdv A outer s H E hr => have hu := hr.units
  ⟨_, (@pss_lits _ _ _ _ _ (@ps_lits _ 2 _ _ _ _ _ [.tuple [.int 2, .int 3], .tuple [.int 3, .int 2], .tuple [.int 3, .int 3], .tuple [.int 2, .int 4], .tuple [.int 4, .int 2], .tuple [.int 1, .int 5], .tuple [.int 2, .int 5], .tuple [.int 3, .int 4], .tuple [.int 4, .int 3], .tuple [.int 5, .int 2], .tuple [.int 2, .int 8], .tuple [.int 1, .int 1], .tuple [.int 2, .int 2]] sc_law_game.nd rfl (by first | exact Or.inl rfl | exact Or.inr rfl) (by rfl) (by rfl) (Or.inl rfl)) (pss_cons (ps_setL (i := 3) sc_law_game.nd pe_int) (pss_cons (ps_if (pt_cmpR op_gt (pe_callB (kx_lenA K) (by rfl) B.len PySem.boot_len (pa_cons (pv 0) pa_nil)) pe_int (nomark _)) (pss_one (ps_setL (i := 3) sc_law_game.nd pe_int)) pss_nil) (pss_one (ps_ret (pe_ix (kx_ix K) (pv 2) (pe_own O_law_mix hr (pa_cons (pe_own O_law_cell hr (pa_cons (pv 0) (pa_cons (pv 1) pa_nil))) (pa_cons pe_int (pa_cons (pv 3) pa_nil)))) (λ _ _ => rfl))))))), (ss_seq (ss_set 2 (se_own (so_lst (@sa_lits _ [.tuple [.int 2, .int 3], .tuple [.int 3, .int 2], .tuple [.int 3, .int 3], .tuple [.int 2, .int 4], .tuple [.int 4, .int 2], .tuple [.int 1, .int 5], .tuple [.int 2, .int 5], .tuple [.int 3, .int 4], .tuple [.int 4, .int 3], .tuple [.int 5, .int 2], .tuple [.int 2, .int 8], .tuple [.int 1, .int 1], .tuple [.int 2, .int 2]] (by rfl))))) (ss_seq (ss_set 3 se_int) (ss_seq (ss_if (st_test (se_op od_gt (se_callB cd_len (sa_cons (se_var 0) sa_nil)) se_int)) (ss_set 3 se_int) ss_next) (ss_ret (se_op od_ix (se_var 2) (se_call (sa_cons (se_call (sa_cons (se_var 0) (sa_cons (se_var 1) sa_nil))) (sa_cons se_int (sa_cons (se_var 3) sa_nil)))))))))⟩
abbrev W_law_game (P : Program) (w : World) (K : Fg) (mg : Str -> Option Value) (base : Heap) : Prop := Own P w K mg base 2 "_law_game" ["_law_script", "_law_at"] (spD K 2 F_law_game)
noncomputable abbrev s_law_code : Stmt := top 37
theorem sc_law_code : FnScope ["_law_game_here", "_law_cell_here", "_law_found", "_law_place"] ["_law_game_here", "_law_cell_here"] (defScope s_law_code) := fsc
theorem ok_law_code (F : Fun K "_law_code" "_law_code" s_law_code f fd) (B : Bt mg) (O_law_mix : W_law_mix P w K mg base) : FnOk P w K mg base CX0 2 f fd ["_law_game_here", "_law_cell_here"] (spD K 2 F_law_code) :=
 fun_okD F sc_law_code rfl rfl λ cdv A outer s H E hr => have hu := hr.units
  ⟨_, (pss_cons (ps_setL (i := 2) sc_law_code.nd (pe_lst pa_nil)) (pss_cons (ps_for PassesOwn.never rfl (pi_range1 rfl B.range (pa_cons (pe_ix (kx_ix K) (pv 0) pe_int (λ _ _ => rfl)) pa_nil)) (pg_name (i := 3) sc_law_code.nd rfl (by first | exact Or.inl rfl | exact Or.inr rfl)) (pss_one (ps_expr (pe_bm PySem.F.plainAttrs_list PySem.F.slot_list_append PySem.F.type_list_append mt_append (pv 2) (pa_cons (pe_own O_law_mix hr (pa_cons (pe_op (kx_add K) (pe_op (kx_add K) (pv 1) (pe_op op_mul (pe_op op_mul pe_int (pv 3)) (pv 3))) (pe_op op_mul pe_int (pv 3))) (pa_cons pe_int (pa_cons (pe_ix (kx_ix K) (pv 0) pe_int (λ _ _ => rfl)) pa_nil)))) pa_nil))))) (pss_one (ps_ret (pe_callTy (kx_tuple K) (by rfl) B.tuple PyProof.Rows.boot_tuple (pa_cons (pv 2) pa_nil)))))), (ss_seq (ss_setO 2 (so_lst sa_nil)) (ss_seq (ss_for (si_rng1 (sa_cons (se_op od_ix (se_var 0) se_int) sa_nil)) (sg_name 3) (ss_append 2 (se_call (sa_cons (se_op od_add (se_op od_add (se_var 1) (se_op od_mul (se_op od_mul se_int (se_var 3)) (se_var 3))) (se_op od_mul se_int (se_var 3))) (sa_cons se_int (sa_cons (se_op od_ix (se_var 0) se_int) sa_nil)))))) (ss_frz 2 (ss_ret (se_callB cd_tup (sa_cons (se_var 2) sa_nil))))))⟩
abbrev W_law_code (P : Program) (w : World) (K : Fg) (mg : Str -> Option Value) (base : Heap) : Prop := Own P w K mg base 2 "_law_code" ["_law_game_here", "_law_cell_here"] (spD K 2 F_law_code)
noncomputable abbrev s_law_answer : Stmt := top 39
theorem sc_law_answer : FnScope ["_law_one", "_law_other", "_law_right", "_law_mine", "_law_theirs", "_law_a", "_law_b", "_law_elsewhere", "_law_colour"] ["_law_one", "_law_other"] (defScope s_law_answer) := fsc
theorem ok_law_answer (F : Fun K "_law_answer" "_law_answer" s_law_answer f fd) (B : Bt mg) : FnOk P w K mg base CX0 1 f fd ["_law_one", "_law_other"] (spD K 2 F_law_answer) :=
 fun_okD F sc_law_answer rfl rfl λ cdv A outer s H E hr => have hu := hr.units
  ⟨_, (pss_cons (ps_setL (i := 2) sc_law_answer.nd pe_int) (pss_cons (ps_setL (i := 3) sc_law_answer.nd (pe_lst pa_nil)) (pss_cons (ps_setL (i := 4) sc_law_answer.nd (pe_lst pa_nil)) (pss_cons (ps_for PassesOwn.never rfl (kx_zip K B.zip (pa_cons (pv 0) (pa_cons (pv 1) pa_nil))) (kx_pair K (pgs_cons (pg_name (i := 5) sc_law_answer.nd rfl (by first | exact Or.inl rfl | exact Or.inr rfl)) (pgs_cons (pg_name (i := 6) sc_law_answer.nd rfl (by first | exact Or.inl rfl | exact Or.inr rfl)) pgs_nil))) (pss_one (ps_if (pt_cmpR (kx_eqD K hu) (pv 5) (pv 6) (nomark _)) (pss_one (ps_setL (i := 2) sc_law_answer.nd (pe_op (kx_add K) (pv 2) pe_int))) (pss_cons (ps_expr (pe_bm PySem.F.plainAttrs_list PySem.F.slot_list_append PySem.F.type_list_append mt_append (pv 3) (pa_cons (pv 5) pa_nil))) (pss_one (ps_expr (pe_bm PySem.F.plainAttrs_list PySem.F.slot_list_append PySem.F.type_list_append mt_append (pv 4) (pa_cons (pv 6) pa_nil)))))))) (pss_cons (ps_setL (i := 7) sc_law_answer.nd pe_int) (pss_cons (ps_for PassesOwn.never rfl (kx_seq K (pv 3)) (pg_name (i := 8) sc_law_answer.nd rfl (by first | exact Or.inl rfl | exact Or.inr rfl)) (pss_one (ps_if (pt_cmpR (kx_in K) (pv 8) (pv 4) (by rfl)) (pss_cons (ps_expr (pe_bm PySem.F.plainAttrs_list PySem.F.slot_list_remove PySem.F.type_list_remove mt_remove (pv 4) (pa_cons (pv 8) pa_nil))) (pss_one (ps_setL (i := 7) sc_law_answer.nd (pe_op (kx_add K) (pv 7) pe_int)))) pss_nil))) (pss_one (ps_ret (pe_tup (pa_cons (pv 2) (pa_cons (pv 7) pa_nil))))))))))), (ss_seq (ss_set 2 se_int) (ss_seq (ss_setO 3 (so_lst sa_nil)) (ss_seq (ss_setO 4 (so_lst sa_nil)) (ss_seq (ss_for (si_zip (sa_cons (se_var 0) (sa_cons (se_var 1) sa_nil))) (sg_tup (sgs_cons (sg_name 5) (sgs_cons (sg_name 6) sgs_nil))) (ss_if (st_test (se_op od_eq (se_var 5) (se_var 6))) (ss_set 2 (se_op od_add (se_var 2) se_int)) (ss_seq (ss_append 3 (se_var 5)) (ss_append 4 (se_var 6))))) (ss_seq (ss_set 7 se_int) (ss_seq (ss_frz 3 (ss_for (si_seq (se_var 3)) (sg_name 8) (ss_if (st_test (se_inO false 4 (se_var 8))) (ss_seq (ss_remove 4 (se_var 8)) (ss_set 7 (se_op od_add (se_var 7) se_int))) ss_next))) (ss_ret (se_tup (sa_cons (se_var 2) (sa_cons (se_var 7) sa_nil))))))))))⟩
abbrev W_law_answer (P : Program) (w : World) (K : Fg) (mg : Str -> Option Value) (base : Heap) : Prop := Own P w K mg base 1 "_law_answer" ["_law_one", "_law_other"] (spD K 2 F_law_answer)
noncomputable abbrev s_law_asks : Stmt := top 40
theorem sc_law_asks : FnScope ["_law_script", "_law_at", "_law_game_here", "_law_hidden", "_law_found", "_law_k", "_law_seed", "_law_guess", "_law_told_here"] ["_law_script", "_law_at", "_law_game_here"] (defScope s_law_asks) := fsc
theorem ok_law_asks (F : Fun K "_law_asks" "_law_asks" s_law_asks f fd) (B : Bt mg) (O_law_code : W_law_code P w K mg base) (O_law_cell : W_law_cell P w K mg base) (O_law_mix : W_law_mix P w K mg base) (O_law_answer : W_law_answer P w K mg base) : FnOk P w K mg base CX0 3 f fd ["_law_script", "_law_at", "_law_game_here"] (spO K 3 F_law_asks) :=
 fun_okO F sc_law_asks rfl rfl λ cdv A outer s H E hr => have hu := hr.units
  ⟨_, (pss_cons (ps_setL (i := 3) sc_law_asks.nd (pe_own O_law_code hr (pa_cons (pv 2) (pa_cons (pe_own O_law_cell hr (pa_cons (pv 0) (pa_cons (pv 1) pa_nil))) pa_nil)))) (pss_cons (ps_setL (i := 4) sc_law_asks.nd (pe_lst pa_nil)) (pss_cons (ps_for PassesOwn.never rfl (pi_range1 rfl B.range (pa_cons (pe_own O_law_mix hr (pa_cons (pe_own O_law_cell hr (pa_cons (pv 0) (pa_cons (pe_op (kx_add K) (pv 1) pe_int) pa_nil))) (pa_cons pe_int (pa_cons pe_int pa_nil)))) pa_nil)) (pg_name (i := 5) sc_law_asks.nd rfl (by first | exact Or.inl rfl | exact Or.inr rfl)) (pss_cons (ps_setL (i := 6) sc_law_asks.nd (pe_op (kx_add K) (pe_own O_law_cell hr (pa_cons (pv 0) (pa_cons (pe_op (kx_add K) (pe_op (kx_add K) (pv 1) pe_int) (pv 5)) pa_nil))) (pe_op op_mul (pe_op op_mul pe_int (pv 5)) (pv 5)))) (pss_cons (ps_setL (i := 7) sc_law_asks.nd (pe_own O_law_code hr (pa_cons (pv 2) (pa_cons (pv 6) pa_nil)))) (pss_cons (ps_setL (i := 8) sc_law_asks.nd (pe_own O_law_answer hr (pa_cons (pv 3) (pa_cons (pv 7) pa_nil)))) (pss_cons (ps_if (pt_cmpR (kx_eqD K hu) (pe_own O_law_mix hr (pa_cons (pv 6) (pa_cons pe_int (pa_cons pe_int pa_nil)))) pe_int (nomark _)) (pss_one (ps_setL (i := 8) sc_law_asks.nd (pe_tup (pa_cons (pe_own O_law_mix hr (pa_cons (pv 6) (pa_cons pe_int (pa_cons (pe_op (kx_add K) (pe_ix (kx_ix K) (pv 2) pe_int (λ _ _ => rfl)) pe_int) pa_nil)))) (pa_cons (pe_own O_law_mix hr (pa_cons (pv 6) (pa_cons pe_int (pa_cons (pe_op (kx_add K) (pe_ix (kx_ix K) (pv 2) pe_int (λ _ _ => rfl)) pe_int) pa_nil)))) pa_nil))))) pss_nil) (pss_one (ps_expr (pe_bm PySem.F.plainAttrs_list PySem.F.slot_list_append PySem.F.type_list_append mt_append (pv 4) (pa_cons (pe_tup (pa_cons (pv 7) (pa_cons (pv 8) pa_nil))) pa_nil))))))))) (pss_one (ps_ret (pv 4)))))), (ss_seq (ss_set 3 (se_call (sa_cons (se_var 2) (sa_cons (se_call (sa_cons (se_var 0) (sa_cons (se_var 1) sa_nil))) sa_nil)))) (ss_seq (ss_setO 4 (so_lst sa_nil)) (ss_seq (ss_for (si_rng1 (sa_cons (se_call (sa_cons (se_call (sa_cons (se_var 0) (sa_cons (se_op od_add (se_var 1) se_int) sa_nil))) (sa_cons se_int (sa_cons se_int sa_nil)))) sa_nil)) (sg_name 5) (ss_seq (ss_set 6 (se_op od_add (se_call (sa_cons (se_var 0) (sa_cons (se_op od_add (se_op od_add (se_var 1) se_int) (se_var 5)) sa_nil))) (se_op od_mul (se_op od_mul se_int (se_var 5)) (se_var 5)))) (ss_seq (ss_set 7 (se_call (sa_cons (se_var 2) (sa_cons (se_var 6) sa_nil)))) (ss_seq (ss_set 8 (se_call (sa_cons (se_var 3) (sa_cons (se_var 7) sa_nil)))) (ss_seq (ss_if (st_test (se_op od_eq (se_call (sa_cons (se_var 6) (sa_cons se_int (sa_cons se_int sa_nil)))) se_int)) (ss_set 8 (se_tup (sa_cons (se_call (sa_cons (se_var 6) (sa_cons se_int (sa_cons (se_op od_add (se_op od_ix (se_var 2) se_int) se_int) sa_nil)))) (sa_cons (se_call (sa_cons (se_var 6) (sa_cons se_int (sa_cons (se_op od_add (se_op od_ix (se_var 2) se_int) se_int) sa_nil)))) sa_nil)))) ss_next) (ss_append 4 (se_tup (sa_cons (se_var 7) (sa_cons (se_var 8) sa_nil))))))))) (ss_retO 4))))⟩
abbrev W_law_asks (P : Program) (w : World) (K : Fg) (mg : Str -> Option Value) (base : Heap) : Prop := Own P w K mg base 3 "_law_asks" ["_law_script", "_law_at", "_law_game_here"] (spO K 3 F_law_asks)
noncomputable abbrev s_law_parts : Stmt := top 42
theorem sc_law_parts : FnScope ["_law_codes_here", "_law_guess", "_law_found", "_law_code_here", "_law_one"] ["_law_codes_here", "_law_guess"] (defScope s_law_parts) := fsc
theorem ok_law_parts (F : Fun K "_law_parts" "_law_parts" s_law_parts f fd) (B : Bt mg) (O_law_answer : W_law_answer P w K mg base) : FnOk P w K mg base CX0 2 f fd ["_law_codes_here", "_law_guess"] (spD K 2 F_law_parts) :=
 fun_okD F sc_law_parts rfl rfl λ cdv A outer s H E hr => have hu := hr.units
  ⟨_, (pss_cons (ps_setL (i := 2) sc_law_parts.nd pe_dnewT) (pss_cons (ps_for PassesOwn.never rfl (kx_seq K (pv 0)) (pg_name (i := 3) sc_law_parts.nd rfl (by first | exact Or.inl rfl | exact Or.inr rfl)) (pss_cons (ps_setL (i := 4) sc_law_parts.nd (pe_own O_law_answer hr (pa_cons (pv 3) (pa_cons (pv 1) pa_nil)))) (pss_cons (ps_if (pt_cmp (pc_dnotin (hu_of hr) (pv 4) (pv 2))) (pss_one (ps_dput (hu_of hr) (pv 2) (pv 4) (pe_lst pa_nil) (by rfl))) pss_nil) (pss_one (ps_expr (pe_bm PySem.F.plainAttrs_list PySem.F.slot_list_append PySem.F.type_list_append mt_append (pe_dget (hu_of hr) (pv 2) (pv 4) (λ _ _ => rfl)) (pa_cons (pv 3) pa_nil))))))) (pss_one (ps_ret (pv 2))))), (ss_seq (ss_setD 2) (ss_seq (ss_parts 3 4 2 (si_seq (se_var 0)) (se_call (sa_cons (se_var 3) (sa_cons (se_var 1) sa_nil)))) (ss_frz 2 (ss_ret (se_var 2)))))⟩
abbrev W_law_parts (P : Program) (w : World) (K : Fg) (mg : Str -> Option Value) (base : Heap) : Prop := Own P w K mg base 2 "_law_parts" ["_law_codes_here", "_law_guess"] (spD K 2 F_law_parts)
noncomputable abbrev sis_pair : Stmt := top 11
theorem scis_pair : FnScope ["thing"] ["thing"] (defScope sis_pair) := fsc
theorem okis_pair (F : Fun K "is_pair" "is_pair" sis_pair f fd) (B : Bt mg) : FnOk P w K mg base CX0 1 f fd ["thing"] (spD K 1 Fis_pair) :=
 fun_okD F scis_pair rfl rfl λ cdv A outer s H E hr => have hu := hr.units
  ⟨_, (pss_one (ps_ret (pe_and (pe_callB (kx_isiD K) (by rfl) B.isinstance boot_isi (pa_cons (pv 0) (pa_cons (pe_bltn (v := .ty "tuple") rfl B.tuple PyProof.Rows.boot_tuple rfl) pa_nil))) (pe_one (pe_cmpR (kx_eqD K hu) (pe_callB (kx_lenA K) (by rfl) B.len PySem.boot_len (pa_cons (pv 0) pa_nil)) pe_int (nomark _)))))), (ss_ret (se_and (se_isi (se_var 0)) (se_op od_eq (se_callB cd_len (sa_cons (se_var 0) sa_nil)) se_int)))⟩
abbrev Wis_pair (P : Program) (w : World) (K : Fg) (mg : Str -> Option Value) (base : Heap) : Prop := Own P w K mg base 1 "is_pair" ["thing"] (spD K 1 Fis_pair)
noncomputable abbrev show_many_codes : Stmt := top 12
theorem schow_many_codes : FnScope ["places", "colours", "codes", "place"] ["places", "colours"] (defScope show_many_codes) := fsc
theorem okhow_many_codes (F : Fun K "how_many_codes" "how_many_codes" show_many_codes f fd) (B : Bt mg) : FnOk P w K mg base CX0 1 f fd ["places", "colours"] (spD K 2 Fhow_many_codes) :=
 fun_okD F schow_many_codes rfl rfl λ cdv A outer s H E hr => have hu := hr.units
  ⟨_, (pss_cons (ps_setL (i := 2) schow_many_codes.nd pe_int) (pss_cons (ps_for PassesOwn.never rfl (pi_range1 rfl B.range (pa_cons (pv 0) pa_nil)) (pg_name (i := 3) schow_many_codes.nd rfl (by first | exact Or.inl rfl | exact Or.inr rfl)) (pss_one (ps_aug (i := 2) schow_many_codes.nd rfl (by first | exact Or.inl rfl | exact Or.inr rfl) (pv 1) iop_mul))) (pss_one (ps_ret (pv 2))))), (ss_seq (ss_set 2 se_int) (ss_seq (ss_for (si_rng1 (sa_cons (se_var 0) sa_nil)) (sg_name 3) (ss_aug 2 od_mul (se_var 1))) (ss_ret (se_var 2))))⟩
abbrev Whow_many_codes (P : Program) (w : World) (K : Fg) (mg : Str -> Option Value) (base : Heap) : Prop := Own P w K mg base 1 "how_many_codes" ["places", "colours"] (spD K 2 Fhow_many_codes)
noncomputable abbrev sis_number_within : Stmt := top 10
theorem scis_number_within : FnScope ["thing", "low", "high"] ["thing", "low", "high"] (defScope sis_number_within) := fsc
theorem okis_number_within (F : Fun K "is_number_within" "is_number_within" sis_number_within f fd) (B : Bt mg) : FnOk P w K mg base CX0 1 f fd ["thing", "low", "high"] (spD K 3 Fis_number_within) :=
 fun_okD F scis_number_within rfl rfl λ cdv A outer s H E hr => have hu := hr.units
  ⟨_, (pss_one (ps_ret (pe_and (pe_callB (kx_isiD K) (by rfl) B.isinstance boot_isi (pa_cons (pv 0) (pa_cons (pe_bltn (v := .ty "int") rfl B.int PyProof.Rows.boot_int rfl) pa_nil))) (pe_and (pe_not (pe_callB (kx_isiD K) (by rfl) B.isinstance boot_isi (pa_cons (pv 0) (pa_cons (pe_bltn (v := .ty "bool") rfl B.bool PyProof.Rows.boot_bool rfl) pa_nil)))) (pe_one (pe_chain op_le op_le (pv 1) (pv 0) (pv 2))))))), (ss_ret (se_and (se_isi (se_var 0)) (se_and (se_not (se_isi (se_var 0))) (se_chain od_le od_le (se_var 1) (se_var 0) (se_var 2)))))⟩
abbrev Wis_number_within (P : Program) (w : World) (K : Fg) (mg : Str -> Option Value) (base : Heap) : Prop := Own P w K mg base 1 "is_number_within" ["thing", "low", "high"] (spD K 3 Fis_number_within)
noncomputable abbrev sis_game : Stmt := top 13
theorem scis_game : FnScope ["thing"] ["thing"] (defScope sis_game) := fsc
theorem okis_game (F : Fun K "is_game" "is_game" sis_game f fd) (B : Bt mg) (Ois_pair : Wis_pair P w K mg base) (Ohow_many_codes : Whow_many_codes P w K mg base) (Ois_number_within : Wis_number_within P w K mg base) {tMOST_PLACES : Tok} (g_MOST_PLACES : mg "MOST_PLACES" = some (.int 5 tMOST_PLACES)) {tMOST_COLOURS : Tok} (g_MOST_COLOURS : mg "MOST_COLOURS" = some (.int 8 tMOST_COLOURS)) {tMOST_CODES : Tok} (g_MOST_CODES : mg "MOST_CODES" = some (.int 300 tMOST_CODES)) : FnOk P w K mg base CX0 2 f fd ["thing"] (spD K 1 Fis_game) :=
 fun_okD F scis_game rfl rfl λ cdv A outer s H E hr => have hu := hr.units
  ⟨_, (pss_cons (ps_if (pt_not (kx_tru K (pe_own Ois_pair hr (pa_cons (pv 0) pa_nil)))) (pss_one (ps_ret pe_bl)) pss_nil) (pss_cons (ps_if (PW.pt (pw_or (pt_not (kx_tru K (pe_own Ois_number_within hr (pa_cons (pe_ix (kx_ix K) (pv 0) pe_int (λ _ _ => rfl)) (pa_cons pe_int (pa_cons (pe_glob (v := .int 5) rfl g_MOST_PLACES ⟨_, rfl⟩) pa_nil)))))) (pw_or1 (pt_not (kx_tru K (pe_own Ois_number_within hr (pa_cons (pe_ix (kx_ix K) (pv 0) pe_int (λ _ _ => rfl)) (pa_cons pe_int (pa_cons (pe_glob (v := .int 8) rfl g_MOST_COLOURS ⟨_, rfl⟩) pa_nil))))))))) (pss_one (ps_ret pe_bl)) pss_nil) (pss_one (ps_ret (pe_cmpR op_le (pe_own Ohow_many_codes hr (pa_cons (pe_ix (kx_ix K) (pv 0) pe_int (λ _ _ => rfl)) (pa_cons (pe_ix (kx_ix K) (pv 0) pe_int (λ _ _ => rfl)) pa_nil))) (pe_glob (v := .int 300) rfl g_MOST_CODES ⟨_, rfl⟩) (nomark _)))))), (ss_seq (ss_if (st_not (st_tru (se_call (sa_cons (se_var 0) sa_nil)))) (ss_ret se_bl) ss_next) (ss_seq (ss_if (st_or (st_not (st_tru (se_call (sa_cons (se_op od_ix (se_var 0) se_int) (sa_cons se_int (sa_cons se_int sa_nil)))))) (st_not (st_tru (se_call (sa_cons (se_op od_ix (se_var 0) se_int) (sa_cons se_int (sa_cons se_int sa_nil))))))) (ss_ret se_bl) ss_next) (ss_ret (se_op od_le (se_call (sa_cons (se_op od_ix (se_var 0) se_int) (sa_cons (se_op od_ix (se_var 0) se_int) sa_nil))) se_int))))⟩
abbrev Wis_game (P : Program) (w : World) (K : Fg) (mg : Str -> Option Value) (base : Heap) : Prop := Own P w K mg base 2 "is_game" ["thing"] (spD K 1 Fis_game)
noncomputable abbrev schecked_game : Stmt := top 14
theorem scchecked_game : FnScope ["game"] ["game"] (defScope schecked_game) := fsc
theorem okchecked_game (F : Fun K "checked_game" "checked_game" schecked_game f fd) (B : Bt mg) (Ois_game : Wis_game P w K mg base) : FnOk P w K mg base CX0 3 f fd ["game"] (spD K 1 Fchecked_game) :=
 fun_okD F scchecked_game rfl rfl λ cdv A outer s H E hr => have hu := hr.units
  ⟨_, (pss_cons (ps_if (pt_not (kx_tru K (pe_own Ois_game hr (pa_cons (pv 0) pa_nil)))) (pss_one ps_never) pss_nil) (pss_one (ps_ret (pv 0)))), (ss_seq (ss_if (st_not (st_tru (se_call (sa_cons (se_var 0) sa_nil)))) ss_never ss_next) (ss_ret (se_var 0)))⟩
abbrev Wchecked_game (P : Program) (w : World) (K : Fg) (mg : Str -> Option Value) (base : Heap) : Prop := Own P w K mg base 3 "checked_game" ["game"] (spD K 1 Fchecked_game)
noncomputable abbrev sis_code : Stmt := top 15
theorem scis_code : FnScope ["game", "thing"] ["game", "thing"] (defScope sis_code) := fsc
theorem okis_code (F : Fun K "is_code" "is_code" sis_code f fd) (B : Bt mg) (Ois_number_within : Wis_number_within P w K mg base) : FnOk P w K mg base CX0 2 f fd ["game", "thing"] (spD K 2 Fis_code) :=
 fun_okD F scis_code rfl rfl λ cdv A outer s H E hr => have hu := hr.units
  ⟨_, (pss_cons (ps_if (PW.pt (pw_or (pt_not (kx_tru K (pe_callB (kx_isiD K) (by rfl) B.isinstance boot_isi (pa_cons (pv 1) (pa_cons (pe_bltn (v := .ty "tuple") rfl B.tuple PyProof.Rows.boot_tuple rfl) pa_nil))))) (pw_or1 (pt_cmpR (kx_neD K hu) (pe_callB (kx_lenA K) (by rfl) B.len PySem.boot_len (pa_cons (pv 1) pa_nil)) (pe_ix (kx_ix K) (pv 0) pe_int (λ _ _ => rfl)) (nomark _))))) (pss_one (ps_ret pe_bl)) pss_nil) (pss_one (ps_ret (pe_callB (kx_all K) (by rfl) B.all PyProof.Rows.boot_all (pa_cons (pe_compC ["colour"] [("game", 0)] (kx_seq K (pv 1)) (λ _ _ _ _ => (pg_name (i := 0) (show List.Nodup (["colour", "game"] : List Str) by decide +kernel) rfl (by first | exact Or.inl rfl | exact Or.inr rfl))) (λ _ _ _ _ => pts_nil) (λ _ _ _ _ => (pe_own Ois_number_within hr (pa_cons (pv 0) (pa_cons pe_int (pa_cons (pe_op op_sub (pe_ix (kx_ix K) (pv 1) pe_int (λ _ _ => rfl)) pe_int) pa_nil)))))) pa_nil))))), (ss_seq (ss_if (st_or (st_not (st_tru (se_isi (se_var 1)))) (st_test (se_op od_ne (se_callB cd_len (sa_cons (se_var 1) sa_nil)) (se_op od_ix (se_var 0) se_int)))) (ss_ret se_bl) ss_next) (ss_ret (se_callB cd_all (sa_cons (se_own (so_comp (si_seq (se_var 1)) (sg_name 0) low_name st_yes (se_call (sa_cons (se_var 0) (sa_cons se_int (sa_cons (se_op od_sub (se_op od_ix (se_var 1) se_int) se_int) sa_nil)))))) sa_nil))))⟩
abbrev Wis_code (P : Program) (w : World) (K : Fg) (mg : Str -> Option Value) (base : Heap) : Prop := Own P w K mg base 2 "is_code" ["game", "thing"] (spD K 2 Fis_code)
noncomputable abbrev sis_answer : Stmt := top 21
theorem scis_answer : FnScope ["game", "thing"] ["game", "thing"] (defScope sis_answer) := fsc
theorem okis_answer (F : Fun K "is_answer" "is_answer" sis_answer f fd) (B : Bt mg) (Ois_pair : Wis_pair P w K mg base) (Ois_number_within : Wis_number_within P w K mg base) : FnOk P w K mg base CX0 2 f fd ["game", "thing"] (spD K 2 Fis_answer) :=
 fun_okD F scis_answer rfl rfl λ cdv A outer s H E hr => have hu := hr.units
  ⟨_, (pss_one (ps_ret (pe_and (pe_own Ois_pair hr (pa_cons (pv 1) pa_nil)) (pe_one (pe_callB (kx_all K) (by rfl) B.all PyProof.Rows.boot_all (pa_cons (pe_compC ["number"] [("game", 0)] (kx_seq K (pv 1)) (λ _ _ _ _ => (pg_name (i := 0) (show List.Nodup (["number", "game"] : List Str) by decide +kernel) rfl (by first | exact Or.inl rfl | exact Or.inr rfl))) (λ _ _ _ _ => pts_nil) (λ _ _ _ _ => (pe_own Ois_number_within hr (pa_cons (pv 0) (pa_cons pe_int (pa_cons (pe_ix (kx_ix K) (pv 1) pe_int (λ _ _ => rfl)) pa_nil)))))) pa_nil)))))), (ss_ret (se_and (se_call (sa_cons (se_var 1) sa_nil)) (se_callB cd_all (sa_cons (se_own (so_comp (si_seq (se_var 1)) (sg_name 0) low_name st_yes (se_call (sa_cons (se_var 0) (sa_cons se_int (sa_cons (se_op od_ix (se_var 1) se_int) sa_nil)))))) sa_nil))))⟩
abbrev Wis_answer (P : Program) (w : World) (K : Fg) (mg : Str -> Option Value) (base : Heap) : Prop := Own P w K mg base 2 "is_answer" ["game", "thing"] (spD K 2 Fis_answer)
noncomputable abbrev sis_ask : Stmt := top 22
theorem scis_ask : FnScope ["game", "thing"] ["game", "thing"] (defScope sis_ask) := fsc
theorem okis_ask (F : Fun K "is_ask" "is_ask" sis_ask f fd) (B : Bt mg) (Ois_pair : Wis_pair P w K mg base) (Ois_code : Wis_code P w K mg base) (Ois_answer : Wis_answer P w K mg base) : FnOk P w K mg base CX0 3 f fd ["game", "thing"] (spD K 2 Fis_ask) :=
 fun_okD F scis_ask rfl rfl λ cdv A outer s H E hr => have hu := hr.units
  ⟨_, (pss_one (ps_ret (pe_and (pe_own Ois_pair hr (pa_cons (pv 1) pa_nil)) (pe_and (pe_own Ois_code hr (pa_cons (pv 0) (pa_cons (pe_ix (kx_ix K) (pv 1) pe_int (λ _ _ => rfl)) pa_nil))) (pe_one (pe_own Ois_answer hr (pa_cons (pv 0) (pa_cons (pe_ix (kx_ix K) (pv 1) pe_int (λ _ _ => rfl)) pa_nil)))))))), (ss_ret (se_and (se_call (sa_cons (se_var 1) sa_nil)) (se_and (se_call (sa_cons (se_var 0) (sa_cons (se_op od_ix (se_var 1) se_int) sa_nil))) (se_call (sa_cons (se_var 0) (sa_cons (se_op od_ix (se_var 1) se_int) sa_nil))))))⟩
abbrev Wis_ask (P : Program) (w : World) (K : Fg) (mg : Str -> Option Value) (base : Heap) : Prop := Own P w K mg base 3 "is_ask" ["game", "thing"] (spD K 2 Fis_ask)
noncomputable abbrev schecked_list : Stmt := top 23
theorem scchecked_list : FnScope ["game", "things", "is_one", "at", "thing"] ["game", "things", "is_one"] (defScope schecked_list) := fsc
theorem okchecked_list (F : Fun K "checked_list" "checked_list" schecked_list f fd) (B : Bt mg) (Nis_ask : OwnN P w K mg base 3 "is_ask" ["game", "thing"] (spD K 2 Fis_ask)) {tMOST_ASKS : Tok} (g_MOST_ASKS : mg "MOST_ASKS" = some (.int 8 tMOST_ASKS)) : FnOk P w K mg base CX0 4 f fd ["game", "things", "is_one"] (spD K 3 Fchecked_list) :=
 fun_okD F scchecked_list rfl rfl λ cdv A outer s H E hr => have hu := hr.units
  ⟨_, (pss_cons (ps_if (PW.pt (pw_or (pt_not (kx_tru K (pe_callB (kx_isiD K) (by rfl) B.isinstance boot_isi (pa_cons (pv 1) (pa_cons (pe_bltn (v := .ty "list") rfl B.list PyProof.Rows.boot_list rfl) pa_nil))))) (pw_or1 (pt_cmpR op_gt (pe_callB (kx_lenA K) (by rfl) B.len PySem.boot_len (pa_cons (pv 1) pa_nil)) (pe_glob (v := .int 8) rfl g_MOST_ASKS ⟨_, rfl⟩) (nomark _))))) (pss_one ps_never) pss_nil) (pss_cons (ps_for PassesOwn.never rfl (kx_en K B.enumerate (pa_cons (pv 1) pa_nil)) (kx_pair K (pgs_cons (pg_name (i := 3) scchecked_list.nd rfl (by first | exact Or.inl rfl | exact Or.inr rfl)) (pgs_cons (pg_name (i := 4) scchecked_list.nd rfl (by first | exact Or.inl rfl | exact Or.inr rfl)) pgs_nil))) (pss_one (ps_if (pt_not (kx_tru K (pe_ownV Nis_ask hr (pv 2) (pa_cons (pv 0) (pa_cons (pv 4) pa_nil))))) (pss_one ps_never) pss_nil))) (pss_one (ps_ret (pv 1))))), (ss_seq (ss_if (st_or (st_not (st_tru (se_isi (se_var 1)))) (st_test (se_op od_gt (se_callB cd_len (sa_cons (se_var 1) sa_nil)) se_int))) ss_never ss_next) (ss_seq (ss_for (si_en (sa_cons (se_var 1) sa_nil)) (sg_tup (sgs_cons (sg_name 3) (sgs_cons (sg_name 4) sgs_nil))) (ss_if (st_not (st_tru (se_callV (sa_cons (se_var 0) (sa_cons (se_var 4) sa_nil))))) ss_never ss_next)) (ss_ret (se_var 1))))⟩
abbrev Wchecked_list (P : Program) (w : World) (K : Fg) (mg : Str -> Option Value) (base : Heap) : Prop := Own P w K mg base 4 "checked_list" ["game", "things", "is_one"] (spD K 3 Fchecked_list)
noncomputable abbrev schecked_asks : Stmt := top 24
theorem scchecked_asks : FnScope ["game", "asks"] ["game", "asks"] (defScope schecked_asks) := fsc
theorem okchecked_asks (F : Fun K "checked_asks" "checked_asks" schecked_asks f fd) (B : Bt mg) (Ochecked_list : Wchecked_list P w K mg base) {Ais_ask : Addr} (mis_ask : mg "is_ask" = some (.ref Ais_ask)) (nis_ask : PySem.W.nsIn K mainGlobals "is_ask" = some (some (.ref Ais_ask))) : FnOk P w K mg base CX0 5 f fd ["game", "asks"] (spD K 2 Fchecked_asks) :=
 fun_okD F scchecked_asks rfl rfl λ cdv A outer s H E hr => have hu := hr.units
  ⟨_, (pss_one (ps_ret (pe_own Ochecked_list hr (pa_cons (pv 0) (pa_cons (pv 1) (pa_cons (pe_glob (v := .ref Ais_ask) rfl mis_ask rfl) pa_nil)))))), (ss_ret (se_call (sa_cons (se_var 0) (sa_cons (se_var 1) (sa_cons (se_fn nis_ask) sa_nil)))))⟩
abbrev Wchecked_asks (P : Program) (w : World) (K : Fg) (mg : Str -> Option Value) (base : Heap) : Prop := Own P w K mg base 5 "checked_asks" ["game", "asks"] (spD K 2 Fchecked_asks)
noncomputable abbrev sanswer_of : Stmt := top 18
theorem scanswer_of : FnScope ["hidden", "guess", "right", "shared", "unmatched", "place", "colour"] ["hidden", "guess"] (defScope sanswer_of) := fsc
theorem okanswer_of (F : Fun K "answer_of" "answer_of" sanswer_of f fd) (B : Bt mg) : FnOk P w K mg base CX0 1 f fd ["hidden", "guess"] (spD K 2 Fanswer_of) :=
 fun_okD F scanswer_of rfl rfl λ cdv A outer s H E hr => have hu := hr.units
  ⟨_, (pss_cons (ps_setL (i := 2) scanswer_of.nd pe_int) (pss_cons (ps_setL (i := 3) scanswer_of.nd pe_int) (pss_cons (ps_setL (i := 4) scanswer_of.nd (pe_callTy (kx_list K) (by rfl) B.list PyProof.Rows.boot_list (pa_cons (pv 0) pa_nil))) (pss_cons (ps_for PassesOwn.never rfl (kx_en K B.enumerate (pa_cons (pv 1) pa_nil)) (kx_pair K (pgs_cons (pg_name (i := 5) scanswer_of.nd rfl (by first | exact Or.inl rfl | exact Or.inr rfl)) (pgs_cons (pg_name (i := 6) scanswer_of.nd rfl (by first | exact Or.inl rfl | exact Or.inr rfl)) pgs_nil))) (pss_cons (ps_if (pt_cmpR (kx_eqD K hu) (pe_ix (kx_ix K) (pv 0) (pv 5) (λ _ _ => rfl)) (pv 6) (nomark _)) (pss_one (ps_aug (i := 2) scanswer_of.nd rfl (by first | exact Or.inl rfl | exact Or.inr rfl) pe_int iop_add)) pss_nil) (pss_one (ps_if (pt_cmpR (kx_in K) (pv 6) (pv 4) (by rfl)) (pss_cons (ps_expr (pe_bm PySem.F.plainAttrs_list PySem.F.slot_list_remove PySem.F.type_list_remove mt_remove (pv 4) (pa_cons (pv 6) pa_nil))) (pss_one (ps_aug (i := 3) scanswer_of.nd rfl (by first | exact Or.inl rfl | exact Or.inr rfl) pe_int iop_add))) pss_nil)))) (pss_one (ps_ret (pe_tup (pa_cons (pv 2) (pa_cons (pe_op op_sub (pv 3) (pv 2)) pa_nil))))))))), (ss_seq (ss_set 2 se_int) (ss_seq (ss_set 3 se_int) (ss_seq (ss_setO 4 (so_listOf (sa_cons (se_var 0) sa_nil))) (ss_seq (ss_for (si_en (sa_cons (se_var 1) sa_nil)) (sg_tup (sgs_cons (sg_name 5) (sgs_cons (sg_name 6) sgs_nil))) (ss_seq (ss_if (st_test (se_op od_eq (se_op od_ix (se_var 0) (se_var 5)) (se_var 6))) (ss_aug 2 od_iadd se_int) ss_next) (ss_if (st_test (se_inO false 4 (se_var 6))) (ss_seq (ss_remove 4 (se_var 6)) (ss_aug 3 od_iadd se_int)) ss_next))) (ss_ret (se_tup (sa_cons (se_var 2) (sa_cons (se_op od_sub (se_var 3) (se_var 2)) sa_nil))))))))⟩
abbrev Wanswer_of (P : Program) (w : World) (K : Fg) (mg : Str -> Option Value) (base : Heap) : Prop := Own P w K mg base 1 "answer_of" ["hidden", "guess"] (spD K 2 Fanswer_of)
noncomputable abbrev sfits_ask : Stmt := top 25
theorem scfits_ask : FnScope ["code", "ask"] ["code", "ask"] (defScope sfits_ask) := fsc
theorem okfits_ask (F : Fun K "fits_ask" "fits_ask" sfits_ask f fd) (B : Bt mg) (Oanswer_of : Wanswer_of P w K mg base) : FnOk P w K mg base CX0 2 f fd ["code", "ask"] (spD K 2 Ffits_ask) :=
 fun_okD F scfits_ask rfl rfl λ cdv A outer s H E hr => have hu := hr.units
  ⟨_, (pss_one (ps_ret (pe_cmpR (kx_eqD K hu) (pe_own Oanswer_of hr (pa_cons (pv 0) (pa_cons (pe_ix (kx_ix K) (pv 1) pe_int (λ _ _ => rfl)) pa_nil))) (pe_ix (kx_ix K) (pv 1) pe_int (λ _ _ => rfl)) (nomark _)))), (ss_ret (se_op od_eq (se_call (sa_cons (se_var 0) (sa_cons (se_op od_ix (se_var 1) se_int) sa_nil))) (se_op od_ix (se_var 1) se_int)))⟩
abbrev Wfits_ask (P : Program) (w : World) (K : Fg) (mg : Str -> Option Value) (base : Heap) : Prop := Own P w K mg base 2 "fits_ask" ["code", "ask"] (spD K 2 Ffits_ask)
noncomputable abbrev sthose_that_fit : Stmt := top 26
theorem scthose_that_fit : FnScope ["codes", "asks", "fitting", "ask"] ["codes", "asks"] (defScope sthose_that_fit) := fsc
theorem okthose_that_fit (F : Fun K "those_that_fit" "those_that_fit" sthose_that_fit f fd) (B : Bt mg) (Ofits_ask : Wfits_ask P w K mg base) : FnOk P w K mg base CX0 3 f fd ["codes", "asks"] (spD K 2 Fthose_that_fit) :=
 fun_okD F scthose_that_fit rfl rfl λ cdv A outer s H E hr => have hu := hr.units
  ⟨_, (pss_cons (ps_setL (i := 2) scthose_that_fit.nd (pv 0)) (pss_cons (ps_for PassesOwn.never rfl (kx_seq K (pv 1)) (pg_name (i := 3) scthose_that_fit.nd rfl (by first | exact Or.inl rfl | exact Or.inr rfl)) (pss_one (ps_setC (i := 2) ["code"] [("ask", 3)] scthose_that_fit.nd rfl (by first | exact Or.inl rfl | exact Or.inr rfl) (kx_seq K (pv 2)) (λ _ _ _ _ => (pg_name (i := 0) (show List.Nodup (["code", "ask"] : List Str) by decide +kernel) rfl (by first | exact Or.inl rfl | exact Or.inr rfl))) (λ _ _ _ _ => (pts_one (kx_tru K (pe_own Ofits_ask hr (pa_cons (pv 0) (pa_cons (pv 1) pa_nil)))))) (λ _ _ _ _ => (pv 0))))) (pss_one (ps_ret (pv 2))))), (ss_seq (ss_set 2 (se_var 0)) (ss_seq (ss_for (si_seq (se_var 1)) (sg_name 3) (ss_set 2 (se_own (so_comp (si_seq (se_var 2)) (sg_name 0) low_name (st_tru (se_call (sa_cons (se_var 0) (sa_cons (se_var 1) sa_nil)))) (se_var 0))))) (ss_ret (se_var 2))))⟩
abbrev Wthose_that_fit (P : Program) (w : World) (K : Fg) (mg : Str -> Option Value) (base : Heap) : Prop := Own P w K mg base 3 "those_that_fit" ["codes", "asks"] (spD K 2 Fthose_that_fit)
noncomputable abbrev sall_codes : Stmt := top 17
theorem scall_codes : FnScope ["game", "codes", "place", "longer", "code"] ["game"] (defScope sall_codes) := fsc
theorem okall_codes (F : Fun K "all_codes" "all_codes" sall_codes f fd) (B : Bt mg) (Ochecked_game : Wchecked_game P w K mg base) : FnOk P w K mg base CX0 4 f fd ["game"] (spD K 1 Fall_codes) :=
 fun_okD F scall_codes rfl rfl λ cdv A outer s H E hr => have hu := hr.units
  ⟨_, (pss_cons (ps_expr (pe_own Ochecked_game hr (pa_cons (pv 0) pa_nil))) (pss_cons (ps_setL (i := 1) scall_codes.nd (pe_lst (pa_cons (pe_tup pa_nil) pa_nil))) (pss_cons (ps_for PassesOwn.never rfl (pi_range1 rfl B.range (pa_cons (pe_ix (kx_ix K) (pv 0) pe_int (λ _ _ => rfl)) pa_nil)) (pg_name (i := 2) scall_codes.nd rfl (by first | exact Or.inl rfl | exact Or.inr rfl)) (pss_cons (ps_setL (i := 3) scall_codes.nd (pe_lst pa_nil)) (pss_cons (ps_for PassesOwn.never rfl (kx_seq K (pv 1)) (pg_name (i := 4) scall_codes.nd rfl (by first | exact Or.inl rfl | exact Or.inr rfl)) (pss_one (ps_expr (pe_bm PySem.F.plainAttrs_list PySem.F.slot_list_extend PySem.F.type_list_extend mt_extend (pv 3) (pa_cons (pe_compC ["colour"] [("code", 4)] (pi_range1 rfl B.range (pa_cons (pe_ix (kx_ix K) (pv 0) pe_int (λ _ _ => rfl)) pa_nil)) (λ _ _ _ _ => (pg_name (i := 0) (show List.Nodup (["colour", "code"] : List Str) by decide +kernel) rfl (by first | exact Or.inl rfl | exact Or.inr rfl))) (λ _ _ _ _ => pts_nil) (λ _ _ _ _ => (pe_op (kx_add K) (pv 1) (pe_tup (pa_cons (pv 0) pa_nil))))) pa_nil))))) (pss_one (ps_setL (i := 1) scall_codes.nd (pv 3)))))) (pss_one (ps_ret (pv 1)))))), (ss_seq (ss_drop (se_call (sa_cons (se_var 0) sa_nil))) (ss_seq (ss_set 1 (se_own (so_lst (sa_cons (se_tup sa_nil) sa_nil)))) (ss_seq (ss_for (si_rng1 (sa_cons (se_op od_ix (se_var 0) se_int) sa_nil)) (sg_name 2) (ss_seq (ss_setO 3 (so_lst sa_nil)) (ss_seq (ss_for (si_seq (se_var 1)) (sg_name 4) (ss_extend 3 (se_own (so_comp (si_rng1 (sa_cons (se_op od_ix (se_var 0) se_int) sa_nil)) (sg_name 0) low_name st_yes (se_op od_add (se_var 1) (se_tup (sa_cons (se_var 0) sa_nil))))))) (ss_frz 3 (ss_set 1 (se_var 3)))))) (ss_ret (se_var 1)))))⟩
abbrev Wall_codes (P : Program) (w : World) (K : Fg) (mg : Str -> Option Value) (base : Heap) : Prop := Own P w K mg base 4 "all_codes" ["game"] (spD K 1 Fall_codes)
noncomputable abbrev swhat_fits : Stmt := top 27
theorem scwhat_fits : FnScope ["game", "asks"] ["game", "asks"] (defScope swhat_fits) := fsc
theorem okwhat_fits (F : Fun K "what_fits" "what_fits" swhat_fits f fd) (B : Bt mg) (Ochecked_game : Wchecked_game P w K mg base) (Ochecked_asks : Wchecked_asks P w K mg base) (Othose_that_fit : Wthose_that_fit P w K mg base) (Oall_codes : Wall_codes P w K mg base) : FnOk P w K mg base CX0 6 f fd ["game", "asks"] (spD K 2 Fwhat_fits) :=
 fun_okD F scwhat_fits rfl rfl λ cdv A outer s H E hr => have hu := hr.units
  ⟨_, (pss_cons (ps_expr (pe_own Ochecked_game hr (pa_cons (pv 0) pa_nil))) (pss_cons (ps_expr (pe_own Ochecked_asks hr (pa_cons (pv 0) (pa_cons (pv 1) pa_nil)))) (pss_one (ps_ret (pe_own Othose_that_fit hr (pa_cons (pe_own Oall_codes hr (pa_cons (pv 0) pa_nil)) (pa_cons (pv 1) pa_nil))))))), (ss_seq (ss_drop (se_call (sa_cons (se_var 0) sa_nil))) (ss_seq (ss_drop (se_call (sa_cons (se_var 0) (sa_cons (se_var 1) sa_nil)))) (ss_ret (se_call (sa_cons (se_call (sa_cons (se_var 0) sa_nil)) (sa_cons (se_var 1) sa_nil))))))⟩
abbrev Wwhat_fits (P : Program) (w : World) (K : Fg) (mg : Str -> Option Value) (base : Heap) : Prop := Own P w K mg base 6 "what_fits" ["game", "asks"] (spD K 2 Fwhat_fits)
noncomputable abbrev schecked_code : Stmt := top 16
theorem scchecked_code : FnScope ["game", "code"] ["game", "code"] (defScope schecked_code) := fsc
theorem okchecked_code (F : Fun K "checked_code" "checked_code" schecked_code f fd) (B : Bt mg) (Ois_code : Wis_code P w K mg base) : FnOk P w K mg base CX0 3 f fd ["game", "code"] (spD K 2 Fchecked_code) :=
 fun_okD F scchecked_code rfl rfl λ cdv A outer s H E hr => have hu := hr.units
  ⟨_, (pss_cons (ps_if (pt_not (kx_tru K (pe_own Ois_code hr (pa_cons (pv 0) (pa_cons (pv 1) pa_nil))))) (pss_one ps_never) pss_nil) (pss_one (ps_ret (pv 1)))), (ss_seq (ss_if (st_not (st_tru (se_call (sa_cons (se_var 0) (sa_cons (se_var 1) sa_nil))))) ss_never ss_next) (ss_ret (se_var 1)))⟩
abbrev Wchecked_code (P : Program) (w : World) (K : Fg) (mg : Str -> Option Value) (base : Heap) : Prop := Own P w K mg base 3 "checked_code" ["game", "code"] (spD K 2 Fchecked_code)
noncomputable abbrev scounts_by_answer : Stmt := top 30
theorem sccounts_by_answer : FnScope ["codes", "guess", "counts", "code", "given"] ["codes", "guess"] (defScope scounts_by_answer) := fsc
theorem okcounts_by_answer (F : Fun K "counts_by_answer" "counts_by_answer" scounts_by_answer f fd) (B : Bt mg) (Oanswer_of : Wanswer_of P w K mg base) : FnOk P w K mg base CX0 2 f fd ["codes", "guess"] (spD K 2 Fcounts_by_answer) :=
 fun_okD F sccounts_by_answer rfl rfl λ cdv A outer s H E hr => have hu := hr.units
  ⟨_, (pss_cons (ps_setL (i := 2) sccounts_by_answer.nd pe_dnewT) (pss_cons (ps_for PassesOwn.never rfl (kx_seq K (pv 0)) (pg_name (i := 3) sccounts_by_answer.nd rfl (by first | exact Or.inl rfl | exact Or.inr rfl)) (pss_cons (ps_setL (i := 4) sccounts_by_answer.nd (pe_own Oanswer_of hr (pa_cons (pv 3) (pa_cons (pv 1) pa_nil)))) (pss_one (ps_dput (hu_of hr) (pv 2) (pv 4) (pe_op (kx_add K) (pe_dget2 (hu_of hr) (pv 2) (pv 4) pe_int ⟨by rfl, by rfl, by rfl, by rfl⟩) pe_int) (by rfl))))) (pss_one (ps_ret (pv 2))))), (ss_seq (ss_setD 2) (ss_seq (ss_for (si_seq (se_var 0)) (sg_name 3) (ss_seq (ss_set 4 (se_call (sa_cons (se_var 3) (sa_cons (se_var 1) sa_nil)))) (ss_dput 2 (se_var 4) (se_op od_add (se_dget2E 2 (se_var 4) se_int) se_int)))) (ss_frz 2 (ss_ret (se_var 2)))))⟩
abbrev Wcounts_by_answer (P : Program) (w : World) (K : Fg) (mg : Str -> Option Value) (base : Heap) : Prop := Own P w K mg base 2 "counts_by_answer" ["codes", "guess"] (spD K 2 Fcounts_by_answer)
noncomputable abbrev ssplit : Stmt := top 31
theorem scsplit : FnScope ["game", "asks", "guess", "fitting"] ["game", "asks", "guess"] (defScope ssplit) := fsc
theorem oksplit (F : Fun K "split" "split" ssplit f fd) (B : Bt mg) (Owhat_fits : Wwhat_fits P w K mg base) (Ochecked_code : Wchecked_code P w K mg base) (Ocounts_by_answer : Wcounts_by_answer P w K mg base) : FnOk P w K mg base CX0 7 f fd ["game", "asks", "guess"] (spD K 3 Fsplit) :=
 fun_okD F scsplit rfl rfl λ cdv A outer s H E hr => have hu := hr.units
  ⟨_, (pss_cons (ps_setL (i := 3) scsplit.nd (pe_own Owhat_fits hr (pa_cons (pv 0) (pa_cons (pv 1) pa_nil)))) (pss_cons (ps_expr (pe_own Ochecked_code hr (pa_cons (pv 0) (pa_cons (pv 2) pa_nil)))) (pss_one (ps_ret (kx_sortI K rfl hu (by rfl) B.sorted PyProof.Rows.boot_sorted (pe_own Ocounts_by_answer hr (pa_cons (pv 3) (pa_cons (pv 2) pa_nil)))))))), (ss_seq (ss_set 3 (se_call (sa_cons (se_var 0) (sa_cons (se_var 1) sa_nil)))) (ss_seq (ss_drop (se_call (sa_cons (se_var 0) (sa_cons (se_var 2) sa_nil)))) (ss_ret (se_sortI (se_call (sa_cons (se_var 3) (sa_cons (se_var 2) sa_nil)))))))⟩
abbrev Wsplit (P : Program) (w : World) (K : Fg) (mg : Str -> Option Value) (base : Heap) : Prop := Own P w K mg base 7 "split" ["game", "asks", "guess"] (spD K 3 Fsplit)
noncomputable abbrev sfound_or_clash : Stmt := top 28
theorem scfound_or_clash : FnScope ["found"] ["found"] (defScope sfound_or_clash) := fsc
theorem okfound_or_clash (F : Fun K "found_or_clash" "found_or_clash" sfound_or_clash f fd) (B : Bt mg) : FnOk P w K mg base CX0 1 f fd ["found"] (spD K 1 Ffound_or_clash) :=
 fun_okD F scfound_or_clash rfl rfl λ cdv A outer s H E hr => have hu := hr.units
  ⟨_, (pss_cons (ps_if (pt_not (kx_tru K (pv 0))) (pss_one ps_never) pss_nil) (pss_one (ps_ret (pv 0)))), (ss_seq (ss_if (st_not (st_tru (se_var 0))) ss_never ss_next) (ss_ret (se_var 0)))⟩
theorem okXfound_or_clash {C : Addr} (F : Fun K "found_or_clash" "found_or_clash" sfound_or_clash f fd) (B : Bt mg) (gC_ : mg "Clash" = some (.ref C)) (xC_ : PySem.W.excIn K C [.type "ValueError", .type "Exception", .type "BaseException", .type "object"] "ValueError.__new__" = true) : FnOk P w K mg base (CXF P w) 1 f fd ["found"] (spX K 1 C Xfound_or_clash) :=
 fun_okX F scfound_or_clash rfl rfl λ cdv A outer s H E hr => have hu := hr.units
  ⟨_, (pss_cons (ps_if (pt_not (kx_tru K (pv 0))) (pss_one (ps_raise gC_ xC_ PySem.F.excBase_ValueError (pa_cons pe_str pa_nil))) pss_nil) (pss_one (ps_ret (pv 0)))), (sx_seq1 (sx_ifT (st_not (st_tru (se_var 0))) (sx_raise (sa_cons se_str sa_nil))))⟩
abbrev Wfound_or_clash (P : Program) (w : World) (K : Fg) (mg : Str -> Option Value) (base : Heap) : Prop := Own P w K mg base 1 "found_or_clash" ["found"] (spD K 1 Ffound_or_clash)
noncomputable abbrev sfoe_answer : Stmt := top 32
theorem scfoe_answer : FnScope ["game", "asks", "guess", "rows", "best"] ["game", "asks", "guess"] (defScope sfoe_answer) := fsc
theorem lffoe_answer : ∀ y ∈ (lamSc sfoe_answer).names, y.2 = .free -> (defScope sfoe_answer).names.lookup y.1 = some .cell \/ (defScope sfoe_answer).names.lookup y.1 = some .free := by decide +kernel
theorem okfoe_answer {cd_ tT_ : Addr} (F : FunC K "foe_answer" "foe_answer" sfoe_answer f fd cd_) (B : Bt mg) (Ofound_or_clash : Wfound_or_clash P w K mg base) (Osplit : Wsplit P w K mg base) (hC_ : PySem.W.codeHdIn K cd_ tT_ = true) (BM_ : BMdB base mg) : FnOk P w K mg base CX0 10 f fd ["game", "asks", "guess"] (spD K 3 Ffoe_answer) :=
 have TB_ : TblK K tT_ #[PySem.rawInt (lamPos sfoe_answer).line, PySem.rawInt (lamPos sfoe_answer).col, .str (("foe_answer" : Str) ++ ".<locals>." ++ "<lambda>") 0] := tblK_mk F hC_ λ _ _ _ _ _ => by rfl
 fun_okC F scfoe_answer rfl rfl λ A outer s H E hr => have hu := hr.units
  ⟨_, (pss_cons (ps_setL (i := 3) scfoe_answer.nd (pe_own Ofound_or_clash hr (pa_cons (pe_own Osplit hr (pa_cons (pv 0) (pa_cons (pv 1) (pa_cons (pv 2) pa_nil)))) pa_nil))) (pss_cons (ps_setL (i := 4) scfoe_answer.nd (pe_minK (P := tT_) (c := cd_) "row" [] rfl hr (by rfl) B.min PyProof.Rows.boot_min (pv 3) (se_var 3) TB_ hC_ rfl (by rfl) ⟨BM_.ex⟩ rfl rfl rfl (by decide +kernel) (lffoe_answer) (by first | rfl | decide +kernel) (λ _ h_ => nomatch h_) rfl (λ _ _ _ _ => rfl) (λ _ _ _ _ hr => have hu := hr.units; (pe_tup (pa_cons (pe_un un_neg (pe_ix (kx_ix K) (pv 0) pe_int (λ _ _ => rfl))) (pa_cons (pe_ix (kx_ix K) (pv 0) pe_int (λ _ _ => rfl)) pa_nil)))) (se_tup (sa_cons (se_neg (se_op od_ix (se_var 0) se_int)) (sa_cons (se_op od_ix (se_var 0) se_int) sa_nil))))) (pss_one (ps_ret (pe_ix (kx_ix K) (pv 4) pe_int (λ _ _ => rfl)))))), (ss_seq (ss_set 3 (se_call (sa_cons (se_call (sa_cons (se_var 0) (sa_cons (se_var 1) (sa_cons (se_var 2) sa_nil)))) sa_nil))) (ss_seq (ss_set 4 se_sem) (ss_ret (se_op od_ix (se_var 4) se_int))))⟩
theorem okXfoe_answer {C : Addr} (F : Fun K "foe_answer" "foe_answer" sfoe_answer f fd) (B : Bt mg) (Ofound_or_clash : Wfound_or_clash P w K mg base) (Osplit : Wsplit P w K mg base) (hC_ : PySem.W.codeHdIn K cd_ tT_ = true) (BM_ : BMdB base mg) (OXfound_or_clash : OwnX P w K mg base 1 "found_or_clash" ["found"] (spX K 1 C Xfound_or_clash)) : FnOk P w K mg base (CXF P w) 10 f fd ["game", "asks", "guess"] (spX K 3 C Xfoe_answer) :=
 fun_okX F scfoe_answer rfl rfl λ cdv A outer s H E hr => have hu := hr.units
  ⟨_, (pss_cons (ps_setL (i := 3) scfoe_answer.nd (pe_ownX OXfound_or_clash hr pass_flown (pa_cons (pe_own Osplit hr (pa_cons (pv 0) (pa_cons (pv 1) (pa_cons (pv 2) pa_nil)))) pa_nil))) pss_any), (sx_seq1 (sx_asg (sxe_call (sa_cons (se_call (sa_cons (se_var 0) (sa_cons (se_var 1) (sa_cons (se_var 2) sa_nil)))) sa_nil))))⟩
abbrev Wfoe_answer (P : Program) (w : World) (K : Fg) (mg : Str -> Option Value) (base : Heap) : Prop := Own P w K mg base 10 "foe_answer" ["game", "asks", "guess"] (spD K 3 Ffoe_answer)
noncomputable abbrev s_law_told : Stmt := top 43
theorem sc_law_told : FnScope ["_law_game_here", "_law_asks_here", "_law_guess", "e"] ["_law_game_here", "_law_asks_here", "_law_guess"] (defScope s_law_told) := fsc
theorem ok_law_told {D C : Addr} (F : Fun K "_law_told" "_law_told" s_law_told f fd) (B : Bt mg) (Ofoe_answer : Wfoe_answer P w K mg base) (OXfoe_answer : OwnX P w K mg base 10 "foe_answer" ["game", "asks", "guess"] (spX K 3 C Xfoe_answer))
 (gD_ : mg "GuessError" = some (.ref D)) (gC_ : mg "Clash" = some (.ref C)) (zV_ : mg "ValueError" = none) (hex : PySem.W.exmOne K (.ref C) (.ref D) = some true) (k1 : PySem.W.kitOne K (.ref C) (.ref C) = some true) (k2 : PySem.W.kitOne K (.ref C) (.type "ValueError") = some true) : FnOk P w K mg base CX0 11 f fd ["_law_game_here", "_law_asks_here", "_law_guess"] (spD K 3 F_law_told) := by
 refine F.ok sc_law_told (λ vs H Q E h => ?_) (λ cdv A outer s H vs Q E hr h => ?_)
 · obtain ⟨_, ds, d, _, hl, _⟩ := h
   exact hl
 · obtain ⟨F2, ds, d, sF, hl, ar, e, q⟩ := h
   rcases told_try (n := 3) (N := ["_law_game_here", "_law_asks_here", "_law_guess", "e"]) (sa_cons (se_var 0) (sa_cons (se_var 1) (sa_cons (se_var 2) sa_nil))) (λ ds hl => match ds, hl with | [_, _, _], _ => rfl) rfl sF hl ar e q hex k1 k2 with ⟨_, h⟩ | ⟨_, h⟩
   · exact ⟨_, pss_one (ps_try (i := 3) rfl rfl rfl sc_law_told.nd rfl rfl gD_ rfl (λ pn E2 E hp => pss_one (ps_ret (pe_own Ofoe_answer hr (pa_cons (pv 0) (pa_cons (pv 1) (pa_cons (pv 2) pa_nil)))))) (λ ea pn => pss_one (ps_ret (pe_lst (pa_cons (pe_callB call_isiX (by rfl) B.isinstance boot_isi (pa_cons (pv 3) (pa_cons (pe_glob (v := .ref C) rfl gC_ rfl) pa_nil))) (pa_cons (pe_callB call_isiX (by rfl) B.isinstance boot_isi (pa_cons (pv 3) (pa_cons (pe_bltn (v := .ty "ValueError") rfl zV_ (by decide +kernel) rfl) pa_nil))) pa_nil)))))), h⟩
   · exact ⟨_, pss_one (ps_try (i := 3) rfl rfl rfl sc_law_told.nd rfl rfl gD_ rfl (λ pn E2 E hp => pss_one (ps_ret (pe_ownX OXfoe_answer hr hp (pa_cons (pv 0) (pa_cons (pv 1) (pa_cons (pv 2) pa_nil)))))) (λ ea pn => pss_one (ps_ret (pe_lst (pa_cons (pe_callB call_isiX (by rfl) B.isinstance boot_isi (pa_cons (pv 3) (pa_cons (pe_glob (v := .ref C) rfl gC_ rfl) pa_nil))) (pa_cons (pe_callB call_isiX (by rfl) B.isinstance boot_isi (pa_cons (pv 3) (pa_cons (pe_bltn (v := .ty "ValueError") rfl zV_ (by decide +kernel) rfl) pa_nil))) pa_nil)))))), h⟩
abbrev W_law_told (P : Program) (w : World) (K : Fg) (mg : Str -> Option Value) (base : Heap) : Prop := Own P w K mg base 11 "_law_told" ["_law_game_here", "_law_asks_here", "_law_guess"] (spD K 3 F_law_told)
noncomputable abbrev s_law_codes : Stmt := top 38
theorem sc_law_codes : FnScope ["_law_game_here", "_law_found", "_law_place", "_law_more", "_law_code_here"] ["_law_game_here"] (defScope s_law_codes) := fsc
theorem ok_law_codes (F : Fun K "_law_codes" "_law_codes" s_law_codes f fd) (B : Bt mg) : FnOk P w K mg base CX0 1 f fd ["_law_game_here"] (spD K 1 F_law_codes) :=
 fun_okD F sc_law_codes rfl rfl λ cdv A outer s H E hr => have hu := hr.units
  ⟨_, (pss_cons (ps_setL (i := 1) sc_law_codes.nd (pe_lst (pa_cons (pe_tup pa_nil) pa_nil))) (pss_cons (ps_for PassesOwn.never rfl (pi_range1 rfl B.range (pa_cons (pe_ix (kx_ix K) (pv 0) pe_int (λ _ _ => rfl)) pa_nil)) (pg_name (i := 2) sc_law_codes.nd rfl (by first | exact Or.inl rfl | exact Or.inr rfl)) (pss_cons (ps_setL (i := 3) sc_law_codes.nd (pe_lst pa_nil)) (pss_cons (ps_for PassesOwn.never rfl (kx_seq K (pv 1)) (pg_name (i := 4) sc_law_codes.nd rfl (by first | exact Or.inl rfl | exact Or.inr rfl)) (pss_one (ps_setL (i := 3) sc_law_codes.nd (pe_op (kx_add K) (pv 3) (pe_compC ["_law_colour"] [("_law_code_here", 4)] (pi_range1 rfl B.range (pa_cons (pe_ix (kx_ix K) (pv 0) pe_int (λ _ _ => rfl)) pa_nil)) (λ _ _ _ _ => (pg_name (i := 0) (show List.Nodup (["_law_colour", "_law_code_here"] : List Str) by decide +kernel) rfl (by first | exact Or.inl rfl | exact Or.inr rfl))) (λ _ _ _ _ => pts_nil) (λ _ _ _ _ => (pe_op (kx_add K) (pv 1) (pe_tup (pa_cons (pv 0) pa_nil))))))))) (pss_one (ps_setL (i := 1) sc_law_codes.nd (pv 3)))))) (pss_one (ps_ret (pv 1))))), (ss_seq (ss_set 1 (se_own (so_lst (sa_cons (se_tup sa_nil) sa_nil)))) (ss_seq (ss_for (si_rng1 (sa_cons (se_op od_ix (se_var 0) se_int) sa_nil)) (sg_name 2) (ss_seq (ss_set 3 (se_own (so_lst sa_nil))) (ss_seq (ss_for (si_seq (se_var 1)) (sg_name 4) (ss_set 3 (se_op od_add (se_var 3) (se_own (so_comp (si_rng1 (sa_cons (se_op od_ix (se_var 0) se_int) sa_nil)) (sg_name 0) low_name st_yes (se_op od_add (se_var 1) (se_tup (sa_cons (se_var 0) sa_nil)))))))) (ss_set 1 (se_var 3))))) (ss_ret (se_var 1))))⟩
abbrev W_law_codes (P : Program) (w : World) (K : Fg) (mg : Str -> Option Value) (base : Heap) : Prop := Own P w K mg base 1 "_law_codes" ["_law_game_here"] (spD K 1 F_law_codes)
noncomputable abbrev s_law_left : Stmt := top 41
theorem sc_law_left : FnScope ["_law_game_here", "_law_asks_here"] ["_law_game_here", "_law_asks_here"] (defScope s_law_left) := fsc
theorem ok_law_left (F : Fun K "_law_left" "_law_left" s_law_left f fd) (B : Bt mg) (O_law_codes : W_law_codes P w K mg base) (O_law_answer : W_law_answer P w K mg base) : FnOk P w K mg base CX0 2 f fd ["_law_game_here", "_law_asks_here"] (spD K 2 F_law_left) :=
 fun_okD F sc_law_left rfl rfl λ cdv A outer s H E hr => have hu := hr.units
  ⟨_, (pss_one (ps_ret (pe_compC ["_law_code_here"] [("_law_asks_here", 1)] (kx_seq K (pe_own O_law_codes hr (pa_cons (pv 0) pa_nil))) (λ _ _ _ _ => (pg_name (i := 0) (show List.Nodup (["_law_code_here", "_law_asks_here"] : List Str) by decide +kernel) rfl (by first | exact Or.inl rfl | exact Or.inr rfl))) (λ _ _ _ _ => (pts_one (pt_not (kx_tru K (pe_compC ["_law_ask"] [("_law_code_here", 0)] (kx_seq K (pv 1)) (λ _ _ _ _ => (pg_name (i := 0) (show List.Nodup (["_law_ask", "_law_code_here"] : List Str) by decide +kernel) rfl (by first | exact Or.inl rfl | exact Or.inr rfl))) (λ _ _ _ _ => (pts_one (pt_cmpR (kx_neD K hu) (pe_own O_law_answer hr (pa_cons (pv 1) (pa_cons (pe_ix (kx_ix K) (pv 0) pe_int (λ _ _ => rfl)) pa_nil))) (pe_ix (kx_ix K) (pv 0) pe_int (λ _ _ => rfl)) (nomark _)))) (λ _ _ _ _ => (pv 0))))))) (λ _ _ _ _ => (pv 0))))), (ss_ret (se_own (so_comp (si_seq (se_call (sa_cons (se_var 0) sa_nil))) (sg_name 0) low_name (st_not (st_tru (se_own (so_comp (si_seq (se_var 1)) (sg_name 0) low_name (st_test (se_op od_ne (se_call (sa_cons (se_var 1) (sa_cons (se_op od_ix (se_var 0) se_int) sa_nil))) (se_op od_ix (se_var 0) se_int))) (se_var 0))))) (se_var 0))))⟩
abbrev W_law_left (P : Program) (w : World) (K : Fg) (mg : Str -> Option Value) (base : Heap) : Prop := Own P w K mg base 2 "_law_left" ["_law_game_here", "_law_asks_here"] (spD K 2 F_law_left)
noncomputable abbrev slaw : Stmt := top 44
theorem sclaw : FnScope ["_law_script", "_law_game_here", "_law_asks_here", "_law_guess", "_law_parts_here", "_law_found", "_law_told_here", "_law_most"] ["_law_script"] (defScope slaw) := fsc
theorem oklaw (F : Fun K "law" "law" slaw f fd) (B : Bt mg) (O_law_game : W_law_game P w K mg base) (O_law_asks : W_law_asks P w K mg base) (O_law_code : W_law_code P w K mg base) (O_law_parts : W_law_parts P w K mg base) (Osplit : Wsplit P w K mg base) (O_law_told : W_law_told P w K mg base) (O_law_cell : W_law_cell P w K mg base) (O_law_left : W_law_left P w K mg base) : FnOk P w K mg base CX0 12 f fd ["_law_script"] (spD K 1 Flaw) :=
 fun_okD F sclaw rfl rfl λ cdv A outer s H E hr => have hu := hr.units
  ⟨_, (pss_cons (ps_setL (i := 1) sclaw.nd (pe_own O_law_game hr (pa_cons (pv 0) (pa_cons pe_int pa_nil)))) (pss_cons (ps_setL (i := 2) sclaw.nd (pe_own O_law_asks hr (pa_cons (pv 0) (pa_cons pe_int (pa_cons (pv 1) pa_nil))))) (pss_cons (ps_setL (i := 3) sclaw.nd (pe_own O_law_code hr (pa_cons (pv 1) (pa_cons (pe_own O_law_cell hr (pa_cons (pv 0) (pa_cons pe_int pa_nil))) pa_nil)))) (pss_cons (ps_setL (i := 4) sclaw.nd (pe_own O_law_parts hr (pa_cons (pe_own O_law_left hr (pa_cons (pv 1) (pa_cons (pv 2) pa_nil))) (pa_cons (pv 3) pa_nil)))) (pss_cons (ps_setL (i := 5) sclaw.nd (pe_own Osplit hr (pa_cons (pv 1) (pa_cons (pv 2) (pa_cons (pv 3) pa_nil))))) (pss_cons (ps_if (PW.pt (pw_or (pt_not (kx_tru K (pe_callB (kx_isiD K) (by rfl) B.isinstance boot_isi (pa_cons (pv 5) (pa_cons (pe_bltn (v := .ty "list") rfl B.list PyProof.Rows.boot_list rfl) pa_nil))))) (pw_or1 (pt_cmpR (kx_neD K hu) (pv 5) (pe_compC ["_law_one"] [("_law_parts_here", 4)] (kx_seq K (pe_callB (call_sortT rfl) (by rfl) B.sorted PyProof.Rows.boot_sorted (pa_cons (pv 4) pa_nil))) (λ _ _ _ _ => (pg_name (i := 0) (show List.Nodup (["_law_one", "_law_parts_here"] : List Str) by decide +kernel) rfl (by first | exact Or.inl rfl | exact Or.inr rfl))) (λ _ _ _ _ => pts_nil) (λ _ _ _ _ => (pe_tup (pa_cons (pv 0) (pa_cons (pe_callB (kx_lenA K) (by rfl) B.len PySem.boot_len (pa_cons (pe_dget (hu_of hr) (pv 1) (pv 0) (λ _ _ => rfl)) pa_nil)) pa_nil))))) (nomark _))))) (pss_one (ps_ret pe_bl)) pss_nil) (pss_cons (ps_setL (i := 6) sclaw.nd (pe_own O_law_told hr (pa_cons (pv 1) (pa_cons (pv 2) (pa_cons (pv 3) pa_nil))))) (pss_cons (ps_if (pt_cmpR (op_eqE hu) (pv 4) pe_dnewT (nomark _)) (pss_one (ps_ret (pe_cmpR (kx_eqD K hu) (pv 6) (pe_lst (pa_cons pe_bl (pa_cons pe_bl pa_nil))) (nomark _)))) pss_nil) (pss_cons (ps_setL (i := 7) sclaw.nd (pe_callB (kx_max K rfl hu) (by rfl) B.max PyProof.Rows.boot_max (pa_cons (pe_compC ["_law_one", "_law_many"] [] (kx_seq K (pv 5)) (λ _ _ _ _ => (kx_pair K (pgs_cons (pg_name (i := 0) (show List.Nodup (["_law_one", "_law_many"] : List Str) by decide +kernel) rfl (by first | exact Or.inl rfl | exact Or.inr rfl)) (pgs_cons (pg_name (i := 1) (show List.Nodup (["_law_one", "_law_many"] : List Str) by decide +kernel) rfl (by first | exact Or.inl rfl | exact Or.inr rfl)) pgs_nil)))) (λ _ _ _ _ => pts_nil) (λ _ _ _ _ => (pv 1))) pa_nil))) (pss_one (ps_ret (pe_cmpR (kx_eqD K hu) (pv 6) (pe_ix (kx_ix K) (pe_compC ["_law_one", "_law_many"] [("_law_most", 7)] (kx_seq K (pv 5)) (λ _ _ _ _ => (kx_pair K (pgs_cons (pg_name (i := 0) (show List.Nodup (["_law_one", "_law_many", "_law_most"] : List Str) by decide +kernel) rfl (by first | exact Or.inl rfl | exact Or.inr rfl)) (pgs_cons (pg_name (i := 1) (show List.Nodup (["_law_one", "_law_many", "_law_most"] : List Str) by decide +kernel) rfl (by first | exact Or.inl rfl | exact Or.inr rfl)) pgs_nil)))) (λ _ _ _ _ => (pts_one (pt_cmpR (kx_eqD K hu) (pv 1) (pv 2) (nomark _)))) (λ _ _ _ _ => (pv 0))) pe_int (λ _ _ => rfl)) (nomark _))))))))))))), (ss_seq (ss_set 1 (se_call (sa_cons (se_var 0) (sa_cons se_int sa_nil)))) (ss_seq (ss_set 2 (se_own (so_call (sa_cons (se_var 0) (sa_cons se_int (sa_cons (se_var 1) sa_nil)))))) (ss_seq (ss_set 3 (se_call (sa_cons (se_var 1) (sa_cons (se_call (sa_cons (se_var 0) (sa_cons se_int sa_nil))) sa_nil)))) (ss_seq (ss_set 4 (se_call (sa_cons (se_call (sa_cons (se_var 1) (sa_cons (se_var 2) sa_nil))) (sa_cons (se_var 3) sa_nil)))) (ss_seq (ss_set 5 (se_call (sa_cons (se_var 1) (sa_cons (se_var 2) (sa_cons (se_var 3) sa_nil))))) (ss_seq (ss_if (st_or (st_not (st_tru (se_isi (se_var 5)))) (st_test (se_op od_ne (se_var 5) (se_own (so_comp (si_seq (se_callB cd_sort (sa_cons (se_var 4) sa_nil))) (sg_name 0) low_name st_yes (se_tup (sa_cons (se_var 0) (sa_cons (se_callB cd_len (sa_cons (se_dgetF (se_var 1) (se_var 0)) sa_nil)) sa_nil)))))))) (ss_ret se_bl) ss_next) (ss_seq (ss_set 6 (se_call (sa_cons (se_var 1) (sa_cons (se_var 2) (sa_cons (se_var 3) sa_nil))))) (ss_seq (ss_if (st_test (se_op od_eqE (se_var 4) se_dnew)) (ss_ret (se_op od_eq (se_var 6) (se_own (so_lst (sa_cons se_bl (sa_cons se_bl sa_nil)))))) ss_next) (ss_seq (ss_set 7 (se_callB cd_max (sa_cons (se_own (so_comp (si_seq (se_var 5)) (sg_tup (sgs_cons (sg_name 0) (sgs_cons (sg_name 1) sgs_nil))) (low_tup (lows_cons low_name (lows_cons low_name lows_nil))) st_yes (se_var 1))) sa_nil))) (ss_ret (se_op od_eq (se_var 6) (se_op od_ix (se_own (so_comp (si_seq (se_var 5)) (sg_tup (sgs_cons (sg_name 0) (sgs_cons (sg_name 1) sgs_nil))) (low_tup (lows_cons low_name (lows_cons low_name lows_nil))) (st_test (se_op od_eq (se_var 1) (se_var 2))) (se_var 0))) se_int))))))))))))⟩
end
end GX
namespace GX
open PySem L2 DL PySem.W
theorem all_mk {l : OpenLaw} {w : World} {K : Frag} {h : Heap} {mg : Str -> Option Value} {fa : Addr} (X : K.In h) (G : h.Ns mainGlobals mg) (hfa : mg "law" = some (.ref fa))
 {od0 an0 od1 an1 od2 an2 od3 an3 od4 an4 od5 an5 od6 an6 od7 an7 od8 an8 od9 an9 od10 an10 od11 an11 od12 an12 od13 an13 od14 an14 od15 an15 od16 an16 od17 an17 od18 an18 od19 an19 od20 an20 od21 an21 od22 an22 od23 an23 od24 an24 od25 an25 od26 an26 od27 an27 od28 an28 od29 an29 od30 an30 : Option Addr} {sl0 sl1 sl2 sl3 sl4 sl5 sl6 sl7 sl8 sl9 sl10 sl11 sl12 sl13 sl14 sl15 sl16 sl17 sl18 sl19 sl20 sl21 sl22 sl23 sl24 sl25 sl26 sl27 sl28 sl29 sl30 : Array (Option Value)} {oc0 kV0 dc0 pm0 ct0 cd0 oc1 kV1 dc1 pm1 ct1 cd1 oc2 kV2 dc2 pm2 ct2 cd2 oc3 kV3 dc3 pm3 ct3 cd3 oc4 kV4 dc4 pm4 ct4 cd4 oc5 kV5 dc5 pm5 ct5 cd5 oc6 kV6 dc6 pm6 ct6 cd6 oc7 kV7 dc7 pm7 ct7 cd7 oc8 kV8 dc8 pm8 ct8 cd8 oc9 kV9 dc9 pm9 ct9 cd9 oc10 kV10 dc10 pm10 ct10 cd10 oc11 kV11 dc11 pm11 ct11 cd11 oc12 kV12 dc12 pm12 ct12 cd12 oc13 kV13 dc13 pm13 ct13 cd13 oc14 kV14 dc14 pm14 ct14 cd14 oc15 kV15 dc15 pm15 ct15 cd15 oc16 kV16 dc16 pm16 ct16 cd16 oc17 kV17 dc17 pm17 ct17 cd17 oc18 kV18 dc18 pm18 ct18 cd18 oc19 kV19 dc19 pm19 ct19 cd19 oc20 kV20 dc20 pm20 ct20 cd20 oc21 kV21 dc21 pm21 ct21 cd21 oc22 kV22 dc22 pm22 ct22 cd22 oc23 kV23 dc23 pm23 ct23 cd23 oc24 kV24 dc24 pm24 ct24 cd24 oc25 kV25 dc25 pm25 ct25 cd25 oc26 kV26 dc26 pm26 ct26 oc27 kV27 dc27 pm27 ct27 cd27 oc28 kV28 dc28 pm28 ct28 cd28 oc29 kV29 dc29 pm29 ct29 cd29 oc30 kV30 dc30 pm30 ct30 cd30 : Value} {f0 f1 f2 f3 f4 f5 f6 f7 f8 f9 f10 f11 f12 f13 f14 f15 f16 f17 f18 f19 f20 f21 f22 f23 f24 f25 f26 f27 f28 f29 f30 : Addr} {cc26 : Addr} {CGuessError : Addr} {CClash : Addr}
 (a0 : nsIn K mainGlobals "_law_mix" = some (some (.ref f0))) (l0 : K.lookup f0 = some ⟨oc0, od0, .func (fnOf "_law_mix" "_law_mix" (defArgs s_law_mix) (defBody s_law_mix) (defScope s_law_mix) .none kV0 dc0 pm0 an0 cd0 ct0), sl0⟩) (c0 : codeIn K cd0 "_law_mix" = true) (k0 : keepIn K (.ref f0) = true)
 (a1 : nsIn K mainGlobals "_law_cell" = some (some (.ref f1))) (l1 : K.lookup f1 = some ⟨oc1, od1, .func (fnOf "_law_cell" "_law_cell" (defArgs s_law_cell) (defBody s_law_cell) (defScope s_law_cell) .none kV1 dc1 pm1 an1 cd1 ct1), sl1⟩) (c1 : codeIn K cd1 "_law_cell" = true) (k1 : keepIn K (.ref f1) = true)
 (a2 : nsIn K mainGlobals "_law_game" = some (some (.ref f2))) (l2 : K.lookup f2 = some ⟨oc2, od2, .func (fnOf "_law_game" "_law_game" (defArgs s_law_game) (defBody s_law_game) (defScope s_law_game) .none kV2 dc2 pm2 an2 cd2 ct2), sl2⟩) (c2 : codeIn K cd2 "_law_game" = true) (k2 : keepIn K (.ref f2) = true)
 (a3 : nsIn K mainGlobals "_law_code" = some (some (.ref f3))) (l3 : K.lookup f3 = some ⟨oc3, od3, .func (fnOf "_law_code" "_law_code" (defArgs s_law_code) (defBody s_law_code) (defScope s_law_code) .none kV3 dc3 pm3 an3 cd3 ct3), sl3⟩) (c3 : codeIn K cd3 "_law_code" = true) (k3 : keepIn K (.ref f3) = true)
 (a4 : nsIn K mainGlobals "_law_answer" = some (some (.ref f4))) (l4 : K.lookup f4 = some ⟨oc4, od4, .func (fnOf "_law_answer" "_law_answer" (defArgs s_law_answer) (defBody s_law_answer) (defScope s_law_answer) .none kV4 dc4 pm4 an4 cd4 ct4), sl4⟩) (c4 : codeIn K cd4 "_law_answer" = true) (k4 : keepIn K (.ref f4) = true)
 (a5 : nsIn K mainGlobals "_law_asks" = some (some (.ref f5))) (l5 : K.lookup f5 = some ⟨oc5, od5, .func (fnOf "_law_asks" "_law_asks" (defArgs s_law_asks) (defBody s_law_asks) (defScope s_law_asks) .none kV5 dc5 pm5 an5 cd5 ct5), sl5⟩) (c5 : codeIn K cd5 "_law_asks" = true) (k5 : keepIn K (.ref f5) = true)
 (a6 : nsIn K mainGlobals "_law_parts" = some (some (.ref f6))) (l6 : K.lookup f6 = some ⟨oc6, od6, .func (fnOf "_law_parts" "_law_parts" (defArgs s_law_parts) (defBody s_law_parts) (defScope s_law_parts) .none kV6 dc6 pm6 an6 cd6 ct6), sl6⟩) (c6 : codeIn K cd6 "_law_parts" = true) (k6 : keepIn K (.ref f6) = true)
 (a7 : nsIn K mainGlobals "is_pair" = some (some (.ref f7))) (l7 : K.lookup f7 = some ⟨oc7, od7, .func (fnOf "is_pair" "is_pair" (defArgs sis_pair) (defBody sis_pair) (defScope sis_pair) .none kV7 dc7 pm7 an7 cd7 ct7), sl7⟩) (c7 : codeIn K cd7 "is_pair" = true) (k7 : keepIn K (.ref f7) = true)
 (a8 : nsIn K mainGlobals "how_many_codes" = some (some (.ref f8))) (l8 : K.lookup f8 = some ⟨oc8, od8, .func (fnOf "how_many_codes" "how_many_codes" (defArgs show_many_codes) (defBody show_many_codes) (defScope show_many_codes) .none kV8 dc8 pm8 an8 cd8 ct8), sl8⟩) (c8 : codeIn K cd8 "how_many_codes" = true) (k8 : keepIn K (.ref f8) = true)
 (a9 : nsIn K mainGlobals "is_number_within" = some (some (.ref f9))) (l9 : K.lookup f9 = some ⟨oc9, od9, .func (fnOf "is_number_within" "is_number_within" (defArgs sis_number_within) (defBody sis_number_within) (defScope sis_number_within) .none kV9 dc9 pm9 an9 cd9 ct9), sl9⟩) (c9 : codeIn K cd9 "is_number_within" = true) (k9 : keepIn K (.ref f9) = true)
 (a10 : nsIn K mainGlobals "is_game" = some (some (.ref f10))) (l10 : K.lookup f10 = some ⟨oc10, od10, .func (fnOf "is_game" "is_game" (defArgs sis_game) (defBody sis_game) (defScope sis_game) .none kV10 dc10 pm10 an10 cd10 ct10), sl10⟩) (c10 : codeIn K cd10 "is_game" = true) (k10 : keepIn K (.ref f10) = true)
 (a11 : nsIn K mainGlobals "checked_game" = some (some (.ref f11))) (l11 : K.lookup f11 = some ⟨oc11, od11, .func (fnOf "checked_game" "checked_game" (defArgs schecked_game) (defBody schecked_game) (defScope schecked_game) .none kV11 dc11 pm11 an11 cd11 ct11), sl11⟩) (c11 : codeIn K cd11 "checked_game" = true) (k11 : keepIn K (.ref f11) = true)
 (a12 : nsIn K mainGlobals "is_code" = some (some (.ref f12))) (l12 : K.lookup f12 = some ⟨oc12, od12, .func (fnOf "is_code" "is_code" (defArgs sis_code) (defBody sis_code) (defScope sis_code) .none kV12 dc12 pm12 an12 cd12 ct12), sl12⟩) (c12 : codeIn K cd12 "is_code" = true) (k12 : keepIn K (.ref f12) = true)
 (a13 : nsIn K mainGlobals "is_answer" = some (some (.ref f13))) (l13 : K.lookup f13 = some ⟨oc13, od13, .func (fnOf "is_answer" "is_answer" (defArgs sis_answer) (defBody sis_answer) (defScope sis_answer) .none kV13 dc13 pm13 an13 cd13 ct13), sl13⟩) (c13 : codeIn K cd13 "is_answer" = true) (k13 : keepIn K (.ref f13) = true)
 (a14 : nsIn K mainGlobals "is_ask" = some (some (.ref f14))) (l14 : K.lookup f14 = some ⟨oc14, od14, .func (fnOf "is_ask" "is_ask" (defArgs sis_ask) (defBody sis_ask) (defScope sis_ask) .none kV14 dc14 pm14 an14 cd14 ct14), sl14⟩) (c14 : codeIn K cd14 "is_ask" = true) (k14 : keepIn K (.ref f14) = true)
 (a15 : nsIn K mainGlobals "checked_list" = some (some (.ref f15))) (l15 : K.lookup f15 = some ⟨oc15, od15, .func (fnOf "checked_list" "checked_list" (defArgs schecked_list) (defBody schecked_list) (defScope schecked_list) .none kV15 dc15 pm15 an15 cd15 ct15), sl15⟩) (c15 : codeIn K cd15 "checked_list" = true) (k15 : keepIn K (.ref f15) = true)
 (a16 : nsIn K mainGlobals "checked_asks" = some (some (.ref f16))) (l16 : K.lookup f16 = some ⟨oc16, od16, .func (fnOf "checked_asks" "checked_asks" (defArgs schecked_asks) (defBody schecked_asks) (defScope schecked_asks) .none kV16 dc16 pm16 an16 cd16 ct16), sl16⟩) (c16 : codeIn K cd16 "checked_asks" = true) (k16 : keepIn K (.ref f16) = true)
 (a17 : nsIn K mainGlobals "answer_of" = some (some (.ref f17))) (l17 : K.lookup f17 = some ⟨oc17, od17, .func (fnOf "answer_of" "answer_of" (defArgs sanswer_of) (defBody sanswer_of) (defScope sanswer_of) .none kV17 dc17 pm17 an17 cd17 ct17), sl17⟩) (c17 : codeIn K cd17 "answer_of" = true) (k17 : keepIn K (.ref f17) = true)
 (a18 : nsIn K mainGlobals "fits_ask" = some (some (.ref f18))) (l18 : K.lookup f18 = some ⟨oc18, od18, .func (fnOf "fits_ask" "fits_ask" (defArgs sfits_ask) (defBody sfits_ask) (defScope sfits_ask) .none kV18 dc18 pm18 an18 cd18 ct18), sl18⟩) (c18 : codeIn K cd18 "fits_ask" = true) (k18 : keepIn K (.ref f18) = true)
 (a19 : nsIn K mainGlobals "those_that_fit" = some (some (.ref f19))) (l19 : K.lookup f19 = some ⟨oc19, od19, .func (fnOf "those_that_fit" "those_that_fit" (defArgs sthose_that_fit) (defBody sthose_that_fit) (defScope sthose_that_fit) .none kV19 dc19 pm19 an19 cd19 ct19), sl19⟩) (c19 : codeIn K cd19 "those_that_fit" = true) (k19 : keepIn K (.ref f19) = true)
 (a20 : nsIn K mainGlobals "all_codes" = some (some (.ref f20))) (l20 : K.lookup f20 = some ⟨oc20, od20, .func (fnOf "all_codes" "all_codes" (defArgs sall_codes) (defBody sall_codes) (defScope sall_codes) .none kV20 dc20 pm20 an20 cd20 ct20), sl20⟩) (c20 : codeIn K cd20 "all_codes" = true) (k20 : keepIn K (.ref f20) = true)
 (a21 : nsIn K mainGlobals "what_fits" = some (some (.ref f21))) (l21 : K.lookup f21 = some ⟨oc21, od21, .func (fnOf "what_fits" "what_fits" (defArgs swhat_fits) (defBody swhat_fits) (defScope swhat_fits) .none kV21 dc21 pm21 an21 cd21 ct21), sl21⟩) (c21 : codeIn K cd21 "what_fits" = true) (k21 : keepIn K (.ref f21) = true)
 (a22 : nsIn K mainGlobals "checked_code" = some (some (.ref f22))) (l22 : K.lookup f22 = some ⟨oc22, od22, .func (fnOf "checked_code" "checked_code" (defArgs schecked_code) (defBody schecked_code) (defScope schecked_code) .none kV22 dc22 pm22 an22 cd22 ct22), sl22⟩) (c22 : codeIn K cd22 "checked_code" = true) (k22 : keepIn K (.ref f22) = true)
 (a23 : nsIn K mainGlobals "counts_by_answer" = some (some (.ref f23))) (l23 : K.lookup f23 = some ⟨oc23, od23, .func (fnOf "counts_by_answer" "counts_by_answer" (defArgs scounts_by_answer) (defBody scounts_by_answer) (defScope scounts_by_answer) .none kV23 dc23 pm23 an23 cd23 ct23), sl23⟩) (c23 : codeIn K cd23 "counts_by_answer" = true) (k23 : keepIn K (.ref f23) = true)
 (a24 : nsIn K mainGlobals "split" = some (some (.ref f24))) (l24 : K.lookup f24 = some ⟨oc24, od24, .func (fnOf "split" "split" (defArgs ssplit) (defBody ssplit) (defScope ssplit) .none kV24 dc24 pm24 an24 cd24 ct24), sl24⟩) (c24 : codeIn K cd24 "split" = true) (k24 : keepIn K (.ref f24) = true)
 (a25 : nsIn K mainGlobals "found_or_clash" = some (some (.ref f25))) (l25 : K.lookup f25 = some ⟨oc25, od25, .func (fnOf "found_or_clash" "found_or_clash" (defArgs sfound_or_clash) (defBody sfound_or_clash) (defScope sfound_or_clash) .none kV25 dc25 pm25 an25 cd25 ct25), sl25⟩) (c25 : codeIn K cd25 "found_or_clash" = true) (k25 : keepIn K (.ref f25) = true)
 (a26 : nsIn K mainGlobals "foe_answer" = some (some (.ref f26))) (l26 : K.lookup f26 = some ⟨oc26, od26, .func (fnOf "foe_answer" "foe_answer" (defArgs sfoe_answer) (defBody sfoe_answer) (defScope sfoe_answer) .none kV26 dc26 pm26 an26 (.ref cc26) ct26), sl26⟩) (c26 : codeIn K (.ref cc26) "foe_answer" = true) (k26 : keepIn K (.ref f26) = true)
 (a27 : nsIn K mainGlobals "_law_told" = some (some (.ref f27))) (l27 : K.lookup f27 = some ⟨oc27, od27, .func (fnOf "_law_told" "_law_told" (defArgs s_law_told) (defBody s_law_told) (defScope s_law_told) .none kV27 dc27 pm27 an27 cd27 ct27), sl27⟩) (c27 : codeIn K cd27 "_law_told" = true) (k27 : keepIn K (.ref f27) = true)
 (a28 : nsIn K mainGlobals "_law_codes" = some (some (.ref f28))) (l28 : K.lookup f28 = some ⟨oc28, od28, .func (fnOf "_law_codes" "_law_codes" (defArgs s_law_codes) (defBody s_law_codes) (defScope s_law_codes) .none kV28 dc28 pm28 an28 cd28 ct28), sl28⟩) (c28 : codeIn K cd28 "_law_codes" = true) (k28 : keepIn K (.ref f28) = true)
 (a29 : nsIn K mainGlobals "_law_left" = some (some (.ref f29))) (l29 : K.lookup f29 = some ⟨oc29, od29, .func (fnOf "_law_left" "_law_left" (defArgs s_law_left) (defBody s_law_left) (defScope s_law_left) .none kV29 dc29 pm29 an29 cd29 ct29), sl29⟩) (c29 : codeIn K cd29 "_law_left" = true) (k29 : keepIn K (.ref f29) = true)
 (a30 : nsIn K mainGlobals "law" = some (some (.ref f30))) (l30 : K.lookup f30 = some ⟨oc30, od30, .func (fnOf "law" "law" (defArgs slaw) (defBody slaw) (defScope slaw) .none kV30 dc30 pm30 an30 cd30 ct30), sl30⟩) (c30 : codeIn K cd30 "law" = true) (k30 : keepIn K (.ref f30) = true)
 (h26 : codeHdIn K cc26 (tabAt K cc26) = true)
 {tMOST_PLACES : Tok} (gMOST_PLACES : nsIn K mainGlobals "MOST_PLACES" = some (some (.int 5 tMOST_PLACES)))
 {tMOST_COLOURS : Tok} (gMOST_COLOURS : nsIn K mainGlobals "MOST_COLOURS" = some (some (.int 8 tMOST_COLOURS)))
 {tMOST_CODES : Tok} (gMOST_CODES : nsIn K mainGlobals "MOST_CODES" = some (some (.int 300 tMOST_CODES)))
 {tMOST_ASKS : Tok} (gMOST_ASKS : nsIn K mainGlobals "MOST_ASKS" = some (some (.int 8 tMOST_ASKS)))
 (yGuessError : nsIn K mainGlobals "GuessError" = some (some (.ref CGuessError)))
 (yClash : nsIn K mainGlobals "Clash" = some (some (.ref CClash)))
 (xClash : excIn K CClash [.type "ValueError", .type "Exception", .type "BaseException", .type "object"] "ValueError.__new__" = true) (uClash : kitOne K (.ref CClash) (.ref CClash) = some true) (vClash : kitOne K (.ref CClash) (.type "ValueError") = some true)
 (eGuessErrorClash : exmOne K (.ref CClash) (.ref CGuessError) = some true)
 (zValueError : nsIn K mainGlobals "ValueError" = some none)
 (zlen : nsIn K mainGlobals "len" = some none)
 (zisinstance : nsIn K mainGlobals "isinstance" = some none)
 (zrange : nsIn K mainGlobals "range" = some none)
 (zint : nsIn K mainGlobals "int" = some none)
 (zbool : nsIn K mainGlobals "bool" = some none)
 (ztuple : nsIn K mainGlobals "tuple" = some none)
 (zlist : nsIn K mainGlobals "list" = some none)
 (zall : nsIn K mainGlobals "all" = some none)
 (zenumerate : nsIn K mainGlobals "enumerate" = some none)
 (zzip : nsIn K mainGlobals "zip" = some none)
 (zsum : nsIn K mainGlobals "sum" = some none)
 (zsorted : nsIn K mainGlobals "sorted" = some none)
 (zmax : nsIn K mainGlobals "max" = some none)
 (zmin : nsIn K mainGlobals "min" = some none)
 (zset : nsIn K mainGlobals "set" = some none)
 (zstr : nsIn K mainGlobals "str" = some none)
:
 ∃ fd : FuncData, (∀ (s : Shared) (v : Value), BindsTo s fd ⟨[v], []⟩ [("_law_script", v)]) /\ ∀ base : Heap, K.In base -> base.Ns mainGlobals mg -> BMdB base mg -> FnOk l.prog w K mg base CX0 12 fa fd ["_law_script"] (spD K 1 Flaw) := by
 have e := hfa.symm.trans (mg_of X G a30)
 cases e
 have B : Bt mg := ⟨PySem.W.mg_none_of X G zlen, mg_none_of X G zisinstance, mg_none_of X G zrange, mg_none_of X G zint, mg_none_of X G zbool, mg_none_of X G ztuple, mg_none_of X G zlist, mg_none_of X G zall, mg_none_of X G zenumerate, mg_none_of X G zzip, mg_none_of X G zsum, mg_none_of X G zsorted, mg_none_of X G zmax, mg_none_of X G zmin, mg_none_of X G zset, mg_none_of X G zstr⟩
 have F0_ := fun_mk (st := s_law_mix) l0 c0 k0
 have F1_ := fun_mk (st := s_law_cell) l1 c1 k1
 have F2_ := fun_mk (st := s_law_game) l2 c2 k2
 have F3_ := fun_mk (st := s_law_code) l3 c3 k3
 have F4_ := fun_mk (st := s_law_answer) l4 c4 k4
 have F5_ := fun_mk (st := s_law_asks) l5 c5 k5
 have F6_ := fun_mk (st := s_law_parts) l6 c6 k6
 have F7_ := fun_mk (st := sis_pair) l7 c7 k7
 have F8_ := fun_mk (st := show_many_codes) l8 c8 k8
 have F9_ := fun_mk (st := sis_number_within) l9 c9 k9
 have F10_ := fun_mk (st := sis_game) l10 c10 k10
 have F11_ := fun_mk (st := schecked_game) l11 c11 k11
 have F12_ := fun_mk (st := sis_code) l12 c12 k12
 have F13_ := fun_mk (st := sis_answer) l13 c13 k13
 have F14_ := fun_mk (st := sis_ask) l14 c14 k14
 have F15_ := fun_mk (st := schecked_list) l15 c15 k15
 have F16_ := fun_mk (st := schecked_asks) l16 c16 k16
 have F17_ := fun_mk (st := sanswer_of) l17 c17 k17
 have F18_ := fun_mk (st := sfits_ask) l18 c18 k18
 have F19_ := fun_mk (st := sthose_that_fit) l19 c19 k19
 have F20_ := fun_mk (st := sall_codes) l20 c20 k20
 have F21_ := fun_mk (st := swhat_fits) l21 c21 k21
 have F22_ := fun_mk (st := schecked_code) l22 c22 k22
 have F23_ := fun_mk (st := scounts_by_answer) l23 c23 k23
 have F24_ := fun_mk (st := ssplit) l24 c24 k24
 have F25_ := fun_mk (st := sfound_or_clash) l25 c25 k25
 have F26_ := fun_mk (st := sfoe_answer) l26 c26 k26
 have FC26_ := funC_mk (st := sfoe_answer) l26 c26
 have F27_ := fun_mk (st := s_law_told) l27 c27 k27
 have F28_ := fun_mk (st := s_law_codes) l28 c28 k28
 have F29_ := fun_mk (st := s_law_left) l29 c29 k29
 have F30_ := fun_mk (st := slaw) l30 c30 k30
 have b0 := F0_.binds (ps := ["_law_cell_here", "_law_prime", "_law_many"]) λ _ _ _ _ _ _ => us3 λ _ _ _ => rfl
 have b1 := F1_.binds (ps := ["_law_script", "_law_k"]) λ _ _ _ _ _ _ => us2 λ _ _ => rfl
 have b2 := F2_.binds (ps := ["_law_script", "_law_at"]) λ _ _ _ _ _ _ => us2 λ _ _ => rfl
 have b3 := F3_.binds (ps := ["_law_game_here", "_law_cell_here"]) λ _ _ _ _ _ _ => us2 λ _ _ => rfl
 have b4 := F4_.binds (ps := ["_law_one", "_law_other"]) λ _ _ _ _ _ _ => us2 λ _ _ => rfl
 have b5 := F5_.binds (ps := ["_law_script", "_law_at", "_law_game_here"]) λ _ _ _ _ _ _ => us3 λ _ _ _ => rfl
 have b6 := F6_.binds (ps := ["_law_codes_here", "_law_guess"]) λ _ _ _ _ _ _ => us2 λ _ _ => rfl
 have b7 := F7_.binds (ps := ["thing"]) λ _ _ _ _ _ _ => us1 λ _ => rfl
 have b8 := F8_.binds (ps := ["places", "colours"]) λ _ _ _ _ _ _ => us2 λ _ _ => rfl
 have b9 := F9_.binds (ps := ["thing", "low", "high"]) λ _ _ _ _ _ _ => us3 λ _ _ _ => rfl
 have b10 := F10_.binds (ps := ["thing"]) λ _ _ _ _ _ _ => us1 λ _ => rfl
 have b11 := F11_.binds (ps := ["game"]) λ _ _ _ _ _ _ => us1 λ _ => rfl
 have b12 := F12_.binds (ps := ["game", "thing"]) λ _ _ _ _ _ _ => us2 λ _ _ => rfl
 have b13 := F13_.binds (ps := ["game", "thing"]) λ _ _ _ _ _ _ => us2 λ _ _ => rfl
 have b14 := F14_.binds (ps := ["game", "thing"]) λ _ _ _ _ _ _ => us2 λ _ _ => rfl
 have b15 := F15_.binds (ps := ["game", "things", "is_one"]) λ _ _ _ _ _ _ => us3 λ _ _ _ => rfl
 have b16 := F16_.binds (ps := ["game", "asks"]) λ _ _ _ _ _ _ => us2 λ _ _ => rfl
 have b17 := F17_.binds (ps := ["hidden", "guess"]) λ _ _ _ _ _ _ => us2 λ _ _ => rfl
 have b18 := F18_.binds (ps := ["code", "ask"]) λ _ _ _ _ _ _ => us2 λ _ _ => rfl
 have b19 := F19_.binds (ps := ["codes", "asks"]) λ _ _ _ _ _ _ => us2 λ _ _ => rfl
 have b20 := F20_.binds (ps := ["game"]) λ _ _ _ _ _ _ => us1 λ _ => rfl
 have b21 := F21_.binds (ps := ["game", "asks"]) λ _ _ _ _ _ _ => us2 λ _ _ => rfl
 have b22 := F22_.binds (ps := ["game", "code"]) λ _ _ _ _ _ _ => us2 λ _ _ => rfl
 have b23 := F23_.binds (ps := ["codes", "guess"]) λ _ _ _ _ _ _ => us2 λ _ _ => rfl
 have b24 := F24_.binds (ps := ["game", "asks", "guess"]) λ _ _ _ _ _ _ => us3 λ _ _ _ => rfl
 have b25 := F25_.binds (ps := ["found"]) λ _ _ _ _ _ _ => us1 λ _ => rfl
 have b26 := F26_.binds (ps := ["game", "asks", "guess"]) λ _ _ _ _ _ _ => us3 λ _ _ _ => rfl
 have b27 := F27_.binds (ps := ["_law_game_here", "_law_asks_here", "_law_guess"]) λ _ _ _ _ _ _ => us3 λ _ _ _ => rfl
 have b28 := F28_.binds (ps := ["_law_game_here"]) λ _ _ _ _ _ _ => us1 λ _ => rfl
 have b29 := F29_.binds (ps := ["_law_game_here", "_law_asks_here"]) λ _ _ _ _ _ _ => us2 λ _ _ => rfl
 have b30 := F30_.binds (ps := ["_law_script"]) λ _ _ _ _ _ _ => us1 λ _ => rfl
 refine ⟨PySem.W.fnOf "law" "law" (defArgs slaw) (defBody slaw) (defScope slaw) .none kV30 dc30 pm30 an30 cd30 ct30, λ s v => .of_eq rfl, λ base _ _ BM_ => ?_⟩
 have O0_ : W_law_mix l.prog w K mg base := ⟨⟨_, _, ok_law_mix F0_ B, mg_of X G a0, k0, b0⟩⟩
 have O1_ : W_law_cell l.prog w K mg base := ⟨⟨_, _, ok_law_cell F1_ B, mg_of X G a1, k1, b1⟩⟩
 have O2_ : W_law_game l.prog w K mg base := ⟨⟨_, _, ok_law_game F2_ B O0_ O1_, mg_of X G a2, k2, b2⟩⟩
 have O3_ : W_law_code l.prog w K mg base := ⟨⟨_, _, ok_law_code F3_ B O0_, mg_of X G a3, k3, b3⟩⟩
 have O4_ : W_law_answer l.prog w K mg base := ⟨⟨_, _, ok_law_answer F4_ B, mg_of X G a4, k4, b4⟩⟩
 have O5_ : W_law_asks l.prog w K mg base := ⟨⟨_, _, ok_law_asks F5_ B O3_ O1_ O0_ O4_, mg_of X G a5, k5, b5⟩⟩
 have O6_ : W_law_parts l.prog w K mg base := ⟨⟨_, _, ok_law_parts F6_ B O4_, mg_of X G a6, k6, b6⟩⟩
 have O7_ : Wis_pair l.prog w K mg base := ⟨⟨_, _, okis_pair F7_ B, mg_of X G a7, k7, b7⟩⟩
 have O8_ : Whow_many_codes l.prog w K mg base := ⟨⟨_, _, okhow_many_codes F8_ B, mg_of X G a8, k8, b8⟩⟩
 have O9_ : Wis_number_within l.prog w K mg base := ⟨⟨_, _, okis_number_within F9_ B, mg_of X G a9, k9, b9⟩⟩
 have O10_ : Wis_game l.prog w K mg base := ⟨⟨_, _, okis_game F10_ B O7_ O8_ O9_ (mg_of X G gMOST_PLACES) (mg_of X G gMOST_COLOURS) (mg_of X G gMOST_CODES), mg_of X G a10, k10, b10⟩⟩
 have O11_ : Wchecked_game l.prog w K mg base := ⟨⟨_, _, okchecked_game F11_ B O10_, mg_of X G a11, k11, b11⟩⟩
 have O12_ : Wis_code l.prog w K mg base := ⟨⟨_, _, okis_code F12_ B O9_, mg_of X G a12, k12, b12⟩⟩
 have O13_ : Wis_answer l.prog w K mg base := ⟨⟨_, _, okis_answer F13_ B O7_ O9_, mg_of X G a13, k13, b13⟩⟩
 have O14_ : Wis_ask l.prog w K mg base := ⟨⟨_, _, okis_ask F14_ B O7_ O12_ O13_, mg_of X G a14, k14, b14⟩⟩
 have N14_ : OwnN l.prog w K mg base 3 "is_ask" ["game", "thing"] (spD K 2 Fis_ask) := ⟨⟨_, _, okis_ask F14_ B O7_ O12_ O13_, a14, k14, b14⟩⟩
 have O15_ : Wchecked_list l.prog w K mg base := ⟨⟨_, _, okchecked_list F15_ B N14_ (mg_of X G gMOST_ASKS), mg_of X G a15, k15, b15⟩⟩
 have O16_ : Wchecked_asks l.prog w K mg base := ⟨⟨_, _, okchecked_asks F16_ B O15_ (mg_of X G a14) a14, mg_of X G a16, k16, b16⟩⟩
 have O17_ : Wanswer_of l.prog w K mg base := ⟨⟨_, _, okanswer_of F17_ B, mg_of X G a17, k17, b17⟩⟩
 have O18_ : Wfits_ask l.prog w K mg base := ⟨⟨_, _, okfits_ask F18_ B O17_, mg_of X G a18, k18, b18⟩⟩
 have O19_ : Wthose_that_fit l.prog w K mg base := ⟨⟨_, _, okthose_that_fit F19_ B O18_, mg_of X G a19, k19, b19⟩⟩
 have O20_ : Wall_codes l.prog w K mg base := ⟨⟨_, _, okall_codes F20_ B O11_, mg_of X G a20, k20, b20⟩⟩
 have O21_ : Wwhat_fits l.prog w K mg base := ⟨⟨_, _, okwhat_fits F21_ B O11_ O16_ O19_ O20_, mg_of X G a21, k21, b21⟩⟩
 have O22_ : Wchecked_code l.prog w K mg base := ⟨⟨_, _, okchecked_code F22_ B O12_, mg_of X G a22, k22, b22⟩⟩
 have O23_ : Wcounts_by_answer l.prog w K mg base := ⟨⟨_, _, okcounts_by_answer F23_ B O17_, mg_of X G a23, k23, b23⟩⟩
 have O24_ : Wsplit l.prog w K mg base := ⟨⟨_, _, oksplit F24_ B O21_ O22_ O23_, mg_of X G a24, k24, b24⟩⟩
 have O25_ : Wfound_or_clash l.prog w K mg base := ⟨⟨_, _, okfound_or_clash F25_ B, mg_of X G a25, k25, b25⟩⟩
 have OX25_ : OwnX l.prog w K mg base 1 "found_or_clash" ["found"] (spX K 1 CClash Xfound_or_clash) := ⟨⟨_, _, okXfound_or_clash F25_ B (mg_of X G yClash) xClash, mg_of X G a25, k25, b25⟩⟩
 have O26_ : Wfoe_answer l.prog w K mg base := ⟨⟨_, _, okfoe_answer FC26_ B O25_ O24_ h26 BM_, mg_of X G a26, k26, b26⟩⟩
 have OX26_ : OwnX l.prog w K mg base 10 "foe_answer" ["game", "asks", "guess"] (spX K 3 CClash Xfoe_answer) := ⟨⟨_, _, okXfoe_answer F26_ B O25_ O24_ h26 BM_ OX25_, mg_of X G a26, k26, b26⟩⟩
 have O27_ : W_law_told l.prog w K mg base := ⟨⟨_, _, ok_law_told F27_ B O26_ OX26_ (mg_of X G yGuessError) (mg_of X G yClash) (mg_none_of X G zValueError) eGuessErrorClash uClash vClash, mg_of X G a27, k27, b27⟩⟩
 have O28_ : W_law_codes l.prog w K mg base := ⟨⟨_, _, ok_law_codes F28_ B, mg_of X G a28, k28, b28⟩⟩
 have O29_ : W_law_left l.prog w K mg base := ⟨⟨_, _, ok_law_left F29_ B O28_ O4_, mg_of X G a29, k29, b29⟩⟩
 exact oklaw F30_ B O2_ O5_ O3_ O6_ O24_ O27_ O1_ O29_
theorem walk {l : OpenLaw} {q : Program} {loose : List Str} {XP : (Str -> Option Value) -> Heap -> Prop} {YP : World -> Heap -> Prop} {d : DefRec} {K : Params -> Frag} (hn : l.most = some 63) (hdf : d.params.defaults = [])
 (hY : ∀ (w : World) (h : Heap), YP w h -> (K w.params).In h /\ Tabs (K w.params) h)
 (F : ∀ (w : World) (mg : Str -> Option Value) (fa : Addr) (h : Heap), (K w.params).In h -> h.Ns mainGlobals mg -> mg d.name = some (.ref fa) ->
  ∃ fd : FuncData, (∀ (s : Shared) (u : Value), BindsTo s fd ⟨[u], []⟩ [("_law_script", u)]) /\ ∀ base : Heap, (K w.params).In base -> base.Ns mainGlobals mg -> BMdB base mg -> FnOk l.prog w (K w.params) mg base CX0 12 fa fd ["_law_script"] (spD (K w.params) 1 Flaw)) :
 WalkO q loose XP YP l.row.toRowW d [] (λ f vs => PySem.call f vs) :=
 DL.walk_ofT (n := 63) (k := 12) (x := "_law_script") (CX := λ _ => CX0) (sp := λ w => spD (K w.params) 1 Flaw) hn (by decide) hdf ⟨rfl, by decide, by decide⟩ hY F (λ _ _ a ns hl tb hS => law_spec (law_true ns hl) hS tb) λ _ _ _ _ _ z => z
end GX
open PySem PySem.W PyProof.Rows
noncomputable def PySem.W.Fast.tw13607471445026723428 : Nat := 0
set_option maxRecDepth 100000 in
set_option maxHeartbeats 0 in
theorem PySem.Challenge.cw_guesscode_k08_splits_holds : PySem.Challenge.rw_guesscode_k08_splits.Holds := by
 w_on; o_law; k_head; (case hw => w_witness2)
 k_fill
 refine GX.walk (l := PySem.Challenge.rw_guesscode_k08_splits) rfl rfl (λ w h Y => by first | exact ⟨PySem.W.km_in_of Y, DL.tabs_of (PySem.W.km_tabs_of Y) (by kernel_rfl) (by decide) (by kernel_rfl)⟩ | exact ⟨PySem.W.kIn_of Y, DL.tabs_of (ts := []) (λ _ h => nomatch h) (by kernel_rfl) (by decide) (by kernel_rfl)⟩) ?F
 case F =>
  intro w mg fa h KX G hmg
  refine' GX.all_mk KX G hmg ?a0 ?l0 ?c0 ?k0 ?a1 ?l1 ?c1 ?k1 ?a2 ?l2 ?c2 ?k2 ?a3 ?l3 ?c3 ?k3 ?a4 ?l4 ?c4 ?k4 ?a5 ?l5 ?c5 ?k5 ?a6 ?l6 ?c6 ?k6 ?a7 ?l7 ?c7 ?k7 ?a8 ?l8 ?c8 ?k8 ?a9 ?l9 ?c9 ?k9 ?a10 ?l10 ?c10 ?k10 ?a11 ?l11 ?c11 ?k11 ?a12 ?l12 ?c12 ?k12 ?a13 ?l13 ?c13 ?k13 ?a14 ?l14 ?c14 ?k14 ?a15 ?l15 ?c15 ?k15 ?a16 ?l16 ?c16 ?k16 ?a17 ?l17 ?c17 ?k17 ?a18 ?l18 ?c18 ?k18 ?a19 ?l19 ?c19 ?k19 ?a20 ?l20 ?c20 ?k20 ?a21 ?l21 ?c21 ?k21 ?a22 ?l22 ?c22 ?k22 ?a23 ?l23 ?c23 ?k23 ?a24 ?l24 ?c24 ?k24 ?a25 ?l25 ?c25 ?k25 ?a26 ?l26 ?c26 ?k26 ?a27 ?l27 ?c27 ?k27 ?a28 ?l28 ?c28 ?k28 ?a29 ?l29 ?c29 ?k29 ?a30 ?l30 ?c30 ?k30 ?h26 ?gMOST_PLACES ?gMOST_COLOURS ?gMOST_CODES ?gMOST_ASKS ?yGuessError ?yClash ?xClash ?uClash ?vClash ?eGuessErrorClash ?zValueError ?zlen ?zisinstance ?zrange ?zint ?zbool ?ztuple ?zlist ?zall ?zenumerate ?zzip ?zsum ?zsorted ?zmax ?zmin ?zset ?zstr
  (case a0 => k_is); (case l0 => k_is); (case c0 => k_is); (case k0 => k_is)
  (case a1 => k_is); (case l1 => k_is); (case c1 => k_is); (case k1 => k_is)
  (case a2 => k_is); (case l2 => k_is); (case c2 => k_is); (case k2 => k_is)
  (case a3 => k_is); (case l3 => k_is); (case c3 => k_is); (case k3 => k_is)
  (case a4 => k_is); (case l4 => k_is); (case c4 => k_is); (case k4 => k_is)
  (case a5 => k_is); (case l5 => k_is); (case c5 => k_is); (case k5 => k_is)
  (case a6 => k_is); (case l6 => k_is); (case c6 => k_is); (case k6 => k_is)
  (case a7 => k_is); (case l7 => k_is); (case c7 => k_is); (case k7 => k_is)
  (case a8 => k_is); (case l8 => k_is); (case c8 => k_is); (case k8 => k_is)
  (case a9 => k_is); (case l9 => k_is); (case c9 => k_is); (case k9 => k_is)
  (case a10 => k_is); (case l10 => k_is); (case c10 => k_is); (case k10 => k_is)
  (case a11 => k_is); (case l11 => k_is); (case c11 => k_is); (case k11 => k_is)
  (case a12 => k_is); (case l12 => k_is); (case c12 => k_is); (case k12 => k_is)
  (case a13 => k_is); (case l13 => k_is); (case c13 => k_is); (case k13 => k_is)
  (case a14 => k_is); (case l14 => k_is); (case c14 => k_is); (case k14 => k_is)
  (case a15 => k_is); (case l15 => k_is); (case c15 => k_is); (case k15 => k_is)
  (case a16 => k_is); (case l16 => k_is); (case c16 => k_is); (case k16 => k_is)
  (case a17 => k_is); (case l17 => k_is); (case c17 => k_is); (case k17 => k_is)
  (case a18 => k_is); (case l18 => k_is); (case c18 => k_is); (case k18 => k_is)
  (case a19 => k_is); (case l19 => k_is); (case c19 => k_is); (case k19 => k_is)
  (case a20 => k_is); (case l20 => k_is); (case c20 => k_is); (case k20 => k_is)
  (case a21 => k_is); (case l21 => k_is); (case c21 => k_is); (case k21 => k_is)
  (case a22 => k_is); (case l22 => k_is); (case c22 => k_is); (case k22 => k_is)
  (case a23 => k_is); (case l23 => k_is); (case c23 => k_is); (case k23 => k_is)
  (case a24 => k_is); (case l24 => k_is); (case c24 => k_is); (case k24 => k_is)
  (case a25 => k_is); (case l25 => k_is); (case c25 => k_is); (case k25 => k_is)
  (case a26 => k_is); (case l26 => k_is); (case c26 => k_is); (case k26 => k_is)
  (case a27 => k_is); (case l27 => k_is); (case c27 => k_is); (case k27 => k_is)
  (case a28 => k_is); (case l28 => k_is); (case c28 => k_is); (case k28 => k_is)
  (case a29 => k_is); (case l29 => k_is); (case c29 => k_is); (case k29 => k_is)
  (case a30 => k_is); (case l30 => k_is); (case c30 => k_is); (case k30 => k_is)
  (case h26 => kernel_rfl)
  (case gMOST_PLACES => k_is)
  (case gMOST_COLOURS => k_is)
  (case gMOST_CODES => k_is)
  (case gMOST_ASKS => k_is)
  (case zlen => k_is); (case zisinstance => k_is); (case zrange => k_is); (case zint => k_is); (case zbool => k_is); (case ztuple => k_is); (case zlist => k_is); (case zall => k_is); (case zenumerate => k_is); (case zzip => k_is); (case zsum => k_is); (case zsorted => k_is); (case zmax => k_is); (case zmin => k_is); (case zset => k_is); (case zstr => k_is)
  (case yGuessError => k_is)
  (case yClash => k_is)
  (case xClash => k_exc)
  (case uClash => kit_is)
  (case vClash => kit_is)
  (case eGuessErrorClash => kts_exm)
  (case zValueError => k_is)
