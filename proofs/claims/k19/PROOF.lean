import PyProof.Rows.All
import Wide.All
import OpenK.AllK
import Wide.FinOn
import Lean
import PyProof.EqAt
import PyProof.EqKinds
import PyProof.TupleCall
import PySem.Challenge.RW_guesscode_k19_refusals_stand_apart
set_option Elab.async false
set_option linter.all false
set_option maxRecDepth 100000
set_option maxHeartbeats 4000000
abbrev wB := @PySem.wpAny_bind
abbrev wP := @PySem.wpAny_pure
abbrev gEq := @List.getElem?_eq_getElem
abbrev gDq := @List.getD_eq_getElem?_getD
abbrev hPo := @PySem.Heap.get?_push_of_some
abbrev hPs := @PySem.Heap.get?_push_size
abbrev hLs := @PySem.Heap.lt_size
abbrev lMc := @List.mem_cons_of_mem
abbrev lMs := @List.mem_cons_self
abbrev nLl := @Nat.lt_of_lt_of_le
abbrev hUo := @PySem.Heap.get?_update_other
abbrev hUs := @PySem.Heap.get?_update_self
abbrev nLe := @Nat.le_of_lt
abbrev nNl := @Nat.ne_of_lt
abbrev nNg := @Nat.ne_of_gt
abbrev zA := @List.getElem?_cons_zero
abbrev zB := @List.getElem?_cons_succ
abbrev zC := @List.length_cons
abbrev zD := @Option.bind_some
abbrev zE := @List.set_cons_zero
abbrev zF := @List.set_cons_succ
abbrev zG := @Option.map_some
abbrev zH := @List.length_nil
abbrev zI := @List.map_cons
abbrev zJ := @List.length_map
abbrev zK := @List.getElem?_map
abbrev zL := @List.map_nil
abbrev zM := @List.size_toArray
abbrev zN := @Bool.false_eq_true
abbrev Fg := @PySem.W.Frag
abbrev zO := @List.map_map
abbrev zP := @List.mem_map_of_mem
abbrev zQ := @List.length_append
abbrev zR := @List.mem_of_find?_eq_some
abbrev zS := @Nat.not_lt_zero
abbrev zT := @Nat.lt_irrefl
abbrev zU := @Nat.zero_le
abbrev zV := @Option.some.inj
abbrev Q0 := @Option.map_eq_some_iff
abbrev Q1 := @List.getElem?_append_left
abbrev Q2 := @List.getElem?_append_right
abbrev Q3 := @List.getElem?_replicate
abbrev Q4 := @Nat.le_refl
abbrev Q5 := @List.lookup_cons
abbrev Q6 := @Bool.and_eq_true
abbrev Q7 := @Nat.le_trans
abbrev Q8 := @List.mem_append_right
abbrev Q9 := @List.length_set
abbrev Qa := @Bool.false_ne_true
abbrev Qb := @List.mem_cons
abbrev Qc := @List.length_replicate
abbrev Qd := @List.append_nil
abbrev Qe := @List.getElem?_eq_some_iff
abbrev Qf := @List.all_eq_true
abbrev Q10 := @List.getElem?_set_ne
namespace L2
open PySem PySem.Spec PyProof.Rows
noncomputable abbrev Key := Sum Int Str
noncomputable def keyIs : Key -> Value -> Bool
 | .inl k, v => Value.isInt k v
 | .inr x, v => Value.isStrOf x v
noncomputable def keyH (w : World) : Key -> Int
 | .inl k => hashInt k
 | .inr x => hashStr w x
theorem keyIs_shape : ∀ {k : Key} {v : Value}, keyIs k v = true -> (∃ i t, k = Sum.inl i /\ v = Value.int i t) \/ (∃ x t, k = Sum.inr x /\ v = Value.str x t)
 | .inl i, v, h => by
  obtain ⟨t, e⟩ := Value.isInt_shape (k := i) (v := v) h
  exact .inl ⟨i, t, rfl, e⟩
 | .inr x, v, h => by
  obtain ⟨t, e⟩ := Value.isStrOf_shape (x := x) (v := v) h
  exact .inr ⟨x, t, rfl, e⟩
theorem key_ll (a b : Int) : decide ((Sum.inl a : Key) = Sum.inl b) = (a == b) := by
 by_cases e : a = b
 · subst e; simp
 · have h : ¬ (Sum.inl a : Key) = Sum.inl b := λ q => e (Sum.inl.inj q)
   rw [decide_eq_false h]
   exact (beq_eq_false_iff_ne.mpr e).symm
theorem key_rr (a b : Str) : decide ((Sum.inr a : Key) = Sum.inr b) = decide (a = b) := by
 by_cases e : a = b
 · subst e; simp
 · have h : ¬ (Sum.inr a : Key) = Sum.inr b := λ q => e (Sum.inr.inj q)
   rw [decide_eq_false h, decide_eq_false e]
theorem key_lr (a : Int) (b : Str) : decide ((Sum.inl a : Key) = Sum.inr b) = false := decide_eq_false (λ q => nomatch q)
theorem key_rl (a : Str) (b : Int) : decide ((Sum.inr a : Key) = Sum.inl b) = false := decide_eq_false (λ q => nomatch q)
noncomputable def mixKind (prog : Program) (w : World) : PySem.KeyKind prog w Key where
 is := keyIs
 hash := keyH w
 inj := λ v a b ha hb => by
  rcases keyIs_shape ha with ⟨i, t, rfl, rfl⟩ | ⟨x, t, rfl, rfl⟩
  · rcases keyIs_shape hb with ⟨j, u, rfl, e⟩ | ⟨y, u, rfl, e⟩
    · injection e with e1 _; rw [e1]
    · exact nomatch e
  · rcases keyIs_shape hb with ⟨j, u, rfl, e⟩ | ⟨y, u, rfl, e⟩
    · exact nomatch e
    · injection e with e1 _; rw [e1]
 byValue := λ k v h => by
  rcases keyIs_shape h with ⟨i, t, rfl, rfl⟩ | ⟨x, t, rfl, rfl⟩ <;> rfl
 pyHash := λ hv h => by
  rcases keyIs_shape hv with ⟨i, t, rfl, rfl⟩ | ⟨x, t, rfl, rfl⟩
  · exact wpAny_pyHash_int h
  · exact wpAny_pyHash_str h
 eqBool := λ hu hv h => by
  rcases keyIs_shape hu with ⟨i, t, rfl, rfl⟩ | ⟨x, t, rfl, rfl⟩
  · rcases keyIs_shape hv with ⟨j, u, rfl, rfl⟩ | ⟨y, u, rfl, rfl⟩
    · rw [key_ll] at h; exact wpAny_eqBool_int h
    · rw [key_lr] at h; exact SeqAt.EqAt.int_str i t y u _ _ _ _ h
  · rcases keyIs_shape hv with ⟨j, u, rfl, rfl⟩ | ⟨y, u, rfl, rfl⟩
    · rw [key_rl] at h; exact SeqAt.EqAt.str_int x t j u _ _ _ _ h
    · rw [key_rr] at h; exact wpAny_eqBool_str h
 «strs» := λ k x t v h => by
  rcases keyIs_shape h with ⟨i, u, rfl, e⟩ | ⟨y, u, rfl, e⟩
  · exact nomatch e
  · injection e with e1 _
    subst e1
    cases v <;> rfl
inductive V where
 | non | bl (b : Bool) | int (i : Int) | str (x : Str) | byt (b : Array UInt8) | flt (b : UInt64) | ref (a : Addr) | ty (n : String)
 deriving DecidableEq
noncomputable def RelV : V -> Value -> Prop
 | .non, u => u = Value.none
 | .bl b, u => u = Value.bool b
 | .int i, u => ∃ t, u = Value.int i t
 | .str x, u => ∃ t, u = Value.str x t
 | .byt b, u => ∃ t, u = Value.bytes b t
 | .flt b, u => ∃ t, u = Value.float b t
 | .ref a, u => u = Value.ref a
 | .ty n, u => u = Value.type n
abbrev Vals : List V -> List Value -> Prop := Paired RelV
theorem Vals.length {xs : List V} {us : List Value} (r : Vals xs us) : xs.length = us.length := Paired.length r
theorem Vals.get : ∀ {xs : List V} {us : List Value} {i : Nat} {x : V}, Vals xs us -> xs[i]? = some x -> ∃ u, us[i]? = some u /\ RelV x u
 | _, _, _, _, .nil, e => by simp at e
 | _, _, 0, _, .cons r _, e => by simp at e; subst e; exact ⟨_, rfl, r⟩
 | _, _, i + 1, x, .cons _ t, e => by
  obtain ⟨u, h1, h2⟩ := Vals.get (i := i) (x := x) t (by simpa using e)
  exact ⟨u, by simpa using h1, h2⟩
theorem Vals.set {x : V} {u : Value} (r : RelV x u) : ∀ {xs : List V} {us : List Value} (i : Nat), Vals xs us -> Vals (xs.set i x) (us.set i u)
 | _, _, _, .nil => .nil
 | _, _, 0, .cons _ t => .cons r t
 | _, _, i + 1, .cons q t => .cons q (Vals.set r i t)
theorem Vals.append {xs ys : List V} {us ws : List Value} (h : Vals xs us) (s : Vals ys ws) : Vals (xs ++ ys) (us ++ ws) := by
 induction h with
 | nil => exact s
 | cons r t ih => exact .cons r ih
noncomputable def RelO : Option V -> Option Value -> Prop
 | some v, some u => RelV v u
 | none, none => True
 | _, _ => False
def KV {κ : Type} : List (κ × V) -> List (κ × Value) -> Prop := Paired λ (p : κ × V) (q : κ × Value) => p.1 = q.1 /\ RelV p.2 q.2
noncomputable def kV : Key -> V
 | .inl i => .int i
 | .inr x => .str x
inductive HO where
 | lst (xs : List V)
 | tup (xs : List V)
 | dK (kvs : List (Key × V)) | dT (kvs : List (List Key × V))
 | set (S : Int -> Bool) (n : Nat)
 | ins (C dx : Addr) (fs : List (Str × V))
 | own (x : Addr)
 | xd (fs : List (Str × V))
 | met (f x : Addr)
 | rng (lo hi : Int)
 | frz (o : Obj) (u : HO)
 | tbl (ps : Array Value)
 | ext (φ : Heap -> Prop)
noncomputable abbrev Hp := Addr -> Option HO
def upd (H : Hp) (a : Addr) (o : HO) : Hp := λ b => if b = a then some o else H b
theorem upd_same {H : Hp} {a : Addr} {o : HO} : upd H a o a = some o := by unfold upd; rw [if_pos rfl]
theorem upd_ne {H : Hp} {a b : Addr} {o : HO} (h : b ≠ a) : upd H a o b = H b := by unfold upd; rw [if_neg h]
theorem upd_upd {H : Hp} {a : Addr} {o u : HO} : upd (upd H a o) a u = upd H a u := by
 funext b; unfold upd; split <;> rfl
theorem ne_of_none {H : Hp} {a b : Addr} {o : HO} (h : H a = some o) (h' : H b = none) : a ≠ b := by
 intro e; subst e; rw [h] at h'; cases h'
section
variable (P : Program) (w : World)
noncomputable def ObjOk (H : Hp) (h : Heap) (a : Addr) : HO -> Prop
 | .lst xs => xs.length <= sizeLine /\ ∃ (its : List Value) (n : Nat), Vals xs its /\ h.get? a = some { cls := .type "list", data := .seq its.toArray n }
 | .tup xs => xs.length <= sizeLine /\ ∃ its : List Value, Vals xs its /\ IsTup h a its.toArray /\ ∃ ob, h.get? a = some ob /\ ob.dict = none
 | .dK kvs => kvs.length <= sizeLine /\ (a == sysModules) = false /\ ∃ vs, KV kvs vs /\ h.DictOf (mixKind P w) a vs
 | .dT kvs => kvs.length <= sizeLine /\ (a == sysModules) = false /\ ∃ xs : List (List Key × Addr × Value),
  Paired (λ (p : List Key × V) (q : List Key × Addr × Value) => p.1 = q.1 /\ H q.2.1 = some (.tup (p.1.map kV)) /\ RelV p.2 q.2.2) kvs xs /\
  ∃ o es ep, h.get? a = some o /\ o.ExactDict /\ o.data = .dict es ep /\ es.toList = xs.map (entryOfKey (tupleKind (mixKind P w))) /\ (xs.map (·.1)).Nodup /\ ep = xs.length
 | .set S n => h.SetOf (intKind P w) a S n
 | .ins C dx fs => H dx = some (.own a) /\ fs.length <= 1000 /\ dx ≠ a /\ h.get? a = some (PySem.W.instObj C dx) /\
  ∃ mA, h.Ns1 dx mA /\ (∀ f, RelO (fs.lookup f) (mA f)) /\ PySem.Within mA (fs.map (·.1))
 | .own _ => ∃ o, h.get? a = some o
 | .xd fs => ∃ mA, h.Ns1 a mA /\ ∀ f, RelO (fs.lookup f) (mA f)
 | .rng lo hi => ∃ t u v, h.get? a = some { cls := .type "range", data := .fields #[.int lo t, .int hi u, .int 1 v] }
 | .frz o u => h.get? a = some o /\ ObjOk H h a u
 | .tbl ps => h.get? a = some { cls := .none, data := .fields #[] } \/ ∃ (c' : Addr) (o : Obj) (u : HO) (l c : Value) (q : Str) (t t2 : Tok) (vs : Array Value), ps = #[l, c, .str q t] /\ h.get? a = some { cls := .none, data := .fields #[l, c, .ref c'] } /\ H c' = some (.frz o u) /\ o.data = .fields vs /\ vs[1]? = some (.str q t2)
 | .met f x => h.get? a = some (PySem.W.methodObj (.ref f) (.ref x))
 | .ext φ => φ h /\ (∃ o, h.get? a = some o) /\ ∀ h1 h2 : Heap, φ h1 -> (∀ o, h1.get? a = some o -> h2.get? a = some o) -> φ h2
def HOk (H : Hp) (h : Heap) : Prop := ∀ a o, H a = some o -> ObjOk P w H h a o
end
section
variable {P : Program} {w : World} {H H' : Hp} {h h' : Heap} {a : Addr} {o : HO}
theorem ObjOk.lt (x : ObjOk P w H h a o) : a < h.objs.size := by
 cases o with
 | lst xs => obtain ⟨_, _, _, _, e⟩ := x; exact hLs e
 | tup xs => obtain ⟨_, _, _, p, _⟩ := x; exact p.lt
 | dK kvs => obtain ⟨_, _, _, _, o, _, _, e, _⟩ := x; exact hLs e
 | dT kvs => obtain ⟨_, _, _, _, o, _, _, e, _⟩ := x; exact hLs e
 | set S n => obtain ⟨o, _, _, _, e, _⟩ := x; exact hLs e
 | ins C dx fs => obtain ⟨_, _, _, e, _⟩ := x; exact hLs e
 | own y => obtain ⟨_, e⟩ := x; exact hLs e
 | xd fs => obtain ⟨_, ⟨_, _, _, e, _⟩, _⟩ := x; exact hLs e
 | rng lo hi => obtain ⟨_, _, _, e⟩ := x; exact hLs e
 | frz ob u => obtain ⟨e, _⟩ := x; exact hLs e
 | tbl ps =>
  rcases x with e | ⟨c', o, u, l, c, q, t, t2, vs, _, e, _⟩
  · exact hLs e
  · exact hLs e
 | met f y => exact hLs (show h.get? a = some _ from x)
 | ext φ => obtain ⟨_, ⟨_, e⟩, _⟩ := x; exact hLs e
theorem Paired.mapP {α β : Type} {F G : α -> β -> Prop} {l₁ : List α} {l₂ : List β} (h : Paired F l₁ l₂) (f : ∀ a b, F a b -> G a b) : Paired G l₁ l₂ := by
 induction h with
 | nil => exact .nil
 | cons r t ih => exact .cons (f _ _ r) ih
theorem ObjOk.stay (x : ObjOk P w H h a o) (k : ∀ b u, (b = a \/ H b = some (.own a)) -> h.get? b = some u -> h'.get? b = some u)
 (ho : ∀ b, H b = some (.own a) -> H' b = some (.own a)) (ht : ∀ b xs, H b = some (.tup xs) -> H' b = some (.tup xs)) (hf : ∀ b o u, H b = some (.frz o u) -> H' b = some (.frz o u)) : ObjOk P w H' h' a o := by
 induction o with
 | lst xs => obtain ⟨z, its, n, r, e⟩ := x; exact ⟨z, its, n, r, k _ _ (.inl rfl) e⟩
 | tup xs => obtain ⟨z, its, r, ⟨ob, e, c⟩, o2, e2, c2⟩ := x; exact ⟨z, its, r, ⟨ob, k _ _ (.inl rfl) e, c⟩, o2, k _ _ (.inl rfl) e2, c2⟩
 | dK kvs => obtain ⟨z, y, vs, r, ob, es, ep, e, c⟩ := x; exact ⟨z, y, vs, r, ob, es, ep, k _ _ (.inl rfl) e, c⟩
 | dT kvs =>
  obtain ⟨z, y, xs, r, ob, es, ep, e, c⟩ := x
  exact ⟨z, y, xs, Paired.mapP r λ p q z => ⟨z.1, ht _ _ z.2.1, z.2.2⟩, ob, es, ep, k _ _ (.inl rfl) e, c⟩
 | set S n => obtain ⟨ob, es, ep, t, e, c⟩ := x; exact ⟨ob, es, ep, t, k _ _ (.inl rfl) e, c⟩
 | ins C dx fs =>
  obtain ⟨d, z, ne, e, mA, ⟨od, es, ep, e2, c⟩, r⟩ := x
  exact ⟨ho _ d, z, ne, k _ _ (.inl rfl) e, mA, ⟨od, es, ep, k _ _ (.inr d) e2, c⟩, r⟩
 | own y => obtain ⟨ob, e⟩ := x; exact ⟨ob, k _ _ (.inl rfl) e⟩
 | xd fs => obtain ⟨mA, ⟨od, es, ep, e, c⟩, r⟩ := x; exact ⟨mA, ⟨od, es, ep, k _ _ (.inl rfl) e, c⟩, r⟩
 | rng lo hi => obtain ⟨t, u, v, e⟩ := x; exact ⟨t, u, v, k _ _ (.inl rfl) e⟩
 | frz ob u ih => obtain ⟨e, q⟩ := x; exact ⟨k _ _ (.inl rfl) e, ih q⟩
 | tbl ps =>
  rcases x with e | ⟨c', o, u, l, c, q, t, t2, vs, e1, e2, e3, r⟩
  · exact Or.inl (k _ _ (.inl rfl) e)
  · exact Or.inr ⟨c', o, u, l, c, q, t, t2, vs, e1, k _ _ (.inl rfl) e2, hf _ _ _ e3, r⟩
 | met f y =>
  have e : h.get? a = some (PySem.W.methodObj (.ref f) (.ref y)) := x
  show h'.get? a = some (PySem.W.methodObj (.ref f) (.ref y))
  exact k a _ (.inl rfl) e
 | ext φ => obtain ⟨p, ⟨o, e⟩, st⟩ := x; exact ⟨st _ _ p λ o q => k _ _ (.inl rfl) q, ⟨o, k _ _ (.inl rfl) e⟩, st⟩
theorem HOk.lt (x : HOk P w H h) (e : H a = some o) : a < h.objs.size := (x a o e).lt
theorem HOk.fresh (x : HOk P w H h) (e : h.objs.size <= a) : H a = none := by
 cases q : H a with
 | none => rfl
 | some u => exact absurd (nLl (x.lt q) e) (zT _)
theorem HOk.kept (x : HOk P w H h) (k : ∀ b u, h.get? b = some u -> h'.get? b = some u) : HOk P w H h' := λ a o e =>
 (x a o e).stay (λ b u _ q => k b u q) (λ _ q => q) (λ _ _ q => q) λ _ _ _ q => q
theorem HOk.laid (x : HOk P w H h) (k : ∀ b u, h.get? b = some u -> h'.get? b = some u) (hp : h.objs.size <= a) (new : ObjOk P w (upd H a o) h' a o) : HOk P w (upd H a o) h' := λ b u e => by
 have hn := x.fresh hp
 by_cases hb : b = a
 · subst hb; rw [upd_same] at e; cases e; exact new
 · rw [upd_ne hb] at e
   exact (x b u e).stay (λ c v _ q => k c v q) (λ c q => by rw [upd_ne (ne_of_none q hn)]; exact q) (λ c xs q => by rw [upd_ne (ne_of_none q hn)]; exact q) λ c ob xs q => by rw [upd_ne (ne_of_none q hn)]; exact q
end
def Rd (H : Hp) (a : Addr) (u : HO) : Prop := H a = some u \/ ∃ o, H a = some (.frz o u)
theorem Rd.ok {P : Program} {w : World} {H : Hp} {h : Heap} {a : Addr} {u : HO} (r : Rd H a u) (x : HOk P w H h) : ObjOk P w H h a u := by
 rcases r with r | ⟨o, r⟩
 · exact x a u r
 · obtain ⟨_, q⟩ := x a _ r
   exact q
noncomputable def Mut : Option HO -> Prop
 | some (.lst _) => True
 | some (.dK _) => True
 | some (.dT _) => True
 | some (.set _ _) => True
 | some (.ins _ _ _) => True
 | some (.ext _) => True
 | _ => False
section
variable {P : Program} {w : World} {H : Hp} {h h' : Heap} {x e : Addr} {o' : HO}
theorem HOk.write (ok : HOk P w H h) (mu : Mut (H x)) (he : e = x \/ H e = some (.own x)) (k : ∀ b u, b ≠ e -> h.get? b = some u -> h'.get? b = some u) (heo : ∃ u, h'.get? e = some u)
 (new : ObjOk P w (upd H x o') h' x o') : HOk P w (upd H x o') h' := λ b u q => by
 have nown : ∀ c y, H c = some (.own y) -> c ≠ x := λ c y r z => by subst z; rw [r] at mu; exact mu
 have ntup : ∀ c xs, H c = some (.tup xs) -> c ≠ x := λ c xs r z => by subst z; rw [r] at mu; exact mu
 have nfrz : ∀ c ob xs, H c = some (.frz ob xs) -> c ≠ x := λ c ob xs r z => by subst z; rw [r] at mu; exact mu
 by_cases hb : b = x
 · subst hb; rw [upd_same] at q; cases q; exact new
 · rw [upd_ne hb] at q
   by_cases hbe : b = e
   · have q' : H b = some (.own x) := by
      rcases he with z | z
      · exact absurd (hbe.trans z) hb
      · rw [hbe]; exact z
     rw [q] at q'; cases q'
     obtain ⟨v, hv⟩ := heo
     exact ⟨v, by rw [hbe]; exact hv⟩
   · refine (ok b u q).stay (λ c v hc r => k c v ?_ r) (λ c r => by rw [upd_ne (nown c b r)]; exact r) (λ c xs r => by rw [upd_ne (ntup c xs r)]; exact r) λ c ob xs r => by rw [upd_ne (nfrz c ob xs r)]; exact r
     rcases hc with rfl | hc
     · exact hbe
     · rintro rfl
       rcases he with z | z
       · exact nown c b hc z
       · rw [hc] at z; cases z; exact hb rfl
end
structure Un (fs ex : List Addr) (H H' : Hp) (h h' : Heap) : Prop where
 keep : ∀ b o, h.get? b = some o -> H b = none -> b ∉ fs -> b ∉ ex -> h'.get? b = some o
 slot : ∀ b o, h.get? b = some o -> H b = none -> b ∈ fs -> b ∉ ex -> ∃ sl, h'.get? b = some { o with slots := sl }
 free : ∀ b o, h.get? b = some o -> H b = none -> b ∉ ex -> H' b = none
 there : ∀ b o, h.get? b = some o -> b ∉ ex -> ∃ o', h'.get? b = some o'
 tups : ∀ b xs, H b = some (.tup xs) -> H' b = some (.tup xs)
 frzs : ∀ b o u, H b = some (.frz o u) -> H' b = some (.frz o u)
 tbls : ∀ b ps, H b = some (.tbl ps) -> ∃ more, H' b = some (.tbl (ps ++ more))
section
variable {fs fs' ex ex' : List Addr} {H H1 H2 : Hp} {h h1 h2 h' : Heap} {a x e : Addr} {o : HO}
theorem Un.any (u : Un fs ex H H1 h h1) {b : Addr} {ob : Obj} (q : h.get? b = some ob) (n : H b = none) (hx : b ∉ ex) : ∃ sl, h1.get? b = some { ob with slots := sl } := by
 by_cases hb : b ∈ fs
 · exact u.slot b ob q n hb hx
 · exact ⟨ob.slots, u.keep b ob q n hb hx⟩
theorem Un.kept (k : ∀ b u, h.get? b = some u -> h'.get? b = some u) : Un fs ex H H h h' :=
 ⟨λ b ob q _ _ _ => k b ob q, λ b ob q _ _ _ => ⟨ob.slots, k b ob q⟩, λ _ _ _ n _ => n, λ b ob q _ => ⟨ob, k b ob q⟩, λ _ _ q => q, λ _ _ _ q => q, λ _ ps q => ⟨#[], by rw [q]; simp⟩⟩
theorem Un.refl : Un fs ex H H h h := Un.kept λ _ _ q => q
theorem Un.laid (k : ∀ b u, h.get? b = some u -> h'.get? b = some u) (hp : h.objs.size <= a) (hn : H a = none) : Un fs ex H (upd H a o) h h' where
 keep := λ b u q _ _ _ => k b u q
 slot := λ b u q _ _ _ => ⟨u.slots, k b u q⟩
 free := λ b u q n _ => by rw [upd_ne (nNl (nLl (hLs q) hp))]; exact n
 there := λ b u q _ => ⟨u, k b u q⟩
 tups := λ b xs q => by rw [upd_ne (ne_of_none q hn)]; exact q
 frzs := λ b u xs q => by rw [upd_ne (ne_of_none q hn)]; exact q
 tbls := λ b ps q => ⟨#[], by rw [upd_ne (ne_of_none q hn), q]; simp⟩
theorem Un.write (mu : Mut (H x)) (he : e = x \/ H e = some (.own x)) (k : ∀ b u, b ≠ e -> h.get? b = some u -> h'.get? b = some u) (heo : ∃ u, h'.get? e = some u) : Un fs ex H (upd H x o) h h' := by
 have hx : ∀ b, H b = none -> b ≠ x := λ b n z => by subst z; rw [n] at mu; exact mu
 have hb : ∀ b, H b = none -> b ≠ e := λ b n z => by
  subst z
  rcases he with r | r
  · exact hx b n r
  · rw [n] at r; cases r
 have hm : ∀ b u, H b = some u -> ¬ Mut (some u) -> b ≠ x := λ b u q nm z => by subst z; rw [q] at mu; exact nm mu
 refine ⟨λ b u q n _ _ => k b u (hb b n) q, λ b u q n _ _ => ⟨u.slots, k b u (hb b n) q⟩, λ b u q n _ => by rw [upd_ne (hx b n)]; exact n, λ b u q _ => ?_,
  λ b xs q => by rw [upd_ne (hm b _ q λ z => z)]; exact q, λ b u xs q => by rw [upd_ne (hm b _ q λ z => z)]; exact q, λ b ps q => ⟨#[], by rw [upd_ne (hm b _ q λ z => z), q]; simp⟩⟩
 by_cases hbe : b = e
 · subst hbe; exact heo
 · exact ⟨u, k b u hbe q⟩
end
noncomputable def trk (h : Heap) (H : Hp) : List Addr := (List.range h.objs.size).filter λ a => (H a).isSome
noncomputable def hidT (h : Heap) (H : Hp) : Heap := PySem.W.hideAll h (trk h H)
theorem hidT_size (h : Heap) (H : Hp) : (hidT h H).objs.size = h.objs.size := PySem.W.hideAll_size _ _
theorem hidT_get {h : Heap} {H : Hp} {b : Addr} {o : Obj} (e : h.get? b = some o) (n : H b = none) : (hidT h H).get? b = some o :=
 PySem.W.hideAll_get _ e λ hm => by
  have q : (H b).isSome = true := (List.mem_filter.mp hm).2
  rw [n] at q; simp at q
theorem of_hidT {h : Heap} {H : Hp} {b : Addr} {o : Obj} (e : (hidT h H).get? b = some o) : h.get? b = some o /\ H b = none := by
 have e' : h.get? b = some o := PySem.W.of_hideAll (trk h H) e
 refine ⟨e', ?_⟩
 cases q : H b with
 | none => rfl
 | some x =>
  have hm : b ∈ trk h H := List.mem_filter.mpr ⟨List.mem_range.mpr (hLs e'), by simp [q]⟩
  have z : (hidT h H).get? b = none := PySem.W.hideAll_none (trk h H) hm
  rw [z] at e; cases e
noncomputable def allNews (g h : Heap) (L : Addr) : List (Addr × Obj) := (List.range h.objs.size).filterMap λ a => if a = L \/ (g.get? a).isSome = true then none else (h.get? a).map λ o => (a, o)
noncomputable def rest (g h : Heap) (L d : Addr) : List (Addr × Obj) := (allNews g h L).filter λ p => decide (p.1 ≠ d)
structure Mod (K : Fg) (mg : Str -> Option Value) (base : Heap) : Prop where
 kin : K.In base
 glob : base.Ns mainGlobals mg
 blt : ∃ mb, base.Ns builtinsNs mb /\ ∀ x : Str, x ≠ "__name__" -> mb x = bootBuiltins x
 nolimit : base.NoLimit
structure Cx where
 prog : Program
 w : World
 K : Fg
 mg : Str -> Option Value
 base : Heap
 A : Around
 N : List Str
 s₀ : Shared
 H₀ : Hp
 env : Env
 outer : List Env
 stack : List Env
 ex : List Addr
 fn : Str -> Bool
 calm : Bool
 pn : List (Addr × Obj)
 xe : Value -> Shared -> Prop
noncomputable def frs (l : List Env) : List Addr := l.filterMap (·.frame)
noncomputable abbrev Cx.fs (X : Cx) : List Addr := frs X.outer
def Vis (sc : Scope) (x : Str) : Prop := sc.names.lookup x = some .local \/ sc.names.lookup x = some .cell \/ sc.names.lookup x = some .free
def Loc (sc : Scope) (x : Str) : Prop := sc.names.lookup x = some .local \/ sc.names.lookup x = some .cell
def Look (env : Env) (h : Heap) (m : Str -> Option Value) (x : Str) (u : Value) : Prop :=
 (env.kindOf x = some .local /\ m x = some u) \/ ((env.kindOf x = some .cell \/ env.kindOf x = some .free) /\ ∃ c, env.cells.lookup x = some c /\ h.IsCell c (some u))
structure Cx.Ok (X : Cx) : Prop where
 mod : Mod X.K X.mg X.base
 kind : X.env.scope.kind = .function
 glob : X.env.globals = mainGlobals
 blt : X.env.builtins = builtinsNs
 above : X.s₀.heap.objs.size <= X.env.locals
 inj : ∀ x y c, X.env.cells.lookup x = some c -> X.env.cells.lookup y = some c -> x = y
 has : ∀ x, (X.env.kindOf x = some .cell \/ X.env.kindOf x = some .free) -> ∃ c, X.env.cells.lookup x = some c
 cab : ∀ x c, X.fn x = true -> X.env.cells.lookup x = some c -> X.s₀.heap.objs.size <= c
 hd : X.calm = true -> X.A.handled = none
 frames : X.A.frames = some X.stack
 stk : X.stack = X.outer \/ (X.stack = X.env :: X.outer /\ X.env.frame = some X.env.locals)
 exf : ∀ b ∈ X.ex, b ≠ X.env.locals /\ ∀ x c, X.env.cells.lookup x = some c -> c ≠ b
 bs : ∀ b o, X.base.get? b = some o -> X.s₀.heap.get? b = some o /\ X.H₀ b = none
 bsz : X.base.objs.size <= X.s₀.heap.objs.size
 noex : ∀ b o, X.base.get? b = some o -> b ∉ X.ex
 exfs : ∀ b ∈ X.ex, b ∉ X.fs
 funs : X.s₀.heap.FunFrames X.base X.outer
 frf : ∀ b ∈ X.fs, X.H₀ b = none
structure Inv (X : Cx) (pins : List (Addr × Obj)) (σ : List (Option V)) (H : Hp) (s : Shared) : Prop where
 ok : X.Ok
 os : s.os = X.s₀.os
 bare : AllBare s.gens
 base : Un X.fs X.ex X.H₀ H X.s₀.heap s.heap
 loc : ∃ m, s.heap.Ns X.env.locals m /\ ∀ (i : Nat) (x : Str) (v : V), X.N[i]? = some x -> σ[i]? = some (some v) -> Vis X.env.scope x -> ∃ u, RelV v u /\ Look X.env s.heap m x u
 cell : ∀ x c, X.env.cells.lookup x = some c -> ∃ v, s.heap.IsCell c v
 free : H X.env.locals = none
 freeC : ∀ x c, X.env.cells.lookup x = some c -> H c = none
 pin : ∀ p ∈ X.pn ++ pins, s.heap.get? p.1 = some p.2 /\ H p.1 = none /\ p.1 ≠ X.env.locals /\ p.1 ∉ X.fs /\ ∀ v, p.2.data ≠ .cell v
 hok : HOk X.prog X.w H s.heap
 len : σ.length = X.N.length
section
variable {X : Cx} {pins : List (Addr × Obj)} {σ : List (Option V)} {H H' : Hp} {s : Shared} {h' : Heap}
theorem Cx.Ok.nofr (ok : X.Ok) {b : Addr} {o : Obj} (e : X.base.get? b = some o) : b ∉ X.fs := λ hb => by
 have := (ok.funs.mem hb).1
 rw [e] at this; cases this
theorem Inv.bs (I : Inv X pins σ H s) : ∀ b o, X.base.get? b = some o -> s.heap.get? b = some o /\ H b = none := λ b o e =>
 ⟨I.base.keep b o (I.ok.bs b o e).1 (I.ok.bs b o e).2 (I.ok.nofr e) (I.ok.noex b o e), I.base.free b o (I.ok.bs b o e).1 (I.ok.bs b o e).2 (I.ok.noex b o e)⟩
theorem Inv.bk (I : Inv X pins σ H s) : ∀ b o, X.base.get? b = some o -> s.heap.get? b = some o := λ b o e => (I.bs b o e).1
theorem Inv.mod (I : Inv X pins σ H s) : Mod X.K X.mg X.base := I.ok.mod
theorem Inv.kIn (I : Inv X pins σ H s) : X.K.In s.heap := I.ok.mod.kin.keeps I.bk
theorem Inv.lt (I : Inv X pins σ H s) : X.env.locals < s.heap.objs.size := let ⟨_, hn, _⟩ := I.loc; hn.lt
theorem Inv.sz (I : Inv X pins σ H s) : X.s₀.heap.objs.size <= s.heap.objs.size := Q7 I.ok.above (nLe I.lt)
theorem Inv.nofs (I : Inv X pins σ H s) {a : Addr} (h : s.heap.objs.size <= a) : a ∉ X.fs := λ hb => by
 obtain ⟨_, o, ho, _⟩ := I.ok.funs.mem hb
 exact absurd (nLl (hLs ho) (Q7 I.sz h)) (zT _)
theorem Inv.cne (I : Inv X pins σ H s) : ∀ x c, X.env.cells.lookup x = some c -> c ≠ X.env.locals := λ x c e z => by
 obtain ⟨v, o, ho, hd⟩ := I.cell x c e
 obtain ⟨m, ⟨o', es, ep, ho', hd', _⟩, _⟩ := I.loc
 rw [z, ho'] at ho; cases ho; rw [hd'] at hd; cases hd
theorem Inv.funs (I : Inv X pins σ H s) : s.heap.FunFrames X.base X.outer := by
 have all : ∀ (l : List Env), (∀ b ∈ frs l, b ∈ X.fs) -> X.s₀.heap.FunFrames X.base l -> s.heap.FunFrames X.base l := by
  intro l
  induction l with
  | nil => intro _ _; trivial
  | cons env r ih =>
   intro hs hl
   obtain ⟨hk, ⟨L, o, hf, hn, ho, hd⟩, hr⟩ := hl
   have hL : L ∈ X.fs := hs L (by unfold frs; rw [List.filterMap_cons, hf]; exact lMs)
   obtain ⟨sl, e⟩ := I.base.slot L o ho (I.ok.frf L hL) hL λ z => I.ok.exfs L z hL
   exact ⟨hk, ⟨L, _, hf, hn, e, hd⟩, ih (λ b hb => hs b (by unfold frs; rw [List.filterMap_cons, hf]; exact lMc _ hb)) hr⟩
 exact all X.outer (λ _ hb => hb) I.ok.funs
theorem Inv.stack (I : Inv X pins σ H s) : s.heap.FunFrames X.base X.stack := by
 rcases I.ok.stk with e | ⟨e, hf⟩
 · rw [e]; exact I.funs
 · rw [e]
   obtain ⟨m, hn, _⟩ := I.loc
   refine .cons (by rw [I.ok.kind]; decide) hf hn ?_ I.funs
   exact Heap.get?_none_of_le (Q7 I.ok.bsz I.ok.above)
theorem Inv.stkSub (I : Inv X pins σ H s) : ∀ b ∈ frs X.stack, b ∈ X.env.locals :: X.fs := λ b hb => by
 rcases I.ok.stk with e | ⟨e, hf⟩
 · rw [e] at hb; exact lMc _ hb
 · rw [e] at hb
   unfold frs at hb
   rw [List.filterMap_cons, hf] at hb
   exact hb
theorem Inv.stkFree (I : Inv X pins σ H s) : ∀ b ∈ frs X.stack, H b = none := λ b hb => by
 rcases Qb.mp (I.stkSub b hb) with e | hb
 · rw [e]; exact I.free
 · obtain ⟨_, o, ho, _⟩ := I.ok.funs.mem hb
   exact I.base.free b o ho (I.ok.frf b hb) λ z => I.ok.exfs b z hb
theorem Inv.step {g' : Array GenState} {t' : Nat} {d' : Drawn} {ch : List Addr} (I : Inv X pins σ H s)
 (hch : ∀ b ∈ ch, (b ∈ X.ex \/ X.s₀.heap.objs.size <= b) /\ b ≠ X.env.locals /\ (∀ x c, X.env.cells.lookup x = some c -> c ≠ b) /\ ∀ p ∈ X.pn ++ pins, p.1 ≠ b)
 (keep : ∀ b o, b ≠ X.env.locals -> b ∉ X.fs -> b ∉ ch -> s.heap.get? b = some o -> H b = none -> h'.get? b = some o)
 (slot : ∀ b o, b ≠ X.env.locals -> b ∈ X.fs -> b ∉ ch -> s.heap.get? b = some o -> H b = none -> ∃ sl, h'.get? b = some { o with slots := sl }) (free : ∀ b o, b ∉ ch -> s.heap.get? b = some o -> H b = none -> H' b = none)
 (there : ∀ b o, b ∉ ch -> s.heap.get? b = some o -> ∃ o', h'.get? b = some o')
 (tups : ∀ b xs, H b = some (.tup xs) -> H' b = some (.tup xs)) (frzs : ∀ b o u, H b = some (.frz o u) -> H' b = some (.frz o u)) (tbls : ∀ b ps, H b = some (.tbl ps) -> ∃ more, H' b = some (.tbl (ps ++ more)))
 (ns : ∀ m, s.heap.Ns X.env.locals m -> h'.Ns X.env.locals m) (hok : HOk X.prog X.w H' h') (hg : AllBare g') :
 Inv X pins σ H' { s with heap := h', gens := g', drawn := d', toks := t' } := by
 have neL : ∀ b o, X.s₀.heap.get? b = some o -> b ≠ X.env.locals := λ b o e => nNl (nLl (hLs e) I.ok.above)
 have neC : ∀ b o, X.s₀.heap.get? b = some o -> b ∉ X.ex -> b ∉ ch := λ b o e hx hb => by
  rcases (hch b hb).1 with z | z
  · exact hx z
  · exact absurd (nLl (hLs e) z) (zT _)
 have cellK : ∀ x c, X.env.cells.lookup x = some c -> ∀ v, s.heap.IsCell c v -> h'.IsCell c v := λ x c e v ⟨o, ho, hd⟩ => by
  have nch : c ∉ ch := λ z => (hch c z).2.2.1 x c e rfl
  by_cases hc : c ∈ X.fs
  · obtain ⟨sl, q⟩ := slot c o (I.cne x c e) hc nch ho (I.freeC x c e)
    exact ⟨_, q, hd⟩
  · exact ⟨o, keep c o (I.cne x c e) hc nch ho (I.freeC x c e), hd⟩
 refine ⟨I.ok, I.os, hg, ⟨λ b o e n hb hx => ?_, λ b o e n hb hx => ?_, λ b o e n hx => ?_, λ b o e hx => ?_, λ b xs e => tups b xs (I.base.tups b xs e), λ b o xs e => frzs b o xs (I.base.frzs b o xs e), λ b ps e => ?_⟩, ?_, λ x c e => ?_, ?_, λ x c e => ?_, λ p hp => ?_, hok, I.len⟩
 · exact keep b o (neL b o e) hb (neC b o e hx) (I.base.keep b o e n hb hx) (I.base.free b o e n hx)
 · obtain ⟨sl, e1⟩ := I.base.slot b o e n hb hx
   obtain ⟨sl', e2⟩ := slot b _ (neL b o e) hb (neC b o e hx) e1 (I.base.free b o e n hx)
   exact ⟨sl', e2⟩
 · obtain ⟨o', e1⟩ := I.base.there b o e hx
   exact free b o' (neC b o e hx) e1 (I.base.free b o e n hx)
 · obtain ⟨o', e1⟩ := I.base.there b o e hx
   exact there b o' (neC b o e hx) e1
 · obtain ⟨m1, e1⟩ := I.base.tbls b ps e
   obtain ⟨m2, e2⟩ := tbls b _ e1
   exact ⟨m1 ++ m2, by rw [e2, Array.append_assoc]⟩
 · obtain ⟨m, hn, hl⟩ := I.loc
   refine ⟨m, ns m hn, λ i x v e1 e2 e3 => ?_⟩
   obtain ⟨u, r, l⟩ := hl i x v e1 e2 e3
   refine ⟨u, r, ?_⟩
   rcases l with l | ⟨k, c, e, z⟩
   · exact .inl l
   · exact .inr ⟨k, c, e, cellK x c e _ z⟩
 · obtain ⟨v, z⟩ := I.cell x c e
   exact ⟨v, cellK x c e v z⟩
 · obtain ⟨m, ⟨o, _, _, ho, _⟩, _⟩ := I.loc
   exact free _ o (λ z => (hch _ z).2.1 rfl) ho I.free
 · obtain ⟨v, o, ho, hd⟩ := I.cell x c e
   exact free c o (λ z => (hch c z).2.2.1 x c e rfl) ho (I.freeC x c e)
 · obtain ⟨e, n, ne, nf, d⟩ := I.pin p hp
   have nch : p.1 ∉ ch := λ z => (hch p.1 z).2.2.2 p hp rfl
   exact ⟨keep p.1 p.2 ne nf nch e n, free p.1 p.2 nch e n, ne, nf, d⟩
theorem Inv.un {t' : Nat} (I : Inv X pins σ H s) (u : Un X.fs [] H H' s.heap h') (hok : HOk X.prog X.w H' h') : Inv X pins σ H' { s with heap := h', toks := t' } := by
 obtain ⟨m, ⟨o, es, ep, ho, r⟩, _⟩ := id I.loc
 obtain ⟨sl, hL⟩ := u.any ho I.free (by simp)
 exact I.step (g' := s.gens) (d' := s.drawn) (ch := []) (λ _ z => nomatch z) (λ b o _ hb _ e n => u.keep b o e n hb (by simp)) (λ b o _ hb _ e n => u.slot b o e n hb (by simp)) (λ b o _ e n => u.free b o e n (by simp)) (λ b o _ e => u.there b o e (by simp)) u.tups u.frzs u.tbls (λ m' hm => by
  obtain ⟨o', es', ep', ho', r'⟩ := hm
  rw [ho] at ho'; cases ho'
  exact ⟨_, es', ep', hL, r'⟩) hok I.bare
theorem Inv.call {g' : Array GenState} {t' : Nat} {d' : Drawn} {ch : List Addr} (I : Inv X pins σ H s) (u : Un (frs X.stack) ch H H' s.heap h') (hok : HOk X.prog X.w H' h') (hg : AllBare g')
 (hch : ∀ b ∈ ch, (b ∈ X.ex \/ X.s₀.heap.objs.size <= b) /\ b ≠ X.env.locals /\ (∀ x c, X.env.cells.lookup x = some c -> c ≠ b) /\ ∀ p ∈ X.pn ++ pins, p.1 ≠ b) :
 Inv X pins σ H' { s with heap := h', gens := g', drawn := d', toks := t' } := by
 obtain ⟨m, ⟨o, es, ep, ho, r⟩, _⟩ := id I.loc
 obtain ⟨sl, hL⟩ := u.any ho I.free λ z => (hch _ z).2.1 rfl
 exact I.step (ch := ch) hch (λ b o hL hb hc e n => u.keep b o e n (λ z => (Qb.mp (I.stkSub b z)).elim hL hb) hc) (λ b o _ _ hc e n => u.any e n hc) (λ b o hc e n => u.free b o e n hc) (λ b o hc e => u.there b o e hc) u.tups u.frzs u.tbls (λ m' hm => by
  obtain ⟨o', es', ep', ho', r'⟩ := hm
  rw [ho] at ho'; cases ho'
  exact ⟨_, es', ep', hL, r'⟩) hok hg
theorem Inv.turned {t' : Nat} {it : Addr} (I : Inv X pins σ H s) (k : ∀ b o, b ≠ it -> s.heap.get? b = some o -> h'.get? b = some o) (hn : H it = none) (hL : it ≠ X.env.locals)
 (h1 : it ∈ X.ex \/ X.s₀.heap.objs.size <= it) (h2 : ∀ x c, X.env.cells.lookup x = some c -> c ≠ it) (h3 : ∀ p ∈ X.pn ++ pins, p.1 ≠ it) : Inv X pins σ H { s with heap := h', toks := t' } := by
 have nit : ∀ b u, H b = some u -> b ≠ it := λ b u e z => by rw [z, hn] at e; cases e
 refine I.step (g' := s.gens) (d' := s.drawn) (ch := [it]) (λ b hb => ?_) (λ b o _ _ hc e _ => k b o (λ z => hc (by simp [z])) e) (λ b o _ _ hc e _ => ⟨o.slots, k b o (λ z => hc (by simp [z])) e⟩) (λ _ _ _ _ n => n)
  (λ b o hc e => ⟨o, k b o (λ z => hc (by simp [z])) e⟩) (λ _ _ e => e) (λ _ _ _ e => e) (λ b ps e => ⟨#[], by rw [e]; simp⟩) (λ m hm => ?_) (λ b u e => ?_) I.bare
 · have e : b = it := by simpa using hb
   subst e
   exact ⟨h1, hL, h2, h3⟩
 · obtain ⟨o, es, ep, ho, r⟩ := hm
   exact ⟨o, es, ep, k _ o (Ne.symm hL) ho, r⟩
 · refine (I.hok b u e).stay (λ c v hc q => k c v ?_ q) (λ _ q => q) (λ _ _ q => q) λ _ _ _ q => q
   rcases hc with z | z
   · rw [z]; exact nit b u e
   · exact nit c _ z
theorem Inv.tok (I : Inv X pins σ H s) (t : Nat) : Inv X pins σ H { s with toks := t } := I.un (h' := s.heap) (t' := t) Un.refl I.hok
theorem Inv.kept {t' : Nat} (I : Inv X pins σ H s) (k : ∀ b u, s.heap.get? b = some u -> h'.get? b = some u) : Inv X pins σ H { s with heap := h', toks := t' } := I.un (Un.kept k) (I.hok.kept k)
theorem Inv.laid {a : Addr} {o : HO} {t' : Nat} (I : Inv X pins σ H s) (k : ∀ b u, s.heap.get? b = some u -> h'.get? b = some u) (hp : s.heap.objs.size <= a) (new : ObjOk X.prog X.w (upd H a o) h' a o) :
 Inv X pins σ (upd H a o) { s with heap := h', toks := t' } := I.un (Un.laid k hp (I.hok.fresh hp)) (I.hok.laid k hp new)
theorem Inv.write {x e : Addr} {o : HO} {t' : Nat} (I : Inv X pins σ H s) (mu : Mut (H x)) (he : e = x \/ H e = some (.own x)) (k : ∀ b u, b ≠ e -> s.heap.get? b = some u -> h'.get? b = some u) (heo : ∃ u, h'.get? e = some u)
 (new : ObjOk X.prog X.w (upd H x o) h' x o) : Inv X pins σ (upd H x o) { s with heap := h', toks := t' } := I.un (Un.write mu he k heo) (I.hok.write mu he k heo new)
theorem Inv.pins_of {pins' : List (Addr × Obj)} (I : Inv X pins σ H s) (h : ∀ p ∈ pins', s.heap.get? p.1 = some p.2 /\ H p.1 = none /\ p.1 ≠ X.env.locals /\ p.1 ∉ X.fs /\ ∀ v, p.2.data ≠ .cell v) : Inv X pins' σ H s :=
 ⟨I.ok, I.os, I.bare, I.base, I.loc, I.cell, I.free, I.freeC, λ p hp => (List.mem_append.mp hp).elim (λ z => I.pin p (List.mem_append_left _ z)) (h p), I.hok, I.len⟩
theorem nodup_ix {N : List Str} (hN : N.Nodup) {i j : Nat} {x : Str} (a : N[i]? = some x) (b : N[j]? = some x) : i = j := by
 obtain ⟨h1, e1⟩ := Qe.mp a
 obtain ⟨h2, e2⟩ := Qe.mp b
 exact (List.getElem_inj hN).mp (e1.trans e2.symm)
theorem store_ok2 {M : Model} {A : Around} {E : Value -> Shared -> Prop} {i : Nat} {x : Str} {v : V} {u : Value} {Q : Unit -> Shared -> Prop} (I : Inv X pins σ H s) (hN : X.N.Nodup) (hi : X.N[i]? = some x) (hx : Loc X.env.scope x) (r : RelV v u)
 (h : ∀ s', Inv X pins (σ.set i (some v)) H s' -> (∃ a, Heap.SameBut a s.heap s'.heap /\ (a = X.env.locals \/ X.env.cells.lookup x = some a)) -> Q () s') (hf : X.fn x = true \/ X.env.scope.names.lookup x = some .local := by first | exact .inl rfl | exact .inr rfl | assumption) : wpAny M A (storeName X.env x u) Q E s := by
 obtain ⟨m, hn, hl⟩ := id I.loc
 have hcls : (X.env.scope.kind == .class || (X.env.scope.kind == .module && X.env.locals != X.env.globals)) = false := by rw [I.ok.kind]; rfl
 have hiσ : i < σ.length := by rw [I.len]; exact (Qe.mp hi).1
 have cne := I.cne
 have tracked : ∀ {a : Addr} {h' : Heap}, (∃ o, s.heap.get? a = some o /\ H a = none) -> Heap.SameBut a s.heap h' -> HOk X.prog X.w H h' := λ {a h'} ha hs b ob e => by
  obtain ⟨_, _, hfree⟩ := ha
  refine (I.hok b ob e).stay (λ c w' hc q => (hs.2 c ?_).trans q) (λ _ q => q) (λ _ _ q => q) λ _ _ _ q => q
  rintro rfl
  rcases hc with rfl | hc
  · rw [hfree] at e; cases e
  · rw [hfree] at hc; cases hc
 rcases hx with hk | hk
 · refine wpAny_storeName_local hk hn (λ h' hn' hs => ?_) hcls
   obtain ⟨oL, _, _, hoL, _⟩ := id hn
   refine h _ ⟨I.ok, I.os, I.bare, ⟨λ b o e n hb hx => ?_, λ b o e n hb hx => ?_, I.base.free, λ b o e hx => ?_, I.base.tups, I.base.frzs, I.base.tbls⟩, ⟨_, hn', λ j y v' e1 e2 e3 => ?_⟩, λ y c e => ?_, I.free, I.freeC, λ p hp => ?_, tracked ⟨oL, hoL, I.free⟩ hs, by simpa using I.len⟩ ⟨_, hs, .inl rfl⟩
   · exact (hs.2 b (nNl (nLl (hLs e) I.ok.above))).trans (I.base.keep b o e n hb hx)
   · obtain ⟨sl, e1⟩ := I.base.slot b o e n hb hx
     exact ⟨sl, (hs.2 b (nNl (nLl (hLs e) I.ok.above))).trans e1⟩
   · obtain ⟨o', e1⟩ := I.base.there b o e hx
     exact ⟨o', (hs.2 b (nNl (nLl (hLs e) I.ok.above))).trans e1⟩
   · by_cases hj : j = i
     · subst hj
       rw [hi] at e1; cases e1
       rw [List.getElem?_set_self hiσ] at e2
       cases e2
       exact ⟨u, r, .inl ⟨hk, by simp⟩⟩
     · rw [Q10 (Ne.symm hj)] at e2
       obtain ⟨u', r', q⟩ := hl j y v' e1 e2 e3
       refine ⟨u', r', ?_⟩
       rcases q with ⟨k, e⟩ | ⟨k, c, e, z⟩
       · refine .inl ⟨k, ?_⟩
         have : y ≠ x := λ e => hj (nodup_ix hN e1 (e ▸ hi))
         simp [this, e]
       · exact .inr ⟨k, c, e, z.sameBut hs (cne y c e)⟩
   · obtain ⟨w', z⟩ := I.cell y c e
     exact ⟨w', z.sameBut hs (cne y c e)⟩
   · obtain ⟨e, n, ne, nf, d⟩ := I.pin p hp
     exact ⟨(hs.2 p.1 ne).trans e, n, ne, nf, d⟩
 · have hfn : X.fn x = true := by
    rcases hf with z | z
    · exact z
    · rw [z] at hk; cases hk
   obtain ⟨c, hc⟩ := I.ok.has x (.inl hk)
   obtain ⟨w', z⟩ := I.cell x c hc
   refine wpAny_storeName_cell I.ok.kind hk hc z (λ h' hc' hs => ?_)
   obtain ⟨oc, hoc, hocd⟩ := id z
   refine h { s with heap := h' } ⟨I.ok, I.os, I.bare, ⟨λ b o e n hb hx => ?_, λ b o e n hb hx => ?_, I.base.free, λ b o e hx => ?_, I.base.tups, I.base.frzs, I.base.tbls⟩, ⟨m, hn.sameBut hs (Ne.symm (cne x c hc)), λ j y v' e1 e2 e3 => ?_⟩, λ y c' e => ?_, I.free, I.freeC, λ p hp => ?_, tracked ⟨oc, hoc, I.freeC x c hc⟩ hs, by simpa using I.len⟩ ⟨c, hs, .inr hc⟩
   · exact (hs.2 b (nNl (nLl (hLs e) (I.ok.cab x c hfn hc)))).trans (I.base.keep b o e n hb hx)
   · obtain ⟨sl, e1⟩ := I.base.slot b o e n hb hx
     exact ⟨sl, (hs.2 b (nNl (nLl (hLs e) (I.ok.cab x c hfn hc)))).trans e1⟩
   · obtain ⟨o', e1⟩ := I.base.there b o e hx
     exact ⟨o', (hs.2 b (nNl (nLl (hLs e) (I.ok.cab x c hfn hc)))).trans e1⟩
   · by_cases hj : j = i
     · subst hj
       rw [hi] at e1; cases e1
       rw [List.getElem?_set_self hiσ] at e2
       cases e2
       exact ⟨u, r, .inr ⟨.inl hk, c, hc, hc'⟩⟩
     · rw [Q10 (Ne.symm hj)] at e2
       obtain ⟨u', r', q⟩ := hl j y v' e1 e2 e3
       refine ⟨u', r', ?_⟩
       rcases q with q | ⟨k, c', e, z'⟩
       · exact .inl q
       · refine .inr ⟨k, c', e, z'.sameBut hs ?_⟩
         rintro rfl
         exact hj (nodup_ix hN e1 (I.ok.inj _ _ _ e hc ▸ hi))
   · by_cases hcc : c' = c
     · subst hcc; exact ⟨_, hc'⟩
     · obtain ⟨w2, z2⟩ := I.cell y c' e
       exact ⟨w2, z2.sameBut hs hcc⟩
   · obtain ⟨e, n, ne, nf, d⟩ := I.pin p hp
     refine ⟨(hs.2 p.1 ?_).trans e, n, ne, nf, d⟩
     intro q
     rw [q, hoc] at e
     have q' : oc = p.2 := zV e
     exact d w' (by rw [<- q']; exact hocd)
theorem store_ok {M : Model} {A : Around} {E : Value -> Shared -> Prop} {i : Nat} {x : Str} {v : V} {u : Value} {Q : Unit -> Shared -> Prop} (I : Inv X pins σ H s) (hN : X.N.Nodup) (hi : X.N[i]? = some x) (hx : Loc X.env.scope x) (r : RelV v u)
 (h : ∀ s', Inv X pins (σ.set i (some v)) H s' -> Q () s') (hf : X.fn x = true \/ X.env.scope.names.lookup x = some .local := by first | exact .inl rfl | exact .inr rfl | assumption) : wpAny M A (storeName X.env x u) Q E s :=
 store_ok2 I hN hi hx r (λ s' I' _ => h s' I') hf
theorem Inv.call' {s' : Shared} {ch : List Addr} (I : Inv X pins σ H s) (ho : s'.os = s.os) (u : Un (frs X.stack) ch H H' s.heap s'.heap) (hok : HOk X.prog X.w H' s'.heap) (hg : AllBare s'.gens)
 (hch : ∀ b ∈ ch, (b ∈ X.ex \/ X.s₀.heap.objs.size <= b) /\ b ≠ X.env.locals /\ (∀ x c, X.env.cells.lookup x = some c -> c ≠ b) /\ ∀ p ∈ X.pn ++ pins, p.1 ≠ b) : Inv X pins σ H' s' := by
 obtain ⟨h', g', d', t', o'⟩ := s'
 have e : o' = s.os := ho
 subst e
 exact I.call (g' := g') (t' := t') (d' := d') u hok hg hch
end
noncomputable abbrev XK := Value -> Option Addr -> Hp -> Prop
noncomputable abbrev St := List (Option V)
noncomputable abbrev VK := V -> Hp -> Prop
noncomputable abbrev TE := St -> Hp -> VK -> Prop
noncomputable abbrev TT := St -> Hp -> (Bool -> Hp -> Prop) -> Prop
noncomputable abbrev TA := St -> Hp -> (List V -> Hp -> Prop) -> Prop
structure Ends where
 nx : St -> Hp -> Prop
 rt : VK
 bk : St -> Hp -> Prop := λ _ _ => False
 ct : St -> Hp -> Prop := λ _ _ => False
noncomputable abbrev TS := Ends -> St -> Hp -> Prop
def EP (X : Cx) (pins : List (Addr × Obj)) (σ : St) (Q : VK) (u : Value) (s' : Shared) : Prop := ∃ v H', Inv X pins σ H' s' /\ RelV v u /\ Q v H'
def TP (X : Cx) (pins : List (Addr × Obj)) (σ : St) (Q : Bool -> Hp -> Prop) (b : Bool) (s' : Shared) : Prop := ∃ H', Inv X pins σ H' s' /\ Q b H'
def AP (X : Cx) (pins : List (Addr × Obj)) (σ : St) (Q : List V -> Hp -> Prop) (us : List Value) (s' : Shared) : Prop := ∃ vs H', Inv X pins σ H' s' /\ Vals vs us /\ Q vs H'
def SP (X : Cx) (pins : List (Addr × Obj)) (D : Ends) (f : Flow) (s' : Shared) : Prop :=
 match f with
 | .next => ∃ σ' H', Inv X pins σ' H' s' /\ D.nx σ' H'
 | .brk => ∃ σ' H', Inv X pins σ' H' s' /\ D.bk σ' H'
 | .cont => ∃ σ' H', Inv X pins σ' H' s' /\ D.ct σ' H'
 | .ret u => ∃ v σ' H', Inv X pins σ' H' s' /\ RelV v u /\ D.rt v H'
def PE (X : Cx) (e : Expr) (t : TE) : Prop :=
 ∀ (pins : List (Addr × Obj)) (s : Shared) (σ : St) (H : Hp) (Q : VK), Inv X pins σ H s -> t σ H Q -> wpAny (model X.prog X.w) X.A (eval e X.env) (EP X pins σ Q) X.xe s
def PT (X : Cx) (e : Expr) (t : TT) : Prop :=
 ∀ (pins : List (Addr × Obj)) (s : Shared) (σ : St) (H : Hp) (Q : Bool -> Hp -> Prop), Inv X pins σ H s -> t σ H Q -> wpAny (model X.prog X.w) X.A (isTrue e X.env (eval e X.env)) (TP X pins σ Q) X.xe s
def PW (X : Cx) (e : Expr) (t : TT) : Prop :=
 ∀ (whole : Sem Value) (pins : List (Addr × Obj)) (s : Shared) (σ : St) (H : Hp) (Q : Bool -> Hp -> Prop), Inv X pins σ H s -> t σ H Q -> wpAny (model X.prog X.w) X.A (isTrue e X.env whole) (TP X pins σ Q) X.xe s
theorem PW.pt {X : Cx} {e : Expr} {t : TT} (h : PW X e t) : PT X e t := h _
def PA (X : Cx) (es : List Expr) (t : TA) : Prop :=
 ∀ (pos : Pos) (pins : List (Addr × Obj)) (s : Shared) (σ : St) (H : Hp) (Q : List V -> Hp -> Prop), Inv X pins σ H s -> t σ H Q -> wpAny (model X.prog X.w) X.A (spliced (backTo pos (starEach es X.env))) (AP X pins σ Q) X.xe s
def PS (X : Cx) (st : Stmt) (t : TS) : Prop :=
 ∀ (pins : List (Addr × Obj)) (s : Shared) (σ : St) (H : Hp) (D : Ends), Inv X pins σ H s -> t D σ H -> wpAny (model X.prog X.w) X.A (exec st X.env) (SP X pins D) X.xe s
def PSs (X : Cx) (st : List Stmt) (t : TS) : Prop :=
 ∀ (pins : List (Addr × Obj)) (s : Shared) (σ : St) (H : Hp) (D : Ends), Inv X pins σ H s -> t D σ H -> wpAny (model X.prog X.w) X.A (execs st X.env) (SP X pins D) X.xe s
theorem thn {α : Type} {t : Sem α} {Q Q' : α -> Shared -> Prop} {M : Model} {A : Around} {E : Value -> Shared -> Prop} {s : Shared} (h : wpAny M A t Q E s) (hQ : ∀ a s, Q a s -> Q' a s) : wpAny M A t Q' E s := wpAny_mono h hQ λ _ _ x => x
section
variable {X : Cx}
def tVar (i : Nat) : TE := λ σ H Q => ∃ v, σ[i]? = some (some v) /\ Q v H
def tC (v : V) : TE := λ _ H Q => Q v H
theorem pe_var {i : Nat} {x : Str} {pos : Pos} (hN : X.N[i]? = some x) (hv : Vis X.env.scope x) (hd : (x == ("__debug__" : Str)) = false := by decide) (hcd : (x == ("__classdict__" : Str)) = false := by decide) : PE X (.Name x pos) (tVar i) := by
 intro pins s σ H Q I h
 obtain ⟨v, e, h⟩ := h
 obtain ⟨m, hn, hl⟩ := I.loc
 obtain ⟨u, r, l⟩ := hl i x v hN e hv
 have fin : EP X pins σ Q u s := ⟨v, H, I, r, h⟩
 rcases l with ⟨hk, hm⟩ | ⟨hk, c, hc, hcell⟩
 · exact wpAny_Name (wpAny_loadName_local I.ok.kind hk hn hm fin) hd
 · rcases hk with hk | hk
   · exact wpAny_Name (wpAny_loadName_cell I.ok.kind hk hc hcell fin) hd
   · exact wpAny_Name (wpAny_loadName_free I.ok.kind hk hc hcell fin hcd) hd
theorem pe_int {i j pos} : PE X (.Constant (.int i) j pos) (tC (.int i)) := λ _ _ _ H _ I h => wpAny_Constant_int ⟨.int i, H, I.tok _, ⟨_, rfl⟩, h⟩
theorem pe_bl {b j pos} : PE X (.Constant (.bool b) j pos) (tC (.bl b)) := λ _ _ _ H _ I h => Constant_bool ⟨.bl b, H, I, rfl, h⟩
theorem pe_non {j pos} : PE X (.Constant .none j pos) (tC .non) := λ _ _ _ H _ I h => Constant_none ⟨.non, H, I, rfl, h⟩
theorem pe_str {x j pos} : PE X (.Constant (.str x) j pos) (tC (.str x)) := λ _ _ _ H _ I h => Calls.Constant_str ⟨.str x, H, I.tok _, ⟨_, rfl⟩, h⟩
def Gl (X : Cx) (x : Str) : Prop := X.env.kindOf x = some .globalImplicit
theorem ld_glob {E : Value -> Shared -> Prop} {pins : List (Addr × Obj)} {s : Shared} {σ : St} {H : Hp} {x : Str} {u : Value} {pos : Pos} {Q : Value -> Shared -> Prop} (I : Inv X pins σ H s) (hg : Gl X x) (hm : X.mg x = some u) (h : Q u s)
 (hd : (x == ("__debug__" : Str)) = false := by decide) : wpAny (model X.prog X.w) X.A (eval (.Name x pos) X.env) Q E s :=
 Calls.Name_function_global I.ok.kind hg (Calls.loadGlobal_global (by rw [I.ok.glob]; exact I.mod.glob.keeps I.bk) hm h) hd
theorem ld_blt {E : Value -> Shared -> Prop} {pins : List (Addr × Obj)} {s : Shared} {σ : St} {H : Hp} {x : Str} {u : Value} {pos : Pos} {Q : Value -> Shared -> Prop} (I : Inv X pins σ H s) (hg : Gl X x) (hm : X.mg x = none) (hv : bootBuiltins x = some u) (h : Q u s)
 (hn : x ≠ "__name__" := by decide) (hd : (x == ("__debug__" : Str)) = false := by decide) : wpAny (model X.prog X.w) X.A (eval (.Name x pos) X.env) Q E s := by
 obtain ⟨mb, h1, h2⟩ := I.mod.blt
 exact Calls.Name_function_global I.ok.kind hg (Calls.loadGlobal_builtin (by rw [I.ok.glob]; exact I.mod.glob.keeps I.bk) hm (by rw [I.ok.blt]; exact h1.keeps I.bk) ((h2 x hn).trans hv) h) hd
theorem pe_glob {x : Str} {v : V} {u : Value} {pos : Pos} (hg : Gl X x) (hm : X.mg x = some u) (r : RelV v u) (hd : (x == ("__debug__" : Str)) = false := by decide) : PE X (.Name x pos) (tC v) :=
 λ _ _ _ H _ I h => ld_glob I hg hm ⟨v, H, I, r, h⟩ hd
theorem pe_bltn {x : Str} {v : V} {u : Value} {pos : Pos} (hg : Gl X x) (hm : X.mg x = none) (hv : bootBuiltins x = some u) (r : RelV v u) (hn : x ≠ "__name__" := by decide) (hd : (x == ("__debug__" : Str)) = false := by decide) : PE X (.Name x pos) (tC v) :=
 λ _ _ _ H _ I h => ld_blt I hg hm hv ⟨v, H, I, r, h⟩ hn hd
variable {a b : Expr} {ta tb : TE} {pos : Pos}
variable {tA tB' : TT} {rest : List Expr}
def tOr (t u : TT) : TT := λ σ H Q => t σ H λ c H1 => if c = true then Q true H1 else u σ H1 Q
def tNot (t : TT) : TT := λ σ H Q => t σ H λ c H1 => Q (!c) H1
theorem pw_or1 (ha : PT X a tA) : PW X (.BoolOp .Or [a] pos) tA := by
 intro wh pins s σ H Q I h
 refine isTrue_or (thn (ha pins s σ H Q I h) λ c s1 e => ?_)
 cases c with
 | false => exact isTrue_or_nil e
 | true => exact e
theorem pw_or (ha : PT X a tA) (hb : PW X (.BoolOp .Or (b :: rest) pos) tB') : PW X (.BoolOp .Or (a :: b :: rest) pos) (tOr tA tB') := by
 intro wh pins s σ H Q I h
 refine isTrue_or (thn (ha pins s σ H _ I h) λ c s1 q_ => ?_)
 obtain ⟨H1, I1, q1⟩ := q_
 cases c with
 | true => exact ⟨H1, I1, q1⟩
 | false => exact hb wh pins s1 σ H1 Q I1 q1
theorem pt_not (ha : PT X a tA) : PT X (.UnaryOp .Not a pos) (tNot tA) := by
 intro pins s σ H Q I h
 exact isTrue_not (ha pins s σ H (λ c H1 => Q (!c) H1) I h)
def tAndV (ta tb : TE) : TE := λ σ H Q => ta σ H λ x H1 => ∃ c, x = .bl c /\ if c = true then tb σ H1 Q else Q (.bl false) H1
def tNotV (ta : TE) : TE := λ σ H Q => ta σ H λ x H1 => ∃ c, x = .bl c /\ Q (.bl (!c)) H1
theorem pe_one {op} {t : TE} (h : PE X a t) : PE X (.BoolOp op [a] pos) t := λ pins s σ H Q I hw => BoolOp_one (h pins s σ H Q I hw)
theorem pe_and (ha : PE X a ta) (hb : PE X (.BoolOp .And (b :: rest) pos) tb) : PE X (.BoolOp .And (a :: b :: rest) pos) (tAndV ta tb) := by
 intro pins s σ H Q I h
 refine BoolOp_and (thn (ha pins s σ H _ I h) λ v s1 q_ => ?_)
 obtain ⟨x, H1, I1, r1, q1⟩ := q_
 obtain ⟨c, rfl, q1⟩ := q1
 cases r1
 refine wpAny_truthy_bool ?_
 cases c with
 | true => exact hb pins s1 σ H1 Q I1 q1
 | false => exact ⟨.bl false, H1, I1, rfl, q1⟩
theorem pe_not (ha : PE X a ta) : PE X (.UnaryOp .Not a pos) (tNotV ta) := by
 intro pins s σ H Q I h
 refine UnaryOp_ (thn (ha pins s σ H _ I h) λ v s1 q_ => ?_)
 obtain ⟨x, H1, I1, r1, q1⟩ := q_
 obtain ⟨c, rfl, q1⟩ := q1
 cases r1
 exact not_of (wpAny_truthy_bool ⟨.bl (!c), H1, I1, rfl, q1⟩)
end
def SqL (K : Fg) (H : Hp) (a : Addr) (xs : List V) : Prop :=
 Rd H a (.lst xs) \/
  ∃ (o : Obj) (its : Array Value) (n : Nat), K.lookup a = some o /\ o.cls = .type "list" /\ o.dict = none /\ o.data = .seq its n /\ its.size <= sizeLine /\ Vals xs its.toList
def SqT (K : Fg) (H : Hp) (a : Addr) (xs : List V) : Prop :=
 Rd H a (.tup xs) \/
  ∃ (o : Obj) (its : Array Value) (n : Nat), K.lookup a = some o /\ o.cls = .type "tuple" /\ o.data = .seq its n /\ its.size <= sizeLine /\ Vals xs its.toList
noncomputable def absV : Value -> Option V
 | .none => some .non
 | .bool b => some (.bl b)
 | .int i _ => some (.int i)
 | .str x _ => some (.str x)
 | .bytes b _ => some (.byt b)
 | .float b _ => some (.flt b)
 | .ref a => some (.ref a)
 | .type n => some (.ty n)
 | _ => none
theorem RelV.abs {x : V} {u : Value} (r : RelV x u) : absV u = some x := by
 cases x with
 | non => cases r; rfl
 | bl _ => cases r; rfl
 | int _ => obtain ⟨t, rfl⟩ := r; rfl
 | str _ => obtain ⟨t, rfl⟩ := r; rfl
 | byt _ => obtain ⟨t, rfl⟩ := r; rfl
 | flt _ => obtain ⟨t, rfl⟩ := r; rfl
 | ref _ => cases r; rfl
 | ty _ => cases r; rfl
theorem RelV.inj {x y : V} {u : Value} (r : RelV x u) (q : RelV y u) : x = y := zV (r.abs.symm.trans q.abs)
theorem Vals.inj {xs ys : List V} {us : List Value} (h : Vals xs us) (k : Vals ys us) : xs = ys := by
 induction h generalizing ys with
 | nil => cases k; rfl
 | cons r t ih => cases k with
  | cons r' t' => rw [r.inj r', ih t']
section
variable {X : Cx} {pins : List (Addr × Obj)} {σ : St} {H : Hp} {s : Shared} {a : Addr} {xs ys : List V}
theorem SqL.of {K : Fg} (h : H a = some (.lst xs)) : SqL K H a xs := .inl (.inl h)
theorem SqT.of {K : Fg} (h : H a = some (.tup xs)) : SqT K H a xs := .inl (.inl h)
theorem Inv.list (I : Inv X pins σ H s) (h : SqL X.K H a xs) : ∃ its : List Value, Vals xs its /\ PlainL s.heap a its.toArray /\ xs.length <= sizeLine := by
 rcases h with h | ⟨o, its, n, hk, hc, hd, hs, hz, r⟩
 · obtain ⟨z, its, n, r, e⟩ := h.ok I.hok
   exact ⟨its, r, ⟨_, n, e, rfl, rfl, rfl⟩, z⟩
 · refine ⟨its.toList, r, ⟨o, n, I.kIn a o hk, hc, hd, by simpa using hs⟩, ?_⟩
   have e := r.length
   simp only [Array.length_toList] at e
   omega
theorem Inv.tuple (I : Inv X pins σ H s) (h : SqT X.K H a xs) : ∃ its : List Value, Vals xs its /\ IsTup s.heap a its.toArray /\ xs.length <= sizeLine := by
 rcases h with h | ⟨o, its, n, hk, hc, hs, hz, r⟩
 · obtain ⟨z, its, r, p, _⟩ := h.ok I.hok
   exact ⟨its, r, p, z⟩
 · refine ⟨its.toList, r, ⟨o, I.kIn a o hk, hc, n, by simpa using hs⟩, ?_⟩
   have e := r.length
   simp only [Array.length_toList] at e
   omega
theorem Inv.list_inj (I : Inv X pins σ H s) (h : SqL X.K H a xs) (h' : SqL X.K H a ys) : xs = ys := by
 obtain ⟨its, r, ⟨o, n, e, _, _, d⟩, _⟩ := I.list h
 obtain ⟨its', r', ⟨o', n', e', _, _, d'⟩, _⟩ := I.list h'
 rw [e] at e'; cases e'
 rw [d] at d'
 injection d' with d1 _
 have : its = its' := by simpa using congrArg Array.toList d1
 subst this
 exact r.inj r'
theorem Inv.tuple_inj (I : Inv X pins σ H s) (h : SqT X.K H a xs) (h' : SqT X.K H a ys) : xs = ys := by
 obtain ⟨its, r, ⟨o, e, _, n, d⟩, _⟩ := I.tuple h
 obtain ⟨its', r', ⟨o', e', _, n', d'⟩, _⟩ := I.tuple h'
 rw [e] at e'; cases e'
 rw [d] at d'
 injection d' with d1 _
 have : its = its' := by simpa using congrArg Array.toList d1
 subst this
 exact r.inj r'
end
abbrev Cx.wish (X : Cx) (E : Value -> Shared -> Prop) : Cx := { X with xe := E }
abbrev Cx.nox (X : Cx) : Cx := X.wish λ _ _ => False
theorem Cx.Ok.wish {X : Cx} (ok : X.Ok) (E : Value -> Shared -> Prop) : (X.wish E).Ok :=
 ⟨ok.mod, ok.kind, ok.glob, ok.blt, ok.above, ok.inj, ok.has, ok.cab, ok.hd, ok.frames, ok.stk, ok.exf, ok.bs, ok.bsz, ok.noex, ok.exfs, ok.funs, ok.frf⟩
theorem Cx.Ok.unwish {X : Cx} {E : Value -> Shared -> Prop} (ok : (X.wish E).Ok) : X.Ok :=
 ⟨ok.mod, ok.kind, ok.glob, ok.blt, ok.above, ok.inj, ok.has, ok.cab, ok.hd, ok.frames, ok.stk, ok.exf, ok.bs, ok.bsz, ok.noex, ok.exfs, ok.funs, ok.frf⟩
section
variable {X : Cx} {pins : List (Addr × Obj)} {σ : St} {H : Hp} {s : Shared} {E : Value -> Shared -> Prop}
theorem Inv.wish (I : Inv X pins σ H s) (E : Value -> Shared -> Prop) : Inv (X.wish E) pins σ H s := ⟨I.ok.wish E, I.os, I.bare, I.base, I.loc, I.cell, I.free, I.freeC, I.pin, I.hok, I.len⟩
theorem Inv.unwish (I : Inv (X.wish E) pins σ H s) : Inv X pins σ H s := ⟨I.ok.unwish, I.os, I.bare, I.base, I.loc, I.cell, I.free, I.freeC, I.pin, I.hok, I.len⟩
theorem SP.unwish {D : Ends} {f : Flow} {s' : Shared} (h : SP (X.wish E) pins D f s') : SP X pins D f s' := by
 cases f with
 | next => obtain ⟨σ', H', I, q⟩ := h; exact ⟨σ', H', I.unwish, q⟩
 | brk => obtain ⟨σ', H', I, q⟩ := h; exact ⟨σ', H', I.unwish, q⟩
 | cont => obtain ⟨σ', H', I, q⟩ := h; exact ⟨σ', H', I.unwish, q⟩
 | ret u => obtain ⟨v, σ', H', I, r, q⟩ := h; exact ⟨v, σ', H', I.unwish, r, q⟩
theorem PSs.nox {st : List Stmt} {t : TS} (h : PSs X.nox st t) : PSs X st t := λ pins s σ H D I hw =>
 wpAny_mono (h pins s σ H D (I.wish _) hw) (λ _ _ q => q.unwish) λ _ _ z => False.elim z
end
section
variable {X : Cx} {st : Stmt} {rest : List Stmt} {t u : TS} {e : Expr} {te : TE} {pos : Pos}
def tNext : TS := λ D σ H => D.nx σ H
def tSeq (t u : TS) : TS := λ D σ H => t { D with nx := u D } σ H
theorem pss_nil : PSs X [] tNext := λ _ _ σ H _ I h => wpAny_execs_nil ⟨σ, H, I, h⟩
theorem pss_cons (h1 : PS X st t) (h2 : PSs X rest u) : PSs X (st :: rest) (tSeq t u) := by
 intro pins s σ H D I h
 refine wpAny_execs_cons (thn (h1 pins s σ H { D with nx := u D } I h) λ f s1 q => ?_)
 cases f with
 | next =>
  obtain ⟨σ', H', I', q⟩ := q
  exact h2 pins s1 σ' H' D I' q
 | ret v => exact q
 | brk => exact q
 | cont => exact q
theorem pss_one (h1 : PS X st t) : PSs X [st] t := by
 intro pins s σ H D I h
 refine wpAny_execs_cons (thn (h1 pins s σ H D I h) λ f s1 q => ?_)
 cases f with
 | next => exact wpAny_execs_nil q
 | ret v => exact q
 | brk => exact q
 | cont => exact q
theorem Inv.quiet {pins : List (Addr × Obj)} {σ : St} {H : Hp} {s : Shared} (I : Inv X pins σ H s) : interactive X.env = false := by simp [interactive, I.ok.kind]
def tDrop (te : TE) : TS := λ D σ H => te σ H λ _ H1 => D.nx σ H1
theorem ps_expr (he : PE X e te) (hs : swapsWith e none pos.line X.env = pure false := by rfl) : PS X (.Expr e pos) (tDrop te) := by
 intro pins s σ H D I h
 exact wpAny_Expr_any (thn (he pins s σ H _ I h) λ v s1 q_ => by obtain ⟨x, H1, I1, r1, q1⟩ := q_; exact ⟨σ, H1, I1, q1⟩) I.quiet hs
def tRet (te : TE) : TS := λ D σ H => te σ H D.rt
theorem ps_ret (he : PE X e te) : PS X (.Return (some e) pos) (tRet te) := by
 intro pins s σ H D I h
 exact wpAny_Return_some (thn (he pins s σ H _ I h) λ v s1 q_ => by obtain ⟨x, H1, I1, r1, q1⟩ := q_; exact ⟨x, σ, H1, I1, r1, q1⟩)
def tIfS (c : TT) (t u : TS) : TS := λ D σ H => c σ H λ b H1 => if b = true then t D σ H1 else u D σ H1
theorem ps_if {c : Expr} {a b : List Stmt} {tc : TT} (hc : PT X c tc) (ha : PSs X a t) (hb : PSs X b u) : PS X (.If c a b pos) (tIfS tc t u) := by
 intro pins s σ H D I h
 refine wpAny_If (thn (hc pins s σ H _ I h) λ d s1 q_ => ?_)
 obtain ⟨H1, I1, q1⟩ := q_
 cases d with
 | true => exact ha pins s1 σ H1 D I1 q1
 | false => exact hb pins s1 σ H1 D I1 q1
def tNever : TS := λ _ _ _ => False
theorem ps_never : PS X st tNever := λ _ _ _ _ _ _ h => h.elim
end
noncomputable abbrev TG := V -> St -> Hp -> (St -> Hp -> Prop) -> Prop
noncomputable abbrev TGs := List V -> St -> Hp -> (St -> Hp -> Prop) -> Prop
def PG (X : Cx) (target : Expr) (t : TG) : Prop :=
 ∀ (pins : List (Addr × Obj)) (s : Shared) (σ : St) (H : Hp) (v : V) (u : Value) (Q : St -> Hp -> Prop), Inv X pins σ H s -> RelV v u -> t v σ H Q ->
  wpAny (model X.prog X.w) X.A (assign target X.env u) (λ _ s' => ∃ σ' H', Inv X pins σ' H' s' /\ Q σ' H') X.xe s
def PGs (X : Cx) (ts : List Expr) (t : TGs) : Prop :=
 ∀ (pins : List (Addr × Obj)) (s : Shared) (σ : St) (H : Hp) (vs : List V) (us : List Value) (Q : St -> Hp -> Prop), Inv X pins σ H s -> Vals vs us -> t vs σ H Q ->
  wpAny (model X.prog X.w) X.A (assignInOrder ((assignEach ts X.env).map (·.2)) us) (λ _ s' => ∃ σ' H', Inv X pins σ' H' s' /\ Q σ' H') X.xe s
noncomputable abbrev TIp := V -> V -> Hp -> VK -> Prop
def PIp (X : Cx) (op : Operator) (t : TIp) : Prop :=
 ∀ (pins : List (Addr × Obj)) (s : Shared) (σ : St) (H : Hp) (x y : V) (v u : Value) (Q : VK), Inv X pins σ H s -> RelV x v -> RelV y u -> t x y H Q ->
  wpAny (model X.prog X.w) X.A (inplaceOp op v u) (EP X pins σ Q) X.xe s
section
variable {X : Cx} {pos : Pos}
def gName (i : Nat) : TG := λ v σ H Q => Q (σ.set i (some v)) H
theorem pg_name {i : Nat} {x : Str} (hN : X.N.Nodup) (hi : X.N[i]? = some x) (hx : Loc X.env.scope x) (hf : X.fn x = true \/ X.env.scope.names.lookup x = some .local := by first | exact .inl rfl | exact .inr rfl | assumption) : PG X (.Name x pos) (gName i) := by
 intro pins s σ H v u Q I r h
 exact wpAny_assign_Name (store_ok I hN hi hx r (λ s' I' => ⟨_, H, I', h⟩) hf)
def gNil : TGs := λ vs σ H Q => vs = [] /\ Q σ H
def gCons (t : TG) (u : TGs) : TGs := λ vs σ H Q => ∃ v r, vs = v :: r /\ t v σ H λ σ' H' => u r σ' H' Q
theorem pgs_nil : PGs X [] gNil := by
 intro pins s σ H vs us Q I r h
 obtain ⟨e, h⟩ := h
 subst e
 cases r
 exact assignInOrder_nil ⟨σ, H, I, h⟩
theorem pgs_cons {e : Expr} {es : List Expr} {t : TG} {u : TGs} (h1 : PG X e t) (h2 : PGs X es u)
 (hs : (assignEach (e :: es) X.env).map (·.2) = assign e X.env :: (assignEach es X.env).map (·.2) := by rfl) : PGs X (e :: es) (gCons t u) := by
 intro pins s σ H vs us Q I r h
 obtain ⟨v, vr, e1, h⟩ := h
 subst e1
 cases r with
 | cons r rr =>
  rw [hs]
  refine assignInOrder_cons (thn (h1 pins s σ H _ _ _ I r h) λ _ s1 q_ => ?_)
  obtain ⟨σ1, H1, I1, q1⟩ := q_
  exact h2 pins s1 σ1 H1 _ _ Q I1 rr q1
def gTup (K : Fg) (n : Nat) (t : TGs) : TG := λ v σ H Q => ∃ a xs, v = .ref a /\ SqT K H a xs /\ xs.length = n /\ t xs σ H Q
theorem pg_tup {es : List Expr} {k : Nat} {t : TGs} {n : Nat} (hc : X.calm = true) (h : PGs X es t)
 (hn : (assignEach es X.env).length = n := by rfl) (hst : (assignEach es X.env).findIdx? (·.1) = none := by rfl) : PG X (.Tuple es k pos) (gTup X.K n t) := by
 intro pins s σ H v u Q I r hw
 obtain ⟨a, xs, e1, hq, hl, hw⟩ := hw
 subst e1
 cases r
 obtain ⟨its, rv, ht, hz⟩ := I.tuple hq
 refine assign_Tuple_tuple (I.ok.hd hc) ht (by simp [hn, <- hl, rv.length]) hst λ h' hx => ?_
 have I1 : Inv X pins σ H { s with heap := h' } := I.kept (t' := s.toks) λ b o e => hx b o (nNl (hLs e)) e
 exact h pins _ σ H xs _ Q I1 (by simpa using rv) hw
def tAsg (te : TE) (g : TG) : TS := λ D σ H => te σ H λ x H1 => g x σ H1 D.nx
theorem ps_set {i : Nat} {x : Str} {e : Expr} {te : TE} {pos' : Pos} (hN : X.N.Nodup) (hi : X.N[i]? = some x) (hx : Loc X.env.scope x) (he : PE X e te) (hs : swapsWith e (some (.Name x pos')) pos.line X.env = pure false := by rfl) (hf : X.fn x = true \/ X.env.scope.names.lookup x = some .local := by first | exact .inl rfl | exact .inr rfl | assumption) :
 PS X (.Assign [.Name x pos'] e pos) (tAsg te (gName i)) := by
 intro pins s σ H D I h
 refine wpAny_Assign_Name (thn (he pins s σ H _ I h) λ v s1 q_ => ?_) hs
 obtain ⟨y, H1, I1, r1, q1⟩ := q_
 exact store_ok I1 hN hi hx r1 (λ s2 I2 => ⟨_, H1, I2, q1⟩) hf
def tAug (i : Nat) (te : TE) (ti : TIp) : TS := λ D σ H => ∃ x, σ[i]? = some (some x) /\ te σ H λ y H1 => ti x y H1 λ z H2 => D.nx (σ.set i (some z)) H2
theorem ps_aug {i : Nat} {x : Str} {e : Expr} {te : TE} {op : Operator} {ti : TIp} {pos' : Pos} (hN : X.N.Nodup) (hi : X.N[i]? = some x) (hx : Loc X.env.scope x) (he : PE X e te) (ho : PIp X op ti) (hf : X.fn x = true \/ X.env.scope.names.lookup x = some .local := by first | exact .inl rfl | exact .inr rfl | assumption) :
 PS X (.AugAssign (.Name x pos') op e pos) (tAug i te ti) := by
 intro pins s σ H D I h
 obtain ⟨v, e1, h⟩ := h
 obtain ⟨m, hn, hl⟩ := I.loc
 have vis : Vis X.env.scope x := by rcases hx with k | k; exact .inl k; exact .inr (.inl k)
 obtain ⟨u, r, l⟩ := hl i x v hi e1 vis
 refine wpAny_AugAssign_Name ?_
 have go : wpAny (model X.prog X.w) X.A (eval e X.env) (λ w s₂ => wpAny (model X.prog X.w) X.A (inplaceOp op u w) (λ r s₃ => wpAny (model X.prog X.w) X.A (storeName X.env x r) (λ _ => SP X pins D .next) X.xe s₃) X.xe s₂) X.xe s := by
  refine thn (he pins s σ H _ I h) λ w s1 q_ => ?_
  obtain ⟨y, H1, I1, r1, q1⟩ := q_
  refine thn (ho pins s1 σ H1 v y u w _ I1 r r1 q1) λ z s2 q_ => ?_
  obtain ⟨zv, H2, I2, r2, q2⟩ := q_
  exact store_ok I2 hN hi hx r2 (λ s3 I3 => ⟨_, H2, I3, q2⟩) hf
 rcases l with ⟨hk, hm⟩ | ⟨hk, c, hc, hcell⟩
 · exact wpAny_loadName_local I.ok.kind hk hn hm go
 · rcases hk with hk | hk
   · exact wpAny_loadName_cell I.ok.kind hk hc hcell go
   · rcases hx with k | k
     · have : X.env.scope.names.lookup x = some .free := hk
       rw [k] at this; cases this
     · have : X.env.scope.names.lookup x = some .free := hk
       rw [k] at this; cases this
end
section
variable {X : Cx} {pos : Pos}
end
structure It where
 go : Nat -> Hp -> Prop
 yld : Nat -> Hp -> V -> Hp -> Prop
 stop : Nat -> Hp -> Prop
def FpOk (X : Cx) (pins : List (Addr × Obj)) (H : Hp) (b : Addr) : Prop :=
 H b = none /\ b ≠ X.env.locals /\ b ∉ X.fs /\ (b ∈ X.ex \/ X.s₀.heap.objs.size <= b) /\ (∀ x c, X.env.cells.lookup x = some c -> c ≠ b) /\ ∀ p ∈ X.pn ++ pins, p.1 ≠ b
theorem Inv.fpOk {X : Cx} {pins : List (Addr × Obj)} {σ : St} {H H' : Hp} {s : Shared} {b : Addr} (I : Inv X pins σ H s) (hb : s.heap.objs.size <= b) (hn : H' b = none) : FpOk X pins H' b := by
 refine ⟨hn, nNg (nLl I.lt hb), I.nofs hb, .inr (Q7 I.sz hb), λ x c e z => ?_, λ p hp z => ?_⟩
 · obtain ⟨v, q⟩ := I.cell x c e
   exact absurd (nLl q.lt (by rw [z]; exact hb)) (zT _)
 · exact absurd (nLl (hLs (I.pin p hp).1) (by rw [z]; exact hb)) (zT _)
structure Turn (P : Program) (w : World) (K : Fg) (tg : Expr) (J : It) (fp : List Addr) (it : Addr) (tn : Nat -> Heap -> Prop) : Prop where
 mem : it ∈ fp
 obj : ∀ i h, tn i h -> ∀ b ∈ fp, ∃ o, h.get? b = some o /\ ∀ v, o.data ≠ .cell v
 keep : ∀ i h h', tn i h -> (∀ b ∈ fp, ∀ o, h.get? b = some o -> h'.get? b = some o) -> tn i h'
 item : ∀ (X : Cx), X.prog = P -> X.w = w -> X.K = K -> X.calm = true -> ∀ (i : Nat) (pins : List (Addr × Obj)) (s : Shared) (σ : St) (H : Hp) (E : Value -> Shared -> Prop), Inv X pins σ H s -> (∀ b ∈ fp, FpOk X pins H b) -> tn i s.heap -> J.go i H ->
  wpAny (model P w) X.A (pyNext (.ref it)) (λ r s1 => ∃ u, r = some u /\
   wpAny (model P w) X.A (letOwnedTupleGo tg (.ref it) u) (λ _ s2 => ∃ x H', Inv X pins σ H' s2 /\ RelV x u /\ J.yld i H x H' /\ tn (i + 1) s2.heap /\ ∀ b ∈ fp, H' b = none) E s1) E s
 done : ∀ (X : Cx), X.prog = P -> X.w = w -> X.K = K -> X.calm = true -> ∀ (i : Nat) (pins : List (Addr × Obj)) (s : Shared) (σ : St) (H : Hp) (E : Value -> Shared -> Prop), Inv X pins σ H s -> (∀ b ∈ fp, FpOk X pins H b) -> tn i s.heap -> J.stop i H ->
  wpAny (model P w) X.A (pyNext (.ref it)) (λ r s1 => r = none /\ Inv X pins σ H s1) E s
 self : ∀ (A : Around) (i : Nat) (s : Shared) (Q : Value -> Shared -> Prop) (E : Value -> Shared -> Prop), tn i s.heap -> Q (.ref it) s -> wpAny (model P w) A (pyIter (.ref it)) Q E s
noncomputable abbrev TI := St -> Hp -> (It -> Hp -> Prop) -> Prop
def PIE (X : Cx) (pins : List (Addr × Obj)) (σ : St) (tg : Expr) (R : It -> Hp -> Prop) (itv : Value) (s2 : Shared) : Prop :=
 ∃ (it : Addr) (fp : List Addr) (tn : Nat -> Heap -> Prop) (J : It) (H' : Hp), itv = .ref it /\ Inv X pins σ H' s2 /\ Turn X.prog X.w X.K tg J fp it tn /\ tn 0 s2.heap /\ (∀ b ∈ fp, FpOk X pins H' b) /\ R J H'
def PI (X : Cx) (tg iter : Expr) (wi : TI) : Prop :=
 ∀ (pins : List (Addr × Obj)) (s : Shared) (σ : St) (H : Hp) (R : It -> Hp -> Prop), Inv X pins σ H s -> wi σ H R ->
  wpAny (model X.prog X.w) X.A (eval iter X.env) (λ v s1 => wpAny (model X.prog X.w) X.A (pyIter v) (PIE X pins σ tg R) X.xe s1) X.xe s
theorem go_of {M : Model} {A : Around} {E : Value -> Shared -> Prop} {s : Shared} {tg : Expr} {it : Addr} {u : Value} {o : Obj} {n : String} {vs : Array Value} {Q : Unit -> Shared -> Prop} (ho : s.heap.get? it = some o) (hc : o.cls = .type n) (hd : o.data = .fields vs)
 (hn : ["enumerate", "zip", "dict_itemiterator", "dict_reverseitemiterator", "odict_iterator", "itertools.zip_longest", "itertools.pairwise"].contains n = false) (hQ : Q () s) : wpAny M A (letOwnedTupleGo tg (.ref it) u) Q E s := by
 unfold letOwnedTupleGo
 cases tg <;> first
  | exact wP hQ
  | (cases u <;> first
   | exact wP hQ
   | (refine wB (wpAny_load ho ?_)
      rw [hc, hd]
      show wpAny M A (if (["enumerate", "zip", "dict_itemiterator", "dict_reverseitemiterator", "odict_iterator", "itertools.zip_longest", "itertools.pairwise"].contains n && vs[0]? == some (rawInt _)) = true then _ else _) Q E s
      rw [if_neg (by intro h; rw [hn, Bool.false_and] at h; cases h)]
      exact wP hQ))
def Itl (K : Fg) (a : Addr) : It :=
 ⟨λ i H => ∃ xs x, SqL K H a xs /\ xs[i]? = some x, λ i H x H' => H' = H /\ ∀ xs, SqL K H a xs -> xs[i]? = some x, λ i H => ∃ xs, SqL K H a xs /\ xs.length <= i⟩
def Itt (K : Fg) (a : Addr) : It :=
 ⟨λ i H => ∃ xs x, SqT K H a xs /\ xs[i]? = some x, λ i H x H' => H' = H /\ ∀ xs, SqT K H a xs -> xs[i]? = some x, λ i H => ∃ xs, SqT K H a xs /\ xs.length <= i⟩
def Itr (lo : Int) (n : Nat) : It := ⟨λ i _ => i < n, λ i H x H' => H' = H /\ x = .int (lo + i), λ i _ => n <= i⟩
theorem turn_list {P : Program} {w : World} {K : Fg} {tg : Expr} (a it : Addr) : Turn P w K tg (Itl K a) [it] it (λ i h => h.IsListIter it a i) where
 mem := by simp
 obj := λ i h st b hb => by
  have e : b = it := by simpa using hb
  subst e
  obtain ⟨o, e, c, d⟩ := st
  exact ⟨o, e, λ v z => by rw [d] at z; cases z⟩
 keep := λ i h h' st k => st.at λ o e => k it (by simp) o e
 item := by
  intro X hP hw hK hc i pins s σ H E I hf st hg
  subst hP hw hK
  obtain ⟨xs, x, hq, hx⟩ := hg
  obtain ⟨its, rv, p, hz⟩ := I.list hq
  obtain ⟨u, hu, ru⟩ := rv.get hx
  obtain ⟨f0, f1, f2, f3, f4, f5⟩ := hf it (by simp)
  refine wpAny_pyNext_list_item st p.isList (x := u) (by simpa using hu) λ h' st' sb => ?_
  have I1 : Inv X pins σ H { s with heap := h' } := I.turned (t' := s.toks) (λ b o hb e => (sb.2 b hb).trans e) f0 f1 f3 f4 f5
  obtain ⟨o, e, c, d⟩ := id st'
  exact ⟨u, rfl, go_of (s := { s with heap := h' }) e c d (by decide) ⟨x, H, I1, ru, ⟨rfl, λ ys hy => by rw [I.list_inj hy hq]; exact hx⟩, st', λ b hb => (hf b hb).1⟩⟩
 done := by
  intro X hP hw hK hc i pins s σ H E I hf st hg
  subst hP hw hK
  obtain ⟨xs, hq, hx⟩ := hg
  obtain ⟨its, rv, p, hz⟩ := I.list hq
  obtain ⟨f0, f1, f2, f3, f4, f5⟩ := hf it (by simp)
  have hl := rv.length
  exact wpAny_pyNext_list_end (I.ok.hd hc) st p.isList (by simp; omega) λ h' eb => ⟨rfl, I.turned (t' := s.toks) (λ b o hb e => eb b o hb e) f0 f1 f3 f4 f5⟩
 self := λ _ _ _ _ _ st h => wpAny_pyIter_listiter st h
theorem turn_tuple {P : Program} {w : World} {K : Fg} {tg : Expr} (a it : Addr) : Turn P w K tg (Itt K a) [it] it (λ i h => h.IsTupleIter it a i) where
 mem := by simp
 obj := λ i h st b hb => by
  have e : b = it := by simpa using hb
  subst e
  obtain ⟨o, e, c, d⟩ := st
  exact ⟨o, e, λ v z => by rw [d] at z; cases z⟩
 keep := λ i h h' st k => st.at λ o e => k it (by simp) o e
 item := by
  intro X hP hw hK hc i pins s σ H E I hf st hg
  subst hP hw hK
  obtain ⟨xs, x, hq, hx⟩ := hg
  obtain ⟨its, rv, p, hz⟩ := I.tuple hq
  obtain ⟨u, hu, ru⟩ := rv.get hx
  obtain ⟨f0, f1, f2, f3, f4, f5⟩ := hf it (by simp)
  refine wpAny_pyNext_tuple_item st (show s.heap.IsTuple a its.toArray from p) (x := u) (by simpa using hu) λ h' st' sb => ?_
  have I1 : Inv X pins σ H { s with heap := h' } := I.turned (t' := s.toks) (λ b o hb e => (sb.2 b hb).trans e) f0 f1 f3 f4 f5
  obtain ⟨o, e, c, d⟩ := id st'
  exact ⟨u, rfl, go_of (s := { s with heap := h' }) e c d (by decide) ⟨x, H, I1, ru, ⟨rfl, λ ys hy => by rw [I.tuple_inj hy hq]; exact hx⟩, st', λ b hb => (hf b hb).1⟩⟩
 done := by
  intro X hP hw hK hc i pins s σ H E I hf st hg
  subst hP hw hK
  obtain ⟨xs, hq, hx⟩ := hg
  obtain ⟨its, rv, p, hz⟩ := I.tuple hq
  obtain ⟨f0, f1, f2, f3, f4, f5⟩ := hf it (by simp)
  have hl := rv.length
  exact wpAny_pyNext_tuple_end (I.ok.hd hc) st (show s.heap.IsTuple a its.toArray from p) (by simp; omega) λ h' eb => ⟨rfl, I.turned (t' := s.toks) (λ b o hb e => eb b o hb e) f0 f1 f3 f4 f5⟩
 self := λ _ _ _ _ _ st h => wpAny_pyIter_tupleiter st h
theorem turn_range {P : Program} {w : World} {K : Fg} {tg : Expr} (it : Addr) (lo : Int) (n : Nat) : Turn P w K tg (Itr lo n) [it] it (λ i h => IsRangeIter h it (lo + (i : Nat) * 1) ((n : Int) - (i : Nat)) 1) where
 mem := by simp
 obj := λ i h st b hb => by
  have e : b = it := by simpa using hb
  subst e
  exact ⟨_, st, λ v z => by
   have z' : Data.fields _ = Data.cell v := z
   cases z'⟩
 keep := λ i h h' st k => k it (by simp) _ st
 item := by
  intro X hP hw hK hc i pins s σ H E I hf st hg
  subst hP hw hK
  obtain ⟨f0, f1, f2, f3, f4, f5⟩ := hf it (by simp)
  have W := Walks.range (prog := X.prog) (w := X.w) (I.ok.hd hc) it lo 1 n
  refine W.item i s _ _ hg st λ v h' tk hv st' kk => ?_
  obtain ⟨t, rfl⟩ := hv
  have I1 : Inv X pins σ H { s with heap := h', toks := tk } := I.turned (λ b o hb e => kk b o (by simpa using hb) e) f0 f1 f3 f4 f5
  refine ⟨_, rfl, go_of (s := { s with heap := h', toks := tk }) (n := "range_iterator") st' rfl rfl (by decide) ⟨.int (lo + i), H, I1, ⟨t, ?_⟩, ⟨rfl, rfl⟩, st', λ b hb => (hf b hb).1⟩⟩
  rw [Int.mul_one]
 done := by
  intro X hP hw hK hc i pins s σ H E I hf st hg
  subst hP hw hK
  obtain ⟨f0, f1, f2, f3, f4, f5⟩ := hf it (by simp)
  exact wpAny_pyNext_range_end (I.ok.hd hc) st (by have : n <= i := hg; omega) λ h' eb => ⟨rfl, I.turned (t' := s.toks) (λ b o hb e => eb b o hb e) f0 f1 f3 f4 f5⟩
 self := λ _ _ _ _ _ st h => wpAny_pyIter_rangeiter st h
section
variable {X : Cx} {tg : Expr}
theorem range_it {pins : List (Addr × Obj)} {σ : St} {H : Hp} {s : Shared} {R : It -> Hp -> Prop} {E : Value -> Shared -> Prop} {lo hi : Int} {t u v : Tok} {tk : Nat} (I : Inv X pins σ H s) (h1 : -(2 ^ 62) <= lo) (h2 : lo < 2 ^ 62) (h3 : -(2 ^ 62) <= hi) (h4 : hi < 2 ^ 62)
 (q : R (Itr lo (hi - lo).toNat) H) : wpAny (model X.prog X.w) X.A (pyIter (.ref s.heap.objs.size)) (PIE X pins σ tg R) E { s with heap := s.heap.push { cls := .type "range", data := .fields #[.int lo t, .int hi u, .int 1 v] }, toks := tk } := by
 refine wpAny_pyIter_range (IsRange.new ..) (small_one h1 h2 h3 h4) ?_
 have I1 : Inv X pins σ H { s with heap := s.heap.push { cls := .type "range", data := .fields #[.int lo t, .int hi u, .int 1 v] }, toks := tk } := I.kept λ b o e => hPo _ e
 refine ⟨(s.heap.push { cls := .type "range", data := .fields #[.int lo t, .int hi u, .int 1 v] }).objs.size, [(s.heap.push { cls := .type "range", data := .fields #[.int lo t, .int hi u, .int 1 v] }).objs.size], _, _, H, rfl,
  I1.kept (t' := tk) λ b o e => hPo _ e, turn_range _ lo (hi - lo).toNat, ?_, λ b hb => ?_, q⟩
 · have e1 : lo + ((0 : Nat) : Int) * 1 = lo := by simp
   have e2 : (((hi - lo).toNat : Nat) : Int) - ((0 : Nat) : Int) = Builtin.Range.rangeSize lo hi 1 := by rw [rangeSize_one]; split <;> omega
   show IsRangeIter _ _ (lo + ((0 : Nat) : Int) * 1) ((((hi - lo).toNat : Nat) : Int) - ((0 : Nat) : Int)) 1
   rw [e1, e2]
   exact hPs _ rfl
 · have e : b = (s.heap.push { cls := .type "range", data := .fields #[.int lo t, .int hi u, .int 1 v] }).objs.size := by simpa using hb
   subst e
   exact I1.fpOk (Q4 _) (I1.hok.fresh (Q4 _))
def iRng1 (ta : TA) : TI := λ σ H R => ta σ H λ vs H1 => ∃ j : Int, vs = [.int j] /\ -(2 ^ 62) <= j /\ j < 2 ^ 62 /\ R (Itr 0 j.toNat) H1
theorem pi_range1 {a : Expr} {ta : TA} {p pos : Pos} (hg : Gl X "range") (hm : X.mg "range" = none) (ha : PA X [a] ta) (hs : starEach [a] X.env = [(false, eval a X.env)] := by rfl) : PI X tg (.Call (.Name "range" p) [a] [] pos) (iRng1 ta) := by
 intro pins s σ H R I h
 refine Call_ (ld_blt I hg hm boot_range (PyProof.Rows.callWith_type1 (thn (ha pos pins s σ H _ I h) λ us s1 q_ => ?_) hs rfl))
 obtain ⟨vs, H1, I1, r1, q1⟩ := q_
 obtain ⟨j, e, q1, q2, q⟩ := q1
 subst e
 cases r1 with
 | cons r rr =>
  cases rr
  obtain ⟨t, rfl⟩ := r
  exact call_range_1 (range_it I1 (by omega) (by omega) q1 q2 (by simpa using q))
def tFor (wi : TI) (g : TG) (tb : TS) : TS := λ D σ H => wi σ H λ J H1 => ∃ W : Nat -> Nat -> St -> Hp -> Prop, (∃ m, W 0 m σ H1) /\ ∀ i m σ H, W i m σ H ->
 (J.stop i H /\ D.nx σ H) \/ (J.go i H /\ ∃ N : St -> Hp -> Prop, (∀ σ' H', N σ' H' -> ∃ m', m' < m /\ W (i + 1) m' σ' H') /\ ∀ x H', J.yld i H x H' -> g x σ H' λ σ2 H2 => tb { D with nx := N, ct := N, bk := D.nx } σ2 H2)
noncomputable def pinsAt (fp : List Addr) (h : Heap) : List (Addr × Obj) := fp.filterMap λ b => (h.get? b).map λ o => (b, o)
theorem mem_pinsAt {fp : List Addr} {h : Heap} {b : Addr} {o : Obj} (hb : b ∈ fp) (e : h.get? b = some o) : (b, o) ∈ pinsAt fp h := List.mem_filterMap.mpr ⟨b, hb, by rw [e]; rfl⟩
theorem of_pinsAt {fp : List Addr} {h : Heap} {p : Addr × Obj} (hp : p ∈ pinsAt fp h) : p.1 ∈ fp /\ h.get? p.1 = some p.2 := by
 obtain ⟨b, hb, e⟩ := List.mem_filterMap.mp hp
 cases q : h.get? b with
 | none => rw [q] at e; cases e
 | some o =>
  rw [q] at e
  have e' : (b, o) = p := zV e
  subst e'
  exact ⟨hb, q⟩
theorem Inv.pinned {pins : List (Addr × Obj)} {σ : St} {H : Hp} {s : Shared} {fp : List Addr} (I : Inv X pins σ H s) (hf : ∀ b ∈ fp, FpOk X pins H b) (ho : ∀ b ∈ fp, ∃ o, s.heap.get? b = some o /\ ∀ v, o.data ≠ .cell v) : Inv X (pins ++ pinsAt fp s.heap) σ H s :=
 I.pins_of λ p hp => (List.mem_append.mp hp).elim (λ z => I.pin p (Q8 _ z)) λ z => by
  obtain ⟨hb, e⟩ := of_pinsAt z
  obtain ⟨f0, f1, f2, _⟩ := hf p.1 hb
  obtain ⟨o, e', d⟩ := ho p.1 hb
  rw [e] at e'; cases e'
  exact ⟨e, f0, f1, f2, d⟩
theorem Inv.unpinned {pins pl : List (Addr × Obj)} {σ : St} {H : Hp} {s : Shared} (I : Inv X (pins ++ pl) σ H s) : Inv X pins σ H s := I.pins_of λ p hp => I.pin p (Q8 _ (List.mem_append_left _ hp))
theorem ps_for {iter : Expr} {body : List Stmt} {wi : TI} {g : TG} {tb : TS} {pos : Pos} (hp : PassesOwn (model X.prog X.w) X.A X.env X.xe) (hc : X.calm = true) (hi : PI X tg iter wi) (hg : PG X tg g) (hb : PSs X body tb)
 (hs : ∀ x, foldedSetIterable iter X.env x = pure x := by intro _; rfl) : PS X (.For tg iter body [] pos) (tFor wi g tb) := by
 intro pins s σ H D I h
 refine wpAny_For (thn (hi pins s σ H _ I h) λ v s1 h1 => thn h1 λ itv s2 h2 => ?_) hs
 obtain ⟨it, fp, tn, J, H2, e, I2, T, st2, f2, W, ⟨m0, w0⟩, turn⟩ := h2
 subst e
 have stat : ∀ {H' : Hp}, (∀ b ∈ fp, H' b = none) -> ∀ b ∈ fp, FpOk X pins H' b := λ hn b hb => ⟨hn b hb, (f2 b hb).2⟩
 refine codeAny_forLoop_any (λ n s' => ∃ i σ' H', Inv X pins σ' H' s' /\ tn i s'.heap /\ (∀ b ∈ fp, H' b = none) /\ W i n σ' H') ?_ m0 ⟨0, σ, H2, I2, st2, λ b hb => (f2 b hb).1, w0⟩
 rintro n s3 ⟨i, σ3, H3, I3, st3, fr3, w3⟩
 rcases turn i n σ3 H3 w3 with ⟨stop, qn⟩ | ⟨go, N, hN, step⟩
 · refine wpAny_passesOwn hp (thn (T.done X rfl rfl rfl hc i pins s3 σ3 H3 X.xe I3 (stat fr3) st3 stop) λ r s4 q_ => ?_)
   obtain ⟨hr, I4⟩ := q_
   subst hr
   exact wpAny_execs_nil ⟨σ3, H3, I4, qn⟩
 · refine wpAny_passesOwn hp (thn (T.item X rfl rfl rfl hc i pins s3 σ3 H3 X.xe I3 (stat fr3) st3 go) λ r s4 q_ => ?_)
   obtain ⟨u, hr, h4⟩ := q_
   subst hr
   refine wpAny_passesOwn hp (thn h4 λ _ s5 q_ => ?_)
   obtain ⟨x, H5, I5, r5, y5, st5, fr5⟩ := q_
   have I5' := I5.pinned (stat fr5) (T.obj _ _ st5)
   refine wpAny_passesOwn hp (thn (hg _ s5 σ3 H5 x u _ I5' r5 (step x H5 y5)) λ _ s6 q_ => ?_)
   obtain ⟨σ6, H6, I6, q6⟩ := q_
   refine wpAny_passesOwn hp (thn (hb _ s6 σ6 H6 _ I6 q6) λ f s7 q7 => ?_)
   have again : ∀ {σ7 : St} {H7 : Hp}, Inv X (pins ++ pinsAt fp s5.heap) σ7 H7 s7 -> N σ7 H7 -> ∃ m, m < n /\ ∃ i σ' H', Inv X pins σ' H' s7 /\ tn i s7.heap /\ (∀ b ∈ fp, H' b = none) /\ W i m σ' H' := λ {σ7 H7} I7 n7 => by
    obtain ⟨m', hm, w7⟩ := hN σ7 H7 n7
    refine ⟨m', hm, i + 1, σ7, H7, I7.unpinned, T.keep _ _ _ st5 λ b hb o e => (I7.pin (b, o) (Q8 _ (Q8 _ (mem_pinsAt hb e)))).1, λ b hb => ?_, w7⟩
    obtain ⟨o, e, d⟩ := T.obj _ _ st5 b hb
    exact (I7.pin (b, o) (Q8 _ (Q8 _ (mem_pinsAt hb e)))).2.1
   cases f with
   | next => obtain ⟨σ7, H7, I7, n7⟩ := q7; exact again I7 n7
   | cont => obtain ⟨σ7, H7, I7, n7⟩ := q7; exact again I7 n7
   | brk => obtain ⟨σ7, H7, I7, q7⟩ := q7; exact ⟨σ7, H7, I7.unpinned, q7⟩
   | ret v => obtain ⟨x7, σ7, H7, I7, r7, q7⟩ := q7; exact ⟨x7, σ7, H7, I7.unpinned, r7, q7⟩
end
noncomputable abbrev R2 := V -> V -> Hp -> VK -> Prop
def OpR (X : Cx) (f : Value -> Value -> Sem Value) (r : R2) : Prop :=
 ∀ (pins : List (Addr × Obj)) (s : Shared) (σ : St) (H : Hp) (x y : V) (v u : Value) (Q : VK), Inv X pins σ H s -> RelV x v -> RelV y u -> r x y H Q ->
  wpAny (model X.prog X.w) X.A (f v u) (EP X pins σ Q) X.xe s
def CallR (X : Cx) (f : Value) (r : List V -> Hp -> VK -> Prop) : Prop :=
 ∀ (pins : List (Addr × Obj)) (s : Shared) (σ : St) (H : Hp) (xs : List V) (us : List Value) (Q : VK), Inv X pins σ H s -> Vals xs us -> r xs H Q ->
  wpAny (model X.prog X.w) X.A (call f us) (EP X pins σ Q) X.xe s
def TruR (X : Cx) (r : V -> Hp -> (Bool -> Hp -> Prop) -> Prop) : Prop :=
 ∀ (pins : List (Addr × Obj)) (s : Shared) (σ : St) (H : Hp) (x : V) (v : Value) (Q : Bool -> Hp -> Prop), Inv X pins σ H s -> RelV x v -> r x H Q ->
  wpAny (model X.prog X.w) X.A (truthy v) (TP X pins σ Q) X.xe s
def tOp (r : R2) (ta tb : TE) : TE := λ σ H Q => ta σ H λ x H1 => tb σ H1 λ y H2 => r x y H2 Q
def rI (C : Int -> Int -> Prop) (g : Int -> Int -> V) : R2 := λ x y H Q => ∃ i j, x = .int i /\ y = .int j /\ C i j /\ Q (g i j) H
def rI0 (g : Int -> Int -> V) : R2 := λ x y H Q => ∃ i j, x = .int i /\ y = .int j /\ Q (g i j) H
section
variable {X : Cx} {a b c : Expr} {ta tb tc : TE} {pos : Pos}
theorem binT (ha : PE X a ta) (hb : PE X b tb) {pins : List (Addr × Obj)} {s : Shared} {σ : St} {H : Hp} {R : V -> V -> Hp -> Prop} (I : Inv X pins σ H s)
 (h : ta σ H λ x H1 => tb σ H1 λ y H2 => R x y H2) {Q : Value -> Shared -> Prop} {f : Value -> Value -> Sem Value}
 (hf : ∀ v u s2 x y H2, Inv X pins σ H2 s2 -> RelV x v -> RelV y u -> R x y H2 -> wpAny (model X.prog X.w) X.A (f v u) Q X.xe s2) :
 wpAny (model X.prog X.w) X.A (eval a X.env) (λ v s₁ => wpAny (model X.prog X.w) X.A (eval b X.env) (λ u s₂ => wpAny (model X.prog X.w) X.A (f v u) Q X.xe s₂) X.xe s₁) X.xe s := by
 refine thn (ha pins s σ H _ I h) λ v s1 q_ => ?_
 obtain ⟨x, H1, I1, r1, q1⟩ := q_
 refine thn (hb pins s1 σ H1 _ I1 q1) λ u s2 q_ => ?_
 obtain ⟨y, H2, I2, r2, q2⟩ := q_
 exact hf v u s2 x y H2 I2 r1 r2 q2
theorem pe_op {op : Operator} {r : R2} (ho : OpR X (binaryOp op) r) (ha : PE X a ta) (hb : PE X b tb) : PE X (.BinOp a op b pos) (tOp r ta tb) := by
 intro pins s σ H Q I h
 exact wpAny_BinOp (binT ha hb I h λ v u s2 x y H2 I2 rx ry q => ho pins s2 σ H2 x y v u Q I2 rx ry q)
theorem opI {f : Value -> Value -> Sem Value} {C : Int -> Int -> Prop} {g : Int -> Int -> Int}
 (rule : ∀ (i j : Int) (t u : Tok) (s : Shared) (Q : Value -> Shared -> Prop) (E : Value -> Shared -> Prop), C i j -> Q (.int (g i j) s.toks) { s with toks := s.toks + 1 } -> wpAny (model X.prog X.w) X.A (f (.int i t) (.int j u)) Q E s) :
 OpR X f (rI C λ i j => .int (g i j)) := by
 intro pins s σ H x y v u Q I rx ry h
 obtain ⟨i, j, rfl, rfl, hc, q⟩ := h
 obtain ⟨t, rfl⟩ := rx
 obtain ⟨t', rfl⟩ := ry
 exact rule i j t t' s _ _ hc ⟨.int (g i j), H, I.tok _, ⟨_, rfl⟩, q⟩
theorem opI0 {f : Value -> Value -> Sem Value} {g : Int -> Int -> Int}
 (rule : ∀ (i j : Int) (t u : Tok) (s : Shared) (Q : Value -> Shared -> Prop) (E : Value -> Shared -> Prop), Q (.int (g i j) s.toks) { s with toks := s.toks + 1 } -> wpAny (model X.prog X.w) X.A (f (.int i t) (.int j u)) Q E s) :
 OpR X f (rI0 λ i j => .int (g i j)) := by
 intro pins s σ H x y v u Q I rx ry h
 obtain ⟨i, j, rfl, rfl, q⟩ := h
 obtain ⟨t, rfl⟩ := rx
 obtain ⟨t', rfl⟩ := ry
 exact rule i j t t' s _ _ ⟨.int (g i j), H, I.tok _, ⟨_, rfl⟩, q⟩
theorem opB0 {f : Value -> Value -> Sem Value} {g : Int -> Int -> Bool}
 (rule : ∀ (i j : Int) (t u : Tok) (s : Shared) (Q : Value -> Shared -> Prop) (E : Value -> Shared -> Prop), Q (.bool (g i j)) s -> wpAny (model X.prog X.w) X.A (f (.int i t) (.int j u)) Q E s) :
 OpR X f (rI0 λ i j => .bl (g i j)) := by
 intro pins s σ H x y v u Q I rx ry h
 obtain ⟨i, j, rfl, rfl, q⟩ := h
 obtain ⟨t, rfl⟩ := rx
 obtain ⟨t', rfl⟩ := ry
 exact rule i j t t' s _ _ ⟨.bl (g i j), H, I, rfl, q⟩
def CMul (i j : Int) : Prop := (-(2 ^ 64) < i /\ i < 2 ^ 64) \/ (-(2 ^ 64) < j /\ j < 2 ^ 64)
theorem CMul.ok {i j : Int} (h : CMul i j) : IntMulOk i j := by
 rcases h with ⟨h1, h2⟩ | ⟨h1, h2⟩
 · exact .of_left (intBits_le_64 h1 h2)
 · exact .of_right (intBits_le_64 h1 h2)
theorem op_add : OpR X (binaryOp .Add) (rI0 λ i j => .int (i + j)) := opI0 λ _ _ _ _ _ _ _ q => add_int q
theorem op_sub : OpR X (binaryOp .Sub) (rI0 λ i j => .int (i - j)) := opI0 λ _ _ _ _ _ _ _ q => sub_int q
theorem op_mod : OpR X (binaryOp .Mod) (rI (λ _ j => 0 < j) λ i j => .int (i % j)) := opI λ i j _ _ _ _ _ hc q => by
 have h1 : (0 : Int) < j := hc
 exact mod_int' (by omega) (by rw [Int.fmod_eq_emod_of_nonneg i (by omega)]; exact q)
theorem iop_add : OpR X (inplaceOp .Add) (rI0 λ i j => .int (i + j)) := opI0 λ _ _ _ _ _ _ _ q => iadd_int q
theorem iop_mul : OpR X (inplaceOp .Mult) (rI CMul λ i j => .int (i * j)) := opI λ _ _ _ _ _ _ _ hc q => imul_int q hc.ok
end
section
variable {X : Cx} {a b c : Expr} {ta tb tc : TE} {pos : Pos}
theorem op_lt : OpR X (compareOp .Lt) (rI0 λ i j => .bl (decide (i < j))) := opB0 λ _ _ _ _ _ _ _ q => lt_int q
theorem op_le : OpR X (compareOp .LtE) (rI0 λ i j => .bl (decide (i <= j))) := opB0 λ _ _ _ _ _ _ _ q => le_int q
theorem op_gt : OpR X (compareOp .Gt) (rI0 λ i j => .bl (decide (j < i))) := opB0 λ _ _ _ _ _ _ _ q => gt_int q
theorem OpR.or {f : Value -> Value -> Sem Value} {r r' : R2} (h : OpR X f r) (h' : OpR X f r') : OpR X f (λ x y H Q => r x y H Q \/ r' x y H Q) := by
 intro pins s σ H x y v u Q I rx ry q
 rcases q with q | q
 · exact h pins s σ H x y v u Q I rx ry q
 · exact h' pins s σ H x y v u Q I rx ry q
theorem nomark (b : Expr) {op : CmpOp} (h : op ≠ .In := by decide) (h2 : op ≠ .NotIn := by decide) : behindInMarks op b = false := by
 have e1 : (op == CmpOp.In) = false := by cases op <;> first | rfl | exact absurd rfl h
 have e2 : (op == CmpOp.NotIn) = false := by cases op <;> first | rfl | exact absurd rfl h2
 cases b <;> simp [behindInMarks, e1, e2]
theorem pe_cmpR {op : CmpOp} {r : R2} (ho : OpR X (compareOp op) r) (ha : PE X a ta) (hb : PE X b tb) (hm : behindInMarks op b = false) : PE X (.Compare a [op] [b] pos) (tOp r ta tb) := by
 intro pins s σ H Q I h
 exact wpAny_Compare1 (binT ha hb I h λ v u s2 x y H2 I2 rx ry q => ho pins s2 σ H2 x y v u Q I2 rx ry q) hm
def tTest (t : TE) : TT := λ σ H Q => t σ H λ x H' => ∃ k, x = .bl k /\ Q k H'
theorem pt_cmpR {op : CmpOp} {r : R2} (ho : OpR X (compareOp op) r) (ha : PE X a ta) (hb : PE X b tb) (hm : behindInMarks op b = false) : PT X (.Compare a [op] [b] pos) (tTest (tOp r ta tb)) := by
 intro pins s σ H Q I h
 refine wpAny_isTrue_Compare1 (thn (ha pins s σ H _ I h) λ v s1 ⟨x, H1, I1, r1, q1⟩ => thn (hb pins s1 σ H1 _ I1 q1) λ u s2 ⟨y, H2, I2, r2, q2⟩ =>
  thn (ho pins s2 σ H2 x y v u _ I2 r1 r2 q2) λ c s3 ⟨z, H3, I3, r3, k, e, q3⟩ => ?_) hm
 subst e
 cases r3
 exact wpAny_truthy_bool ⟨H3, I3, q3⟩
def tChain (r r' : R2) (ta tb tc : TE) : TE := λ σ H Q => ta σ H λ x H1 => tb σ H1 λ y H2 => r x y H2 λ z H3 => ∃ k, z = .bl k /\
 (if k = true then tc σ H3 λ w' H4 => r' y w' H4 Q else Q (.bl false) H3)
theorem pe_chain {op op' : CmpOp} {r r' : R2} (ho : OpR X (compareOp op) r) (ho' : OpR X (compareOp op') r') (ha : PE X a ta) (hb : PE X b tb) (hc : PE X c tc)
 (hm : lastMarks [op, op'] [b, c] = false := by with_unfolding_all rfl) : PE X (.Compare a [op, op'] [b, c] pos) (tChain r r' ta tb tc) := by
 intro pins s σ H Q I h
 refine Compare_chain (thn (ha pins s σ H _ I h) λ v s1 ⟨x, H1, I1, r1, q1⟩ => chain_link (thn (hb pins s1 σ H1 _ I1 q1) λ u s2 ⟨y, H2, I2, r2, q2⟩ =>
  thn (ho pins s2 σ H2 x y v u _ I2 r1 r2 q2) λ d s3 ⟨z, H3, I3, r3, k, e, q3⟩ => ?_)) hm
 subst e
 cases r3
 refine wpAny_truthy_bool ?_
 cases k with
 | false => exact ite_ff ⟨.bl false, H3, I3, rfl, q3⟩
 | true => exact ite_tt (chain_last (thn (hc pins s3 σ H3 _ I3 q3) λ w' s4 q_ => by obtain ⟨z', H4, I4, r4, q4⟩ := q_; exact ho' pins s4 σ H4 y z' u w' Q I4 r2 r4 q4))
def TruV (K : Fg) (x : V) (H : Hp) (k : Bool) : Prop :=
 match x with
 | .non => k = false
 | .bl b => k = b
 | .int i => k = (i != 0)
 | .str y => y.length <= sizeLine /\ k = ((y.length : Int) != 0)
 | .byt y => y.size <= sizeLine /\ k = ((y.size : Int) != 0)
 | .ref p => (∃ xs, SqL K H p xs /\ k = !xs.isEmpty) \/ (∃ xs, SqT K H p xs /\ k = !xs.isEmpty) \/ ∃ kvs, H p = some (.dK kvs) /\ k = !kvs.isEmpty
 | _ => False
theorem isEmpty_kv {κ : Type} {kvs : List (κ × V)} {vs : List (κ × Value)} (r : KV kvs vs) : (!vs.isEmpty) = !kvs.isEmpty := by
 cases r <;> rfl
theorem isEmpty_of {xs : List V} {its : List Value} (r : Vals xs its) : (!its.toArray.isEmpty) = !xs.isEmpty := by
 cases r <;> simp
theorem line63 : (sizeLine : Nat) < 2 ^ 63 := by rw [sizeLine_eq]; decide
theorem tru_ok : TruR X (λ x H Q => ∃ k, TruV X.K x H k /\ Q k H) := by
 intro pins s σ H x v Q I rx h
 obtain ⟨k, e, q⟩ := h
 have hl := line63
 have hs : sizeLine = 16777216 := sizeLine_eq
 cases x with
 | non =>
  cases rx
  have e' : k = false := e
  subst e'
  exact truthy_none ⟨H, I, q⟩
 | bl b =>
  cases rx
  have e' : k = b := e
  subst e'
  exact wpAny_truthy_bool ⟨H, I, q⟩
 | int i =>
  obtain ⟨t, rfl⟩ := rx
  have e' : k = (i != 0) := e
  subst e'
  exact PySem.P.truthy_int ⟨H, I, q⟩
 | str y =>
  obtain ⟨t, rfl⟩ := rx
  obtain ⟨hy, e'⟩ : y.length <= sizeLine /\ k = ((y.length : Int) != 0) := e
  subst e'
  exact PySem.P.truthy_str (by omega) ⟨H, I.tok _, q⟩
 | byt y =>
  obtain ⟨t, rfl⟩ := rx
  obtain ⟨hy, e'⟩ : y.size <= sizeLine /\ k = ((y.size : Int) != 0) := e
  subst e'
  exact PySem.W.truthy_bytes (by omega) ⟨H, I.tok _, q⟩
 | ref p =>
  cases rx
  have e' : (∃ xs, SqL X.K H p xs /\ k = !xs.isEmpty) \/ (∃ xs, SqT X.K H p xs /\ k = !xs.isEmpty) \/ ∃ kvs, H p = some (.dK kvs) /\ k = !kvs.isEmpty := e
  rcases e' with ⟨xs, hx, e'⟩ | ⟨xs, hx, e'⟩ | ⟨kvs, hx, e'⟩
  · subst e'
    obtain ⟨its, r, pl, hz⟩ := I.list hx
    have hlen := r.length
    exact wpAny_truthy_list pl.isList (by simp only [zM]; omega) ⟨H, I.tok _, by rw [isEmpty_of r]; exact q⟩
  · subst e'
    obtain ⟨its, r, pl, hz⟩ := I.tuple hx
    have hlen := r.length
    exact truthy_tuple pl (by simp only [zM]; omega) ⟨H, I.tok _, by rw [isEmpty_of r]; exact q⟩
  · subst e'
    obtain ⟨hz, hS, vs, r, m⟩ : kvs.length <= sizeLine /\ (p == sysModules) = false /\ ∃ vs, KV kvs vs /\ s.heap.DictOf (mixKind X.prog X.w) p vs := I.hok p _ hx
    have hlen : kvs.length = vs.length := Paired.length r
    exact wpAny_truthy_dict hS m (by omega) ⟨H, I.tok _, by rw [isEmpty_kv r]; exact q⟩
 | _ => exact (show False from e).elim
theorem pt_truth (ha : PE X a ta) (he : ∀ whole, isTrue a X.env whole = (do let v <- whole; standAt a.pos; holding [v] (truthy v))) :
 PT X a (λ σ H Q => ta σ H λ x H' => ∃ k, TruV X.K x H' k /\ Q k H') := by
 intro pins s σ H Q I h
 exact isTrue_plain (thn (ha pins s σ H _ I h) λ v s1 q_ => by obtain ⟨x, H1, I1, r1, q1⟩ := q_; exact tru_ok pins s1 σ H1 x v Q I1 r1 q1) (he _)
theorem op_add_str : OpR X (binaryOp .Add) (λ x y H Q => ∃ i j, x = .str i /\ y = .str j /\ i.length + j.length <= sizeLine /\ Q (.str (i ++ j)) H) := by
 intro pins s σ H x y v u Q I rx ry h
 obtain ⟨i, j, rfl, rfl, hz, q⟩ := h
 obtain ⟨t, rfl⟩ := rx
 obtain ⟨t', rfl⟩ := ry
 exact add_str (λ t' tk => ⟨.str (i ++ j), H, I.tok _, ⟨_, rfl⟩, q⟩) hz
theorem vals1 {x : V} {us : List Value} (r : Vals [x] us) : ∃ u, us = [u] /\ RelV x u := by
 cases r with
 | cons r1 r2 => cases r2; exact ⟨_, rfl, r1⟩
def LenV (K : Fg) (x : V) (H : Hp) (n : Nat) : Prop :=
 match x with
 | .str y => y.length <= sizeLine /\ n = y.length
 | .byt y => y.size <= sizeLine /\ n = y.size
 | .ref p => (∃ xs, SqL K H p xs /\ n = xs.length) \/ ∃ xs, SqT K H p xs /\ n = xs.length
 | _ => False
theorem call_len : CallR X (.builtin "len") (λ xs H Q => ∃ x n, xs = [x] /\ LenV X.K x H n /\ Q (.int n) H) := by
 intro pins s σ H xs us Q I r h
 obtain ⟨x, n, rfl, e, q⟩ := h
 obtain ⟨u, rfl, rx⟩ := vals1 r
 have hl := line63
 have hs : sizeLine = 16777216 := sizeLine_eq
 cases x with
 | str y =>
  obtain ⟨t, rfl⟩ := rx
  obtain ⟨hy, e'⟩ : y.length <= sizeLine /\ n = y.length := e
  subst e'
  exact len_str (by omega) ⟨.int _, H, I.tok _, ⟨_, rfl⟩, q⟩
 | byt y =>
  obtain ⟨t, rfl⟩ := rx
  obtain ⟨hy, e'⟩ : y.size <= sizeLine /\ n = y.size := e
  subst e'
  exact PySem.W.len_bytes (by omega) ⟨.int _, H, I.tok _, ⟨_, rfl⟩, q⟩
 | ref p =>
  cases rx
  have e' : (∃ xs, SqL X.K H p xs /\ n = xs.length) \/ ∃ xs, SqT X.K H p xs /\ n = xs.length := e
  rcases e' with ⟨xs, hx, e'⟩ | ⟨xs, hx, e'⟩
  · subst e'
    obtain ⟨its, r', pl, hz⟩ := I.list hx
    have hlen := r'.length
    exact Calls.call_len_list pl.isList (by simp only [zM]; omega) ⟨.int xs.length, H, I.tok _, ⟨_, by simp only [zM]; rw [hlen]⟩, q⟩
  · subst e'
    obtain ⟨its, r', pl, hz⟩ := I.tuple hx
    have hlen := r'.length
    exact len_tuple pl (by simp only [zM]; omega) ⟨.int xs.length, H, I.tok _, ⟨_, by simp only [zM]; rw [hlen]⟩, q⟩
 | _ => exact (show False from e).elim
end
structure ObjM (h : Heap) (x dx C : Addr) (mA : Str -> Option Value) : Prop where
 obj : h.get? x = some (PySem.W.instObj C dx)
 ns : h.Ns1 dx mA
 ne : dx ≠ x
theorem lookIn_ns {h : Heap} {dx : Addr} {mA : Str -> Option Value} (n : h.Ns1 dx mA) : ∃ od, h.get? dx = some od /\ ∀ name, PySem.W.lookIn name od = some (mA name) := by
 obtain ⟨o, es, ep, ho, hd, hk, _, hm⟩ := n
 refine ⟨o, ho, λ name => ?_⟩
 have e := hm name
 unfold nsFind findBy at e
 rw [<- Array.find?_toList] at e
 unfold PySem.W.lookIn
 rw [hd]
 dsimp only
 split
 · rename_i y q
   rw [q] at e
   exact congrArg some e
 · rename_i q
   rw [q] at e
   have a : es.toList.any (·.refKey) = false := by
    rw [List.any_eq_false]
    intro y hy
    obtain ⟨z, t, hkey⟩ := hk y (Array.mem_toList_iff.mp hy)
    simp [DictEntry.refKey, hkey]
   have a' : ¬ es.toList.any (·.refKey) = true := by rw [a]; exact Qa
   rw [if_neg a']
   exact congrArg some e
theorem ObjM.look {h : Heap} {x dx C : Addr} {mA : Str -> Option Value} (I : ObjM h x dx C mA) : ∃ od, PySem.W.InstAt h x (PySem.W.instObj C dx) C (some od) /\ ∀ name, PySem.W.lookIn name od = some (mA name) :=
 let ⟨od, ho, hl⟩ := lookIn_ns I.ns
 ⟨od, ⟨I.obj, rfl, rfl, ho⟩, hl⟩
section
variable {prog : Program} {w : World} {A : Around} {E : Value -> Shared -> Prop} {s : Shared} {K : Fg} {x dx C f : Addr} {mA : Str -> Option Value} {name : Str} {v : Value}
end
section
variable {P : Program} {w : World} {H H' : Hp} {h h' : Heap} {a C dx : Addr} {fs fs' : List (Str × V)}
theorem ins_get (hok : HOk P w H h) (e : H a = some (.ins C dx fs)) : ∃ mA, ObjM h a dx C mA /\ (∀ f, RelO (fs.lookup f) (mA f)) /\ PySem.Within mA (fs.map (·.1)) /\ fs.length <= 1000 /\ H dx = some (.own a) := by
 obtain ⟨d, z, ne, ob, mA, n, r, q⟩ := (show ObjOk P w H h a (.ins C dx fs) from hok a _ e)
 exact ⟨mA, ⟨ob, n, ne⟩, r, q, z, d⟩
end
structure Cls (K : Fg) (C : Addr) : Prop where
 pg : PySem.W.plainGet K C Str.empty = true
 hd : PySem.W.hasDictIn K C = true
 po : PySem.W.plainOver K C = true
 sa : PySem.W.findIn K (.ref C) "__setattr__" = some (some (.builtin "object.__setattr__"))
theorem Cls.get {K : Fg} {C : Addr} (c : Cls K C) (f : Str) : PySem.W.plainGet K C f = true := c.pg
section
variable {X : Cx} {pins : List (Addr × Obj)} {σ : St} {H : Hp} {s : Shared} {a C dx : Addr} {fs : List (Str × V)} {f : Str} {v : V} {A : Around} {E : Value -> Shared -> Prop}
end
section
variable {X : Cx} {o e value : Expr} {f : Str} {pos pos' tpos : Pos} {ta tv : TE}
end
section
variable {X : Cx} {pins : List (Addr × Obj)} {σ : St} {H : Hp} {s : Shared} {A : Around} {E : Value -> Shared -> Prop} {Q : Value -> Shared -> Prop} {c : Value} {b : Bool}
inductive TyOf (K : Fg) (H : Hp) : V -> Value -> Prop where
 | non : TyOf K H .non (.type "NoneType")
 | bl (x : Bool) : TyOf K H (.bl x) (.type "bool")
 | int (i : Int) : TyOf K H (.int i) (.type "int")
 | str (x : Str) : TyOf K H (.str x) (.type "str")
 | flt (x : UInt64) : TyOf K H (.flt x) (.type "float")
 | lst {a : Addr} {xs : List V} (e : H a = some (.lst xs)) : TyOf K H (.ref a) (.type "list")
 | frz {a : Addr} {o : Obj} {xs : List V} (e : H a = some (.frz o (.lst xs))) : TyOf K H (.ref a) (.type "list")
 | tup {a : Addr} {xs : List V} (e : H a = some (.tup xs)) : TyOf K H (.ref a) (.type "tuple")
 | dK {a : Addr} {kvs : List (Key × V)} (e : H a = some (.dK kvs)) : TyOf K H (.ref a) (.type "dict")
 | dT {a : Addr} {kvs : List (List Key × V)} (e : H a = some (.dT kvs)) : TyOf K H (.ref a) (.type "dict")
 | ins {a C dx : Addr} {fs : List (Str × V)} (e : H a = some (.ins C dx fs)) (cl : Cls K C) (ha : PySem.W.findIn K (.ref C) "__class__" = some (some (.builtin "object.__class__")))
  (hn : PySem.W.specialIn K (.builtin "object.__class__") "__get__" = some (some (.builtin "getset_descriptor.__get__"))) (htk : PySem.W.takesIn K (.builtin "object.__class__") = some true)
  (hm : PySem.W.mroIn K C (.type "object") = some true) : TyOf K H (.ref a) (.ref C)
theorem isinst_ok {x : V} {u t : Value} (I : Inv X pins σ H s) (rx : RelV x u) (ty : TyOf X.K H x t) (e : PySem.W.kitOne X.K t c = some b) (h : ∀ tk, Q (.bool b) { s with toks := tk }) :
 wpAny (model X.prog X.w) A (call (.builtin "isinstance") [u, c]) Q E s := by
 cases ty with
 | non => cases (show u = Value.none from rx); exact PySem.W.kia_one PySem.W.kitx_none I.kIn True.intro e (λ z => nomatch z) h
 | bl y => cases (show u = Value.bool y from rx); exact PySem.W.kia_one PySem.W.kitx_bool I.kIn True.intro e (λ z => nomatch z) h
 | int i => obtain ⟨t, q⟩ := (show ∃ t, u = Value.int i t from rx); cases q; exact PySem.W.kia_one PySem.W.kitx_int I.kIn True.intro e (λ z => nomatch z) h
 | str y => obtain ⟨t, q⟩ := (show ∃ t, u = Value.str y t from rx); cases q; exact PySem.W.kia_one PySem.W.kitx_str I.kIn True.intro e (λ z => nomatch z) h
 | flt y => obtain ⟨t, q⟩ := (show ∃ t, u = Value.float y t from rx); cases q; exact PySem.W.kia_one PySem.W.kitx_float I.kIn True.intro e (λ z => nomatch z) h
 | @lst a xs ea =>
  cases (show u = Value.ref a from rx)
  obtain ⟨_, _, n, _, h1⟩ := (show ObjOk X.prog X.w H s.heap a (.lst xs) from I.hok a _ ea)
  exact PySem.W.kia_one PySem.W.kitx_list I.kIn ⟨_, h1, rfl⟩ e (λ z => nomatch z) h
 | @frz a ob xs ea =>
  cases (show u = Value.ref a from rx)
  obtain ⟨_, _, _, n, _, h1⟩ := (show ObjOk X.prog X.w H s.heap a (.frz ob (.lst xs)) from I.hok a _ ea)
  exact PySem.W.kia_one PySem.W.kitx_list I.kIn ⟨_, h1, rfl⟩ e (λ z => nomatch z) h
 | @tup a xs ea =>
  cases (show u = Value.ref a from rx)
  obtain ⟨_, _, _, p, _⟩ := (show ObjOk X.prog X.w H s.heap a (.tup xs) from I.hok a _ ea)
  obtain ⟨o, h1, h2, _⟩ := p
  exact PySem.W.kia_one PySem.W.kitx_tuple I.kIn ⟨o, h1, h2⟩ e (λ z => nomatch z) h
 | @dK a kvs ea =>
  cases (show u = Value.ref a from rx)
  obtain ⟨_, _, vs, _, p⟩ := (show ObjOk X.prog X.w H s.heap a (.dK kvs) from I.hok a _ ea)
  obtain ⟨o, es, ep, h1, h2, _⟩ := p
  exact PySem.W.kia_one PySem.W.kitx_dict I.kIn ⟨o, h1, h2.1⟩ e (λ z => nomatch z) h
 | @dT a kvs ea =>
  cases (show u = Value.ref a from rx)
  obtain ⟨_, _, xs, _, o, es, ep, h1, h2, _⟩ := (show ObjOk X.prog X.w H s.heap a (.dT kvs) from I.hok a _ ea)
  exact PySem.W.kia_one PySem.W.kitx_dict I.kIn ⟨o, h1, h2.1⟩ e (λ z => nomatch z) h
 | @ins a C dx fs ea cl ha hn htk hm =>
  cases (show u = Value.ref a from rx)
  obtain ⟨mA, O, _⟩ := ins_get I.hok ea
  obtain ⟨od, J, _⟩ := O.look
  exact PySem.W.kia_one (PySem.W.kitx_own (cl.get _) cl.hd ha hn htk hm) I.kIn J e (λ z => nomatch z) h
end
structure Room (k : Nat) (A : Around) : Prop where
 hd : A.handled = none
 dp : A.depth + 3 * k + 5 < recursionLimit
 un : A.units + 16 * k + 200 < cLine
theorem Room.mono {j k : Nat} {A : Around} (r : Room k A) (h : j <= k) : Room j A := ⟨r.hd, by have := r.dp; omega, by have := r.un; omega⟩
theorem Room.deeper {k : Nat} {A : Around} (r : Room (k + 1) A) (env : Env) : Room k (A.deeper env) :=
 ⟨r.hd, by have := r.dp; show A.depth + 1 + 3 * k + 5 < _; omega, by have := r.un; show A.units + 3 + 16 * k + 200 < _; omega⟩
theorem Room.in1 {k : Nat} {A : Around} (r : Room (k + 1) A) : Room k A.in1 :=
 ⟨r.hd, by have := r.dp; show A.depth + 3 * k + 5 < _; omega, by have := r.un; show A.units + 1 + 16 * k + 200 < _; omega⟩
theorem make_depth {A : Around} {C : Addr} {us : List Value} {kw : List (Str × Value)} : (A.under (.builtin "type.__call__" ⟨.ref C :: us, kw⟩)).depth = A.depth + 1 := by
 first | rfl | simp [Around.under, Code.weight, Code.isCreation, Code.isGuard, Code.isCaller, Code.frames, Code.isFrame, guardIds]
theorem make_units {A : Around} {C : Addr} {us : List Value} {kw : List (Str × Value)} : (A.under (.builtin "type.__call__" ⟨.ref C :: us, kw⟩)).units = A.units + 1 := by
 first | rfl | simp [Around.under, Code.cUnits, Code.frames, Code.isFrame]
theorem Room.make {k : Nat} {A : Around} (r : Room (k + 1) A) (C : Addr) (us : List Value) (kw : List (Str × Value)) : Room k (A.under (.builtin "type.__call__" ⟨.ref C :: us, kw⟩)) :=
 ⟨r.hd, by have := r.dp; rw [make_depth]; omega, by have := r.un; rw [make_units]; omega⟩
theorem Room.depth {k : Nat} {A : Around} (r : Room k A) : A.depth < recursionLimit := by have := r.dp; omega
theorem Room.units {k : Nat} {A : Around} (r : Room k A) : A.units + 64 < cLine := by have := r.un; omega
def tNil : TA := λ _ H Q => Q [] H
def tCons (ta : TE) (tr : TA) : TA := λ σ H Q => ta σ H λ x H1 => tr σ H1 λ xs H2 => Q (x :: xs) H2
section
variable {X : Cx} {e : Expr} {es : List Expr} {te : TE} {t : TA} {pos : Pos}
theorem pa_nil : PA X [] tNil := λ _ _ _ _ H Q I h => Calls.spliced_nil ⟨[], H, I, .nil, h⟩
theorem pa_cons (ha : PE X e te) (hr : PA X es t) (hs : starEach (e :: es) X.env = (false, eval e X.env) :: starEach es X.env := by rfl) : PA X (e :: es) (tCons te t) := by
 intro pos pins s σ H Q I h
 rw [hs]
 show wpAny _ _ (spliced ((false, eval e X.env) :: backTo pos (starEach es X.env))) _ _ s
 refine Calls.spliced_cons (thn (ha pins s σ H _ I h) λ u s1 q_ => ?_)
 obtain ⟨x, H1, I1, r1, q1⟩ := q_
 exact thn (hr pos pins s1 σ H1 _ I1 q1) λ us s2 q_ => by obtain ⟨xs, H2, I2, r2, q2⟩ := q_; exact ⟨x :: xs, H2, I2, .cons r1 r2, q2⟩
def tTup (t : TA) : TE := λ σ H Q => t σ H λ xs H1 => xs.length <= sizeLine /\ ∀ p, H1 p = none -> Q (.ref p) (upd H1 p (.tup xs))
def tLst (t : TA) : TE := λ σ H Q => t σ H λ xs H1 => xs.length <= sizeLine /\ ∀ p, H1 p = none -> Q (.ref p) (upd H1 p (.lst xs))
theorem pe_tup {x1} (h : PA X es t) : PE X (.Tuple es x1 pos) (tTup t) := by
 intro pins s σ H Q I hq
 refine wpAny_Tuple_spliced (thn (h pos pins s σ H _ I hq) λ us s1 ⟨xs, H1, I1, r, z, q⟩ => ⟨by rw [<- r.length]; exact z, ?_⟩)
 have hf : H1 s1.heap.objs.size = none := I1.hok.fresh (Q4 _)
 refine ⟨.ref s1.heap.objs.size, upd H1 s1.heap.objs.size (.tup xs), I1.laid (t' := s1.toks) (λ b u e => hPo _ e) (Q4 _) ?_, rfl, q _ hf⟩
 exact ⟨z, us, r, ⟨_, hPs _ rfl, rfl, _, rfl⟩, _, hPs _ rfl, rfl⟩
theorem pe_lst (h : PA X es t) : PE X (.List es pos) (tLst t) := by
 intro pins s σ H Q I hq
 refine wpAny_List_spliced (thn (h pos pins s σ H _ I hq) λ us s1 ⟨xs, H1, I1, r, z, q⟩ => ⟨by rw [<- r.length]; exact z, ?_⟩)
 have hf : H1 s1.heap.objs.size = none := I1.hok.fresh (Q4 _)
 refine ⟨.ref s1.heap.objs.size, upd H1 s1.heap.objs.size (.lst xs), I1.laid (t' := s1.toks) (λ b u e => hPo _ e) (Q4 _) ?_, rfl, q _ hf⟩
 exact ⟨z, us, 0, r, hPs _ rfl⟩
end
noncomputable abbrev Sp := List V -> Hp -> VK -> XK -> Prop
noncomputable abbrev CXT := List Env -> Hp -> Shared -> XK -> Value -> Shared -> Prop
structure Env0 (P : Program) (w : World) (K : Fg) (mg : Str -> Option Value) (base : Heap) (A : Around) (outer : List Env) (s : Shared) (H : Hp) : Prop where
 frames : A.frames = some outer
 mod : Mod K mg base
 bs : ∀ b o, base.get? b = some o -> s.heap.get? b = some o /\ H b = none
 bsz : base.objs.size <= s.heap.objs.size
 funs : s.heap.FunFrames base outer
 frf : ∀ b ∈ frs outer, H b = none
 hok : HOk P w H s.heap
 bare : AllBare s.gens
def CE (outer : List Env) (P : Program) (w : World) (H : Hp) (s : Shared) (Q : VK) (u : Value) (s' : Shared) : Prop :=
 ∃ v H', s'.os = s.os /\ AllBare s'.gens /\ Un (frs outer) [] H H' s.heap s'.heap /\ HOk P w H' s'.heap /\ RelV v u /\ Q v H'
def CR (CX : CXT) (outer : List Env) (P : Program) (w : World) (H : Hp) (s : Shared) (Q : VK) (E : XK) (r : Result) (s' : Shared) : Prop :=
 match r with
 | .ok (.ret u) => CE outer P w H s Q u s'
 | .ok _ => False
 | .error e => CX outer H s E e s'
structure FnOk (P : Program) (w : World) (K : Fg) (mg : Str -> Option Value) (base : Heap) (CX : CXT) (k : Nat) (f : Addr) (fd : FuncData) (ps : List Str) (sp : Sp) : Prop where
 len : ∀ vs H Q E, sp vs H Q E -> vs.length = ps.length
 run : ∀ (A : Around) (outer : List Env) (s : Shared) (H : Hp) (args : Args) (us : List Value) (vs : List V) (Q : VK) (E : XK), Room k A -> Env0 P w K mg base A outer s H -> BindsTo s fd args (ps.zip us) -> Vals vs us -> sp vs H Q E ->
  codeAny (model P w) A (.call (.ref f) args) (CR CX outer P w H s Q E) s
theorem FnOk.imp {P : Program} {w : World} {K : Fg} {mg : Str -> Option Value} {base : Heap} {CX : CXT} {k : Nat} {f : Addr} {fd : FuncData} {ps : List Str} {sp sp' : Sp} (F : FnOk P w K mg base CX k f fd ps sp)
 (h : ∀ vs H Q E, sp' vs H Q E -> sp vs H Q E) : FnOk P w K mg base CX k f fd ps sp' :=
 ⟨λ vs H Q E q => F.len vs H Q E (h _ _ _ _ q), λ A outer s H args us vs Q E hr he hb hv hs => F.run A outer s H args us vs Q E hr he hb hv (h _ _ _ _ hs)⟩
theorem Env0.make {P : Program} {w : World} {K : Fg} {mg : Str -> Option Value} {base : Heap} {A : Around} {outer : List Env} {s : Shared} {H : Hp} (e : Env0 P w K mg base A outer s H) (C : Addr) (us : List Value) (kw : List (Str × Value)) :
 Env0 P w K mg base (A.under (.builtin "type.__call__" ⟨.ref C :: us, kw⟩)) outer s H := ⟨by first | exact e.frames | (simpa [Around.under, Code.envs, Code.isFrame, pushEnvs] using e.frames), e.mod, e.bs, e.bsz, e.funs, e.frf, e.hok, e.bare⟩
theorem Env0.in1 {P : Program} {w : World} {K : Fg} {mg : Str -> Option Value} {base : Heap} {A : Around} {outer : List Env} {s : Shared} {H : Hp} (e : Env0 P w K mg base A outer s H) :
 Env0 P w K mg base A.in1 outer s H := ⟨e.frames, e.mod, e.bs, e.bsz, e.funs, e.frf, e.hok, e.bare⟩
section
variable {X : Cx} {pins : List (Addr × Obj)} {σ : St} {H : Hp} {s s' : Shared}
theorem Inv.env0 (I : Inv X pins σ H s) : Env0 X.prog X.w X.K X.mg X.base X.A X.stack s H :=
 ⟨I.ok.frames, I.ok.mod, I.bs, Q7 I.ok.bsz I.sz, I.stack, I.stkFree, I.hok, I.bare⟩
theorem Inv.after {Q : VK} {u : Value} (I : Inv X pins σ H s) (h : CE X.stack X.prog X.w H s Q u s') : EP X pins σ Q u s' := by
 obtain ⟨v, H', os, bare, un, hok, r, q⟩ := h
 obtain ⟨hh, g, d, t, os'⟩ := s'
 obtain rfl : os' = s.os := os
 exact ⟨v, H', I.call (h' := hh) (g' := g) (d' := d) (t' := t) (ch := []) un hok bare (λ b z => absurd z (by simp)), r, q⟩
end
def tCall (sp : Sp) (dvs : List V) (E : XK) (t : TA) : TE := λ σ H Q => t σ H λ vs H1 => sp (vs ++ dvs) H1 Q E
def Binds (K : Fg) (fd : FuncData) (ps : List Str) (ds : List Value) : Prop :=
 ∀ (s : Shared) (us : List Value), K.In s.heap -> (us ++ ds).length = ps.length -> BindsTo s fd ⟨us, []⟩ (ps.zip (us ++ ds))
theorem Binds.all {K : Fg} {fd : FuncData} {ps : List Str} (h : ∀ us : List Value, us.length = ps.length -> bindArgs fd ⟨us, []⟩ = pure (ps.zip us)) : Binds K fd ps [] := λ s us _ hl => by
 rw [Qd] at hl ⊢
 exact .of_eq (h us hl)
def Passes (CX : CXT) (X : Cx) (E : XK) : Prop := ∀ (pins : List (Addr × Obj)) (σ : St) (H : Hp) (s : Shared) (e : Value) (s' : Shared), Inv X pins σ H s -> CX X.stack H s E e s' -> X.xe e s'
section
variable {X : Cx} {CX : CXT} {k : Nat} {f C : Addr} {fd : FuncData} {ps : List Str} {sp : Sp} {dvs : List V} {ds : List Value} {E : XK} {x m : Str} {p pos apos : Pos} {e o : Expr} {es : List Expr} {ta : TE} {t : TA}
theorem run_fn {pins : List (Addr × Obj)} {σ : St} {H : Hp} {s : Shared} {Q : VK} {us : List Value} {vs : List V} (F : FnOk X.prog X.w X.K X.mg X.base CX k f fd ps sp) (hr : Room k X.A) (hb : Binds X.K fd ps ds) (hd : Vals dvs ds) (hx : Passes CX X E)
 (I : Inv X pins σ H s) (r : Vals vs us) (h : sp (vs ++ dvs) H Q E) : wpAny (model X.prog X.w) X.A (call (.ref f) us) (EP X pins σ Q) X.xe s := by
 have r2 : Vals (vs ++ dvs) (us ++ ds) := r.append hd
 have hl : (us ++ ds).length = ps.length := by rw [<- r2.length]; exact F.len _ _ _ _ h
 refine wpAny_call (codeAny_mono (F.run X.A X.stack s H ⟨us, []⟩ (us ++ ds) (vs ++ dvs) Q E hr I.env0 (hb s us I.kIn hl) r2 h) λ r s' hq => ?_)
 cases r with
 | error e => exact hx pins σ H s e s' I hq
 | ok fl =>
  cases fl with
  | ret u => exact I.after hq
  | next => exact False.elim hq
  | brk => exact False.elim hq
  | cont => exact False.elim hq
theorem pe_call (F : FnOk X.prog X.w X.K X.mg X.base CX k f fd ps sp) (hr : Room k X.A) (hg : Gl X x) (hm : X.mg x = some (.ref f)) (hk : PySem.W.keepIn X.K (.ref f) = true) (hb : Binds X.K fd ps ds) (hd : Vals dvs ds) (hx : Passes CX X E)
 (ha : PA X (e :: es) t) (hdb : (x == ("__debug__" : Str)) = false := by decide) (he : starEach (e :: es) X.env = (false, eval e X.env) :: starEach es X.env := by rfl) (hpl : (backTo pos (starEach es X.env)).any (·.1) = false := by rfl) :
 PE X (.Call (.Name x p) (e :: es) [] pos) (tCall sp dvs E t) := by
 intro pins s σ H Q I h
 refine wpAny_Call_Name_kw (ld_glob I hg hm ?_ hdb)
 refine PySem.W.callWith_K (h₀ := X.base) I.ok.mod.kin hk (thn (ha pos pins s σ H _ I h) λ us s1 ⟨vs, H1, I1, r, q⟩ => ⟨I1.kIn, ?_⟩) he hpl
 exact run_fn F hr hb hd hx I1 r q
end
section
variable {X : Cx} {CX : CXT} {k : Nat} {f C : Addr} {fd : FuncData} {ps ks : List Str} {sp : Sp} {E : XK} {x m : Str} {p pos apos kpos : Pos} {e o : Expr} {es : List Expr} {kws : List Keyword} {te ta : TE} {t tk : TA} {nm : Option Str}
variable {g : List Value -> List Value -> List Value} {gV : List V -> List V -> List V}
end
structure FnScope (N P : List Str) (sc : Scope) : Prop where
 kind : sc.kind = .function
 co : sc.isCoroutine = false
 gen : sc.isGenerator = false
 nd : N.Nodup
 pre : N.take P.length = P
 par : ∀ x ∈ P, sc.names.lookup x = some .local \/ sc.names.lookup x = some .cell
 nofree : ∀ y ∈ sc.names, y.2 ≠ .free
theorem bindL_out {kindOf : Str -> Option NameKind} {x : Str} : ∀ {binds : List (Str × Value)} {m : Str -> Option Value}, (∀ v, (x, v) ∉ binds) -> bindL kindOf binds m x = m x
 | [], _, _ => rfl
 | (n, v) :: r, m, h => by
  unfold bindL
  rw [bindL_out λ w hw => h w (lMc _ hw)]
  split
  · have : x ≠ n := by rintro rfl; exact h v lMs
    simp [this]
  · rfl
theorem bindC_out {kindOf : Str -> Option NameKind} {x : Str} : ∀ {binds : List (Str × Value)} {m : Str -> Option Value}, (∀ v, (x, v) ∉ binds) -> bindC kindOf binds m x = m x
 | [], _, _ => rfl
 | (n, v) :: r, m, h => by
  unfold bindC
  rw [bindC_out λ w hw => h w (lMc _ hw)]
  split
  · rfl
  · have : x ≠ n := by rintro rfl; exact h v lMs
    simp [this]
theorem bindL_get {kindOf : Str -> Option NameKind} {x : Str} {v : Value} : ∀ {P : List Str} {vs : List Value} {i : Nat} {m : Str -> Option Value}, P.Nodup -> P[i]? = some x -> vs[i]? = some v -> kindOf x = some .local ->
 bindL kindOf (P.zip vs) m x = some v
 | [], _, _, _, _, h, _, _ => by simp at h
 | _ :: _, [], _, _, _, _, h, _ => by simp at h
 | p :: P, w :: vs, 0, m, nd, h1, h2, hk => by
  simp at h1 h2; subst h1; subst h2
  show bindL kindOf ((p, w) :: P.zip vs) m p = _
  unfold bindL
  rw [bindL_out λ v hv => (List.nodup_cons.mp nd).1 (List.of_mem_zip hv).1, if_pos hk]
  simp
 | p :: P, w :: vs, i + 1, m, nd, h1, h2, hk => by
  show bindL kindOf ((p, w) :: P.zip vs) m x = _
  unfold bindL
  exact bindL_get (i := i) (List.nodup_cons.mp nd).2 (by simpa using h1) (by simpa using h2) hk
theorem bindC_get {kindOf : Str -> Option NameKind} {x : Str} {v : Value} : ∀ {P : List Str} {vs : List Value} {i : Nat} {m : Str -> Option Value}, P.Nodup -> P[i]? = some x -> vs[i]? = some v -> kindOf x ≠ some .local ->
 bindC kindOf (P.zip vs) m x = some v
 | [], _, _, _, _, h, _, _ => by simp at h
 | _ :: _, [], _, _, _, _, h, _ => by simp at h
 | p :: P, w :: vs, 0, m, nd, h1, h2, hk => by
  simp at h1 h2; subst h1; subst h2
  show bindC kindOf ((p, w) :: P.zip vs) m p = _
  unfold bindC
  rw [bindC_out λ v hv => (List.nodup_cons.mp nd).1 (List.of_mem_zip hv).1, if_neg hk]
  simp
 | p :: P, w :: vs, i + 1, m, nd, h1, h2, hk => by
  show bindC kindOf ((p, w) :: P.zip vs) m x = _
  unfold bindC
  exact bindC_get (i := i) (List.nodup_cons.mp nd).2 (by simpa using h1) (by simpa using h2) hk
def start (N : List Str) (vs : List V) : St := vs.map some ++ List.replicate (N.length - vs.length) none
noncomputable def cxOf (CX : CXT) (P : Program) (w : World) (K : Fg) (mg : Str -> Option Value) (base : Heap) (N : List Str) (qual : Str) (scope : Scope) (f : Addr) (cd : Value) (A : Around) (outer : List Env) (s : Shared) (H : Hp) (E : XK) : Cx where
 prog := P
 w := w
 K := K
 mg := mg
 base := base
 A := A.deeper (envOfC qual scope s.heap.objs.size f cd)
 N := N
 s₀ := s
 H₀ := H
 env := envOfC qual scope s.heap.objs.size f cd
 outer := outer
 stack := envOfC qual scope s.heap.objs.size f cd :: outer
 ex := []
 calm := true
 fn := λ _ => true
 pn := []
 xe := λ e s' => wpAny (model P w) (A.deeper (envOfC qual scope s.heap.objs.size f cd)) (leaving (envOfC qual scope s.heap.objs.size f cd) e) (λ _ s'' => CX outer H s E e s'') (λ e' s'' => CX outer H s E e' s'') s'
theorem cell_has {sc : Scope} {n : Nat} {x : Str} (h : sc.names.lookup x = some .cell) : ∃ c, (cellsFrom n sc.names []).lookup x = some c := by
 have q := PySem.W.cellsFrom_some sc.names n [] (.inl h)
 exact Option.isSome_iff_exists.mp q
theorem inv_start {CX : CXT} {P : Program} {w : World} {K : Fg} {mg : Str -> Option Value} {base : Heap} {N ps : List Str} {qual : Str} {scope : Scope} {f : Addr} {cd : Value} {A : Around} {outer : List Env} {s s1 : Shared} {H : Hp} {E : XK} {us : List Value} {vs : List V}
 (S : FnScope N ps scope) (hd : A.handled = none) (e0 : Env0 P w K mg base A outer s H) (hl : vs.length = ps.length) (r : Vals vs us)
 (x : InCallC s s.heap.objs.size (bindL (envOfC qual scope s.heap.objs.size f cd).kindOf (ps.zip us) λ _ => none) (cellsFrom (s.heap.objs.size + 1) scope.names []) (bindC (envOfC qual scope s.heap.objs.size f cd).kindOf (ps.zip us) λ _ => none) s1) :
 Inv (cxOf CX P w K mg base N qual scope f cd A outer s H E) [] (start N vs) H s1 := by
 have hpl : ps.length <= N.length := by have := congrArg List.length S.pre; rw [List.length_take] at this; omega
 obtain ⟨h1, tk, rfl, hk⟩ := x.done
 have noA : ∀ b : Addr, b ∉ (cxOf CX P w K mg base N qual scope f cd A outer s H E).ex := λ b z => absurd (show b ∈ ([] : List Addr) from z) (by simp)
 refine ⟨⟨e0.mod, S.kind, rfl, rfl, Q4 _, λ y z c h1 h2 => ?_, λ y hy => ?_, λ y c _ h => ?_, λ _ => hd, Around.frames_deeper e0.frames, .inr ⟨rfl, rfl⟩, λ b z => absurd z (noA b), e0.bs, e0.bsz, λ b _ _ => noA b, λ b z => absurd z (noA b), e0.funs, e0.frf⟩,
  rfl, e0.bare, Un.kept hk, ⟨_, x.toInCall.ns, λ i y v h1 h2 h3 => ?_⟩, λ y c h => ⟨_, x.cell y c h⟩, e0.hok.fresh (Q4 _), λ y c h => ?_, λ p hp => absurd (show p ∈ ([] : List (Addr × Obj)) from hp) (by simp), e0.hok.kept hk, ?_⟩
 · exact name_of_addr x.apart (PySem.mem_of_lookup h1) (PySem.mem_of_lookup h2)
 · have hy : scope.names.lookup y = some .cell \/ scope.names.lookup y = some .free := hy
   rcases hy with hy | hy
   · exact cell_has hy
   · exact absurd rfl (S.nofree _ (PySem.mem_of_lookup hy))
 · exact nLe (x.above y c (PySem.mem_of_lookup h))
 · have hi : i < vs.length := by
    unfold start at h2
    by_cases hi : i < vs.length
    · exact hi
    · rw [Q2 (by simpa using hi)] at h2
      rw [Q3] at h2
      split at h2 <;> cases h2
   have ha : vs[i]? = some v := by
    unfold start at h2
    rw [Q1 (by simpa using hi), zK] at h2
    cases e : vs[i]? with
    | none => rw [e] at h2; cases h2
    | some a => rw [e] at h2; cases h2; rfl
   obtain ⟨u, hu, rv⟩ := r.get ha
   have hp : ps[i]? = some y := by
    rw [<- S.pre, List.getElem?_take_of_lt (by omega)]; exact h1
   have ndP : ps.Nodup := by rw [<- S.pre]; exact S.nd.sublist (List.take_sublist _ _)
   refine ⟨u, rv, ?_⟩
   rcases S.par y (List.mem_of_getElem? hp) with k | k
   · exact .inl ⟨k, bindL_get ndP hp hu k⟩
   · obtain ⟨c, e⟩ := cell_has (n := s.heap.objs.size + 1) k
     refine .inr ⟨.inl k, c, e, ?_⟩
     have q := x.cell y c e
     rw [bindC_get ndP hp hu (by show scope.names.lookup y ≠ _; rw [k]; decide)] at q
     exact q
 · exact e0.hok.fresh (nLe (x.above y c (PySem.mem_of_lookup h)))
 · unfold start
   show _ = N.length
   rw [zQ, zJ, Qc]
   omega
theorem fn_of {CX : CXT} {P : Program} {w : World} {K : Fg} {mg : Str -> Option Value} {base : Heap} {k : Nat} {f : Addr} {name qual : Str} {params : Arguments} {body : List Stmt} {scope : Scope} {dV kV doc pm cdv ct oc : Value} {an od : Option Addr}
 {osl : Array (Option Value)} {N ps : List Str} {sp : Sp} (lk : K.lookup f = some ⟨oc, od, .func (PySem.W.fnOf name qual params body scope dV kV doc pm an cdv ct), osl⟩) (hcd : PySem.W.codeIn K cdv qual = true) (S : FnScope N ps scope)
 (len : ∀ vs H Q E, sp vs H Q E -> vs.length = ps.length)
 (hbody : ∀ (A : Around) (outer : List Env) (s : Shared) (H : Hp) (vs : List V) (Q : VK) (E : XK), Room k (A.deeper (envOfC qual scope s.heap.objs.size f cdv)) -> sp vs H Q E ->
  ∃ t, PSs (cxOf CX P w K mg base N qual scope f cdv A outer s H E) body t /\ t { nx := λ _ H' => Q .non H', rt := Q } (start N vs) H) :
 FnOk P w K mg base CX (k + 1) f (PySem.W.fnOf name qual params body scope dV kV doc pm an cdv ct) ps sp := by
 refine ⟨len, λ A outer s H args us vs Q E hr e0 hb r hsp => ?_⟩
 have hl := len _ _ _ _ hsp
 have KX : K.In s.heap := e0.mod.kin.keeps λ b o e => (e0.bs b o e).1
 have lim : s.heap.NoLimit := e0.mod.nolimit.keeps λ b o e => (e0.bs b o e).1
 have hkind : ∀ y ∈ ps.zip us, scope.names.lookup y.1 = some .local \/ (scope.names.lookup y.1 = some .cell /\ ((cellsFrom (s.heap.objs.size + 1) scope.names []).lookup y.1).isSome = true) := λ ⟨n, v⟩ hy => by
  rcases S.par n (List.of_mem_zip hy).1 with q | q
  · exact .inl q
  · exact .inr ⟨q, PySem.W.cellsFrom_some _ _ _ (.inl q)⟩
 refine codeAny_call_function hr.depth (KX _ _ lk) rfl S.co S.gen rfl (PySem.W.codeRec_of KX hcd) (hb _ _ _ _ ?_)
 refine wpAny_newFunctionEnv_cells S.kind hkind λ env he s1 x => ?_
 subst he
 refine ⟨lim.keeps x.toInCall.keep, codeAny_func ?_⟩
 obtain ⟨t, ht, hq⟩ := hbody A outer s H vs Q E (hr.deeper _) hsp
 have I : Inv (cxOf CX P w K mg base N qual scope f cdv A outer s H E) [] (start N vs) H s1 := inv_start S hr.hd e0 hl r x
 refine wpAny_mono (ht [] s1 (start N vs) H _ I hq) (λ fl s' hs => ?_) λ e s' hs => hs
 have fin : ∀ {σ' : St} {H' : Hp} {v : V} {u : Value}, Inv (cxOf CX P w K mg base N qual scope f cdv A outer s H E) [] σ' H' s' -> RelV v u -> Q v H' -> CE outer P w H s Q u s' :=
  λ {σ' H' v u} J rv q => ⟨v, H', J.os, J.bare, J.base, J.hok, rv, q⟩
 cases fl with
 | ret u =>
  obtain ⟨v, σ', H', J, rv, q⟩ := hs
  exact fin J rv q
 | next =>
  obtain ⟨σ', H', J, q⟩ := hs
  exact fin (v := V.non) (u := Value.none) J rfl q
 | brk =>
  obtain ⟨_, _, _, q⟩ := hs
  exact False.elim q
 | cont =>
  obtain ⟨_, _, _, q⟩ := hs
  exact False.elim q
section
variable {X : Cx} {x : Str} {p pos : Pos} {e : Expr} {es : List Expr} {t : TA} {id T : String} {r : List V -> Hp -> VK -> Prop}
def tCB (r : List V -> Hp -> VK -> Prop) (t : TA) : TE := λ σ H Q => t σ H λ vs H1 => r vs H1 Q
theorem pe_callB (hc : CallR X (.builtin id) r) (hg : Gl X x) (hm : X.mg x = none) (hv : bootBuiltins x = some (.builtin id)) (ha : PA X (e :: es) t) (hn : x ≠ "__name__" := by decide) (hdb : (x == ("__debug__" : Str)) = false := by decide)
 (he : starEach (e :: es) X.env = (false, eval e X.env) :: starEach es X.env := by rfl) (hpl : (backTo pos (starEach es X.env)).any (·.1) = false := by rfl) : PE X (.Call (.Name x p) (e :: es) [] pos) (tCB r t) := by
 intro pins s σ H Q I h
 refine wpAny_Call_Name_kw (ld_blt I hg hm hv ?_ hn hdb)
 exact PyProof.Rows.callWith_builtin1 (thn (ha pos pins s σ H _ I h) λ us s1 q_ => by obtain ⟨vs, H1, I1, r1, q1⟩ := q_; exact hc pins s1 σ H1 vs us Q I1 r1 q1) he hpl
theorem pe_callTy (hc : CallR X (.type T) r) (hg : Gl X x) (hm : X.mg x = none) (hv : bootBuiltins x = some (.type T)) (ha : PA X (e :: es) t) (hn : x ≠ "__name__" := by decide) (hdb : (x == ("__debug__" : Str)) = false := by decide)
 (he : starEach (e :: es) X.env = (false, eval e X.env) :: starEach es X.env := by rfl) (hpl : (backTo pos (starEach es X.env)).any (·.1) = false := by rfl) : PE X (.Call (.Name x p) (e :: es) [] pos) (tCB r t) := by
 intro pins s σ H Q I h
 refine wpAny_Call_Name_kw (ld_blt I hg hm hv ?_ hn hdb)
 exact PyProof.Rows.callWith_type1 (thn (ha pos pins s σ H _ I h) λ us s1 q_ => by obtain ⟨vs, H1, I1, r1, q1⟩ := q_; exact hc pins s1 σ H1 vs us Q I1 r1 q1) he hpl
end
end L2
namespace HT
open PySem PyProof.Rows
section
open PySem.SeqAt
open PySem.AutoSeq1 (wpAny_loadPart')
open PySem.MeetsSeq PySem.MeetsSeq2 PySem.MeetsSeq3
end
section
variable {prog : Program} {w : World} {A : Around} {E : Value -> Shared -> Prop} {s : Shared}
theorem cat_tup {t b : Addr} {vs ws : List Value} {Q : Value -> Shared -> Prop} (ht : IsTup s.heap t vs.toArray) (hb : IsTup s.heap b ws.toArray) (hv : vs ≠ [])
 (h1 : ws = [] -> Q (.ref t) s) (h2 : ws ≠ [] -> Q (.ref s.heap.objs.size) { s with heap := s.heap.push { cls := .type "tuple", data := .seq (vs ++ ws).toArray } })
 (hsz : vs.length + ws.length <= sizeLine) : wpAny (model prog w) A (binaryOp .Add (.ref t) (.ref b)) Q E s := by
 obtain ⟨⟨cls, dd, data, sl⟩, ho, hc, n, hd⟩ := id ht
 obtain ⟨⟨cls2, dd2, data2, sl2⟩, ho2, hc2, n2, hd2⟩ := id hb
 simp only at hc hd hc2 hd2
 subst hc hd hc2 hd2
 have e : vs.toArray ++ ws.toArray = (vs ++ ws).toArray := by simp
 by_cases hw : ws = []
 · exact concat_meets ⟨_, ho, rfl⟩ ⟨_, ho2, rfl⟩ noFill_tuple_add seq_tuple_add PySem.F.slot_tuple_add PySem.F.entry_tuple_add (PySem.F.args_tuple_add_2 _ _)
    (tuple_addW1 t b vs.toArray ws.toArray n n2 dd dd2 sl sl2 (by simpa using hv) (by simp [hw])) ⟨ho, ho2, h1 hw⟩
 · refine concat_meets ⟨_, ho, rfl⟩ ⟨_, ho2, rfl⟩ noFill_tuple_add seq_tuple_add PySem.F.slot_tuple_add PySem.F.entry_tuple_add (PySem.F.args_tuple_add_2 _ _)
    (tuple_addW2 t b vs.toArray ws.toArray n n2 dd dd2 sl sl2 (by simpa using hv) (by simpa using hw) (by rw [zM, zM]; exact hsz)) ⟨ho, ho2, ?_⟩
   rw [e]
   exact h2 hw
end
end HT
namespace L2
open PySem PySem.Spec PyProof.Rows
noncomputable abbrev TO := St -> Hp -> (Option Int -> Hp -> Prop) -> Prop
section
variable {X : Cx} {e : Expr} {te : TE} {lo hi : Option Expr} {tl th : TO} {pos p2 : Pos}
def rCatT (K : Fg) : R2 := λ x y H Q => ∃ a b xs ys, x = .ref a /\ y = .ref b /\ SqT K H a xs /\ SqT K H b ys /\ xs ≠ [] /\ xs.length + ys.length <= sizeLine /\
 (ys = [] -> Q (.ref a) H) /\ (ys ≠ [] -> ∀ p, H p = none -> Q (.ref p) (upd H p (.tup (xs ++ ys))))
theorem Vals.nil_iff {xs : List V} {us : List Value} (r : Vals xs us) : us = [] ↔ xs = [] := by
 cases r with
 | nil => simp
 | cons _ _ => simp
theorem op_catT : OpR X (binaryOp .Add) (rCatT X.K) := by
 intro pins s σ H x y v u Q I rx ry h
 obtain ⟨a, b, xs, ys, rfl, rfl, ha, hb, hx, hz, q1, q2⟩ := h
 cases rx
 cases ry
 obtain ⟨its, r1, p1, _⟩ := I.tuple ha
 obtain ⟨its2, r2, p2, _⟩ := I.tuple hb
 refine HT.cat_tup p1 p2 (λ z => hx (r1.nil_iff.mp z)) (λ z => ⟨.ref a, H, I, rfl, q1 (r2.nil_iff.mp z)⟩) (λ z => ?_) (by rw [<- r1.length, <- r2.length]; exact hz)
 refine ⟨.ref s.heap.objs.size, _, I.laid (t' := s.toks) (o := .tup (xs ++ ys)) (λ b ob q => hPo _ q) (Q4 _) ?_, rfl, q2 (λ w => z (r2.nil_iff.mpr w)) _ (I.hok.fresh (Q4 _))⟩
 exact ⟨by rw [zQ]; exact hz, _, r1.append r2, IsTup.new _ _, _, hPs _ rfl, rfl⟩
end
noncomputable def ixN (n : Nat) (i : Int) : Option Nat := if 0 <= i then (if i < n then some i.toNat else none) else if -(n : Int) <= i then some (i + n).toNat else none
noncomputable def atI {α : Type} (xs : List α) (i : Int) : Option α := (ixN xs.length i).bind λ j => xs[j]?
theorem ixN_seq {n : Nat} {i : Int} {j : Nat} (h : ixN n i = some j) : seqIndex? i n = some j /\ j < n /\ -(n : Int) <= i /\ i < n := by
 unfold ixN at h
 by_cases h0 : 0 <= i
 · rw [if_pos h0] at h
   by_cases h1 : i < n
   · rw [if_pos h1] at h
     have e : i.toNat = j := zV h
     exact ⟨by rw [seqIndex_of h0 h1, e], by omega, by omega, h1⟩
   · rw [if_neg h1] at h; cases h
 · rw [if_neg h0] at h
   by_cases h1 : -(n : Int) <= i
   · rw [if_pos h1] at h
     have e : (i + n).toNat = j := zV h
     exact ⟨by rw [seqIndex_neg (by omega) h1, e], by omega, h1, by omega⟩
   · rw [if_neg h1] at h; cases h
theorem atI_get {α : Type} {xs : List α} {i : Int} {v : α} (h : atI xs i = some v) : ∃ j, seqIndex? i xs.length = some j /\ xs[j]? = some v /\ j < xs.length /\ -(xs.length : Int) <= i /\ i < xs.length := by
 unfold atI at h
 cases e : ixN xs.length i with
 | none => rw [e] at h; cases h
 | some j =>
  rw [e] at h
  obtain ⟨h1, h2, h3, h4⟩ := ixN_seq e
  exact ⟨j, h1, h, h2, h3, h4⟩
theorem atI_nat {α : Type} {xs : List α} {j : Nat} {v : α} (h : xs[j]? = some v) : atI xs (j : Int) = some v := by
 have hj : j < xs.length := (Qe.mp h).1
 have e : ixN xs.length (j : Int) = some j := by
  unfold ixN
  rw [if_pos (by omega), if_pos (by omega)]; simp
 unfold atI; rw [e]; exact h
def PlainIx (b : Expr) : Prop := ∀ o i, subscripted b false o i = operate [o, i] (getItem o i)
def IxR (X : Cx) (r : R2) : Prop :=
 ∀ (value slice : Expr) (pins : List (Addr × Obj)) (s : Shared) (σ : St) (H : Hp) (x y : V) (v u : Value) (Q : VK), Inv X pins σ H s -> RelV x v -> RelV y u -> r x y H Q ->
  subscripted slice false v u = operate [v, u] (getItem v u) -> wpAny (model X.prog X.w) X.A (subscriptTail value slice v u) (EP X pins σ Q) X.xe s
def MtR (X : Cx) (id : String) (r : V -> List V -> Hp -> VK -> Prop) : Prop :=
 ∀ (pins : List (Addr × Obj)) (s : Shared) (σ : St) (H : Hp) (x : V) (xs : List V) (v : Value) (us : List Value) (Q : VK), Inv X pins σ H s -> RelV x v -> Vals xs us -> r x xs H Q ->
  wpAny (model X.prog X.w) X.A (call (.builtin id) (v :: us)) (EP X pins σ Q) X.xe s
section
variable {X : Cx} {a b : Expr} {ta tb : TE} {pos : Pos}
theorem IxR.or {r r' : R2} (h : IxR X r) (h' : IxR X r') : IxR X (λ x y H Q => r x y H Q \/ r' x y H Q) := by
 intro value slice pins s σ H x y v u Q I rx ry q hs
 rcases q with q | q
 · exact h value slice pins s σ H x y v u Q I rx ry q hs
 · exact h' value slice pins s σ H x y v u Q I rx ry q hs
theorem pe_ix {r : R2} (hr : IxR X r) (ha : PE X a ta) (hb : PE X b tb) (hs : PlainIx b) : PE X (.Subscript a b pos) (tOp r ta tb) := by
 intro pins s σ H Q I h
 exact Subscript_ (binT ha hb I h λ v u s2 x y H2 I2 rx ry q => hr a b pins s2 σ H2 x y v u Q I2 rx ry q (hs _ _))
def rIxL (K : Fg) : R2 := λ x y H Q => ∃ p xs i v, x = .ref p /\ y = .int i /\ SqL K H p xs /\ atI xs i = some v /\ Q v H
def rIxT (K : Fg) : R2 := λ x y H Q => ∃ p xs i v, x = .ref p /\ y = .int i /\ SqT K H p xs /\ atI xs i = some v /\ Q v H
def rIxS : R2 := λ x y H Q => ∃ z i c, x = .str z /\ y = .int i /\ z.length <= sizeLine /\ atI z.cps.toList i = some c /\ Q (.str ⟨#[c]⟩) H
theorem ix_list : IxR X (rIxL X.K) := by
 intro value slice pins s σ H x y v u Q I rx ry h hs
 obtain ⟨p, xs, i, z, rfl, rfl, hq, he, q⟩ := h
 cases rx
 obtain ⟨t, rfl⟩ := ry
 obtain ⟨its, r, pl, hz⟩ := I.list hq
 obtain ⟨j, h1, h2, h3, h4, h5⟩ := atI_get he
 obtain ⟨w, ew, rw'⟩ := r.get h2
 have hl := r.length
 have hn := line63
 have fin : EP X pins σ Q w s := ⟨z, H, I, rw', q⟩
 by_cases h0 : 0 <= i
 · have hj : i.toNat = j := by
    rw [seqIndex_of h0 h5] at h1
    exact zV h1
   exact item_listR pl.isList h0 (by omega) (by rw [hj]; simpa using ew) fin hs
 · have hj : (i + (its.toArray.size : Int)).toNat = j := by
    rw [seqIndex_neg (by omega) h4] at h1
    rw [zM, <- hl]
    exact zV h1
   exact subscriptTail_builtinR (x := w) pl.isList.typeIs slot_list_getitem.lookup
    (wpAny_getItem_list_neg (Q := λ r s' => r = w /\ EP X pins σ Q r s') pl.isList (by omega) (by rw [zM] <;> omega) (by omega) (by rw [hj]; simpa using ew) ⟨rfl, fin⟩) hs
theorem ix_tup : IxR X (rIxT X.K) := by
 intro value slice pins s σ H x y v u Q I rx ry h hs
 obtain ⟨p, xs, i, z, rfl, rfl, hq, he, q⟩ := h
 cases rx
 obtain ⟨t, rfl⟩ := ry
 obtain ⟨its, r, pl, hz⟩ := I.tuple hq
 obtain ⟨j, h1, h2, h3, h4, h5⟩ := atI_get he
 obtain ⟨w, ew, rw'⟩ := r.get h2
 have hl := r.length
 have hn := line63
 have fin : EP X pins σ Q w s := ⟨z, H, I, rw', q⟩
 exact subscriptTail_builtinR (x := w) pl.typeIs slot_tuple_getitem.lookup
  (getItem_tuple (j := j) (Q := λ r s' => r = w /\ EP X pins σ Q r s') pl (by omega) (by omega) (by rw [zM, <- hl]; exact h1) (by simpa using ew) ⟨rfl, fin⟩) hs
theorem ix_str : IxR X rIxS := by
 intro value slice pins s σ H x y v u Q I rx ry h hs
 obtain ⟨z, i, c, rfl, rfl, hz, he, q⟩ := h
 obtain ⟨t, rfl⟩ := rx
 obtain ⟨t', rfl⟩ := ry
 obtain ⟨j, h1, h2, h3, h4, h5⟩ := atI_get he
 have hl : z.cps.toList.length = z.length := by simp [Str.length]
 rw [hl] at h1 h4 h5
 have hn := line63
 exact tail_any (typeIs_str s z t) slot_str_getitem.lookup (getItem_str (c := c) (by
  have e1 : decide (i < -(2 ^ 63 : Int)) = false := decide_eq_false (by omega)
  have e2 : decide (i >= 2 ^ 63) = false := decide_eq_false (by omega)
  rw [e1, e2, Bool.or_false]) (by rw [h1]; simpa using h2) ⟨.str ⟨#[c]⟩, H, I.tok _, ⟨_, rfl⟩, q⟩) hs
def rIx (K : Fg) : R2 := λ x y H Q => rIxL K x y H Q \/ rIxT K x y H Q \/ rIxS x y H Q
theorem ix_seq : IxR X (rIx X.K) := ix_list.or (ix_tup.or ix_str)
noncomputable def flatV : V -> Bool
 | .non => true
 | .bl _ => true
 | .int _ => true
 | .str _ => true
 | _ => false
noncomputable def eqV : V -> V -> Bool
 | .non, .non => true
 | .bl a, .bl b => a == b
 | .bl a, .int b => (if a then 1 else 0) == b
 | .int a, .bl b => a == (if b then 1 else 0)
 | .int a, .int b => a == b
 | .str a, .str b => a == b
 | _, _ => false
theorem eqAt_V {A : Around} {s : Shared} {y x : V} {u v : Value} (ry : RelV y u) (rx : RelV x v) (fy : flatV y = true) (fx : flatV x = true) : SeqAt.EqAt A s u v (eqV y x) := by
 cases y with
 | non =>
  cases ry
  cases x with
  | non => cases rx; exact SeqAt.EqAt.same _
  | bl b => cases rx; exact SeqAt.EqAt.none_bool b
  | int b => obtain ⟨t, rfl⟩ := rx; exact SeqAt.EqAt.none_int b t
  | str b => obtain ⟨t, rfl⟩ := rx; exact SeqAt.EqAt.none_str b t
  | _ => exact absurd (show false = true from fx) Qa
 | bl a =>
  cases ry
  cases x with
  | non => cases rx; exact SeqAt.EqAt.bool_none a
  | bl b => cases rx; exact SeqAt.EqAt.bool_bool a b
  | int b => obtain ⟨t, rfl⟩ := rx; exact SeqAt.EqAt.bool_int a b t
  | str b => obtain ⟨t, rfl⟩ := rx; exact SeqAt.EqAt.bool_str a b t
  | _ => exact absurd (show false = true from fx) Qa
 | int a =>
  obtain ⟨t', rfl⟩ := ry
  cases x with
  | non => cases rx; exact SeqAt.EqAt.int_none a t'
  | bl b => cases rx; exact SeqAt.EqAt.int_bool a t' b
  | int b => obtain ⟨t, rfl⟩ := rx; exact SeqAt.EqAt.int_int a t' b t
  | str b => obtain ⟨t, rfl⟩ := rx; exact SeqAt.EqAt.int_str a t' b t
  | _ => exact absurd (show false = true from fx) Qa
 | str a =>
  obtain ⟨t', rfl⟩ := ry
  cases x with
  | non => cases rx; exact SeqAt.EqAt.str_none a t'
  | bl b => cases rx; exact SeqAt.EqAt.str_bool a t' b
  | int b => obtain ⟨t, rfl⟩ := rx; exact SeqAt.EqAt.str_int a t' b t
  | str b => obtain ⟨t, rfl⟩ := rx; exact SeqAt.EqAt.str_str a t' b t
  | _ => exact absurd (show false = true from fx) Qa
 | _ => exact absurd (show false = true from fy) Qa
noncomputable def eqU (x : V) (u : Value) : Bool := match u with
 | .none => eqV .non x
 | .bool b => eqV (.bl b) x
 | .int i _ => eqV (.int i) x
 | .str z _ => eqV (.str z) x
 | _ => false
theorem eqU_of {x y : V} {u : Value} (r : RelV y u) (f : flatV y = true) : eqU x u = eqV y x := by
 cases y with
 | non => cases r; rfl
 | bl b => cases r; rfl
 | int i => obtain ⟨t, rfl⟩ := r; rfl
 | str z => obtain ⟨t, rfl⟩ := r; rfl
 | _ => exact absurd (show false = true from f) Qa
theorem any_eqU {x : V} {xs : List V} {us : List Value} (h : Vals xs us) (f : xs.all flatV = true) : us.any (eqU x) = xs.any λ y => eqV y x := by
 induction h with
 | nil => rfl
 | cons r t ih =>
  rw [List.all_cons, Q6] at f
  rw [List.any_cons, List.any_cons, eqU_of r f.1, ih f.2]
theorem mem_eqAt {A : Around} {s : Shared} {x : V} {v : Value} (rx : RelV x v) (fx : flatV x = true) {xs : List V} {us : List Value} (h : Vals xs us) (f : xs.all flatV = true) : ∀ u ∈ us, SeqAt.EqAt A s u v (eqU x u) := by
 induction h with
 | nil => exact λ u hu => by cases hu
 | cons r t ih =>
  intro u' hu
  rw [List.all_cons, Q6] at f
  rcases Qb.mp hu with rfl | hu
  · rw [eqU_of r f.1]; exact eqAt_V r rx f.1 fx
  · exact ih f.2 u' hu
noncomputable def inV (x : V) (xs : List V) : Bool := xs.any λ y => eqV y x
def rIn (K : Fg) (neg : Bool) : R2 := λ x y H Q => ∃ p xs, y = .ref p /\ (SqL K H p xs \/ SqT K H p xs) /\ flatV x = true /\ xs.all flatV = true /\ Q (.bl (if neg then !inV x xs else inV x xs)) H
theorem op_in_seq : OpR X (compareOp .In) (rIn X.K false) := by
 intro pins s σ H x y v u Q I rx ry h
 obtain ⟨p, xs, rfl, hq, fx, fs, q⟩ := h
 cases ry
 rcases hq with hq | hq
 · obtain ⟨its, r, pl, hz⟩ := I.list hq
   refine SeqAt.in_listAt (eqU x) pl.isList (λ w hw => mem_eqAt rx fx r fs w (by simpa using hw)) ⟨.bl _, H, I, rfl, ?_⟩
   rw [show its.toArray.any (eqU x) = its.any (eqU x) by simp, any_eqU r fs]
   exact q
 · obtain ⟨its, r, pl, hz⟩ := I.tuple hq
   refine SeqAt.in_tupleAt (eqU x) pl (λ w hw => mem_eqAt rx fx r fs w (by simpa using hw)) ⟨.bl _, H, I, rfl, ?_⟩
   rw [show its.toArray.any (eqU x) = its.any (eqU x) by simp, any_eqU r fs]
   exact q
theorem call_list_of : CallR X (.type "list") (λ xs H Q => ∃ p ys, xs = [.ref p] /\ (SqL X.K H p ys \/ SqT X.K H p ys) /\ ∀ l, H l = none -> Q (.ref l) (upd H l (.lst ys))) := by
 intro pins s σ H xs us Q I r h
 obtain ⟨p, ys, rfl, hq, q⟩ := h
 obtain ⟨u, rfl, rx⟩ := vals1 r
 cases rx
 have fin : ∀ (its : List Value), Vals ys its -> ys.length <= sizeLine -> ∀ (h' : Heap) (c' : Nat), (∀ b o', s.heap.get? b = some o' -> h'.get? b = some o') ->
  h'.get? s.heap.objs.size = some { cls := .type "list", dict := none, data := .seq its.toArray c', slots := #[] } -> EP X pins σ Q (.ref s.heap.objs.size) { s with heap := h' } := λ its r' hz h' c' kp e =>
  ⟨.ref s.heap.objs.size, _, I.laid (t' := s.toks) kp (Q4 _) (show ObjOk X.prog X.w _ h' _ (.lst ys) from ⟨hz, its, c', r', e⟩), rfl, q _ (I.hok.fresh (Q4 _))⟩
 rcases hq with hq | hq
 · obtain ⟨its, r', pl, hz⟩ := I.list hq
   have hlen := r'.length
   obtain ⟨o, ho, hc, n, hd⟩ := pl.isList
   exact call_list_seq p (.inl rfl) ho hc hd (λ h' c' kp e => fin its r' hz h' c' kp e) (by simp only [zM] <;> omega)
 · obtain ⟨its, r', pl, hz⟩ := I.tuple hq
   have hlen := r'.length
   obtain ⟨o, ho, hc, n, hd⟩ := pl
   exact call_list_seq p (.inr rfl) ho hc hd (λ h' c' kp e => fin its r' hz h' c' kp e) (by simp only [zM] <;> omega)
def tyV (K : Fg) (T : String) (x : V) (H : Hp) : Prop := match x with
 | .str _ => T = "str"
 | .int _ => T = "int"
 | .ref p => (T = "list" /\ ∃ xs, SqL K H p xs) \/ (T = "tuple" /\ ∃ o, K.lookup p = some o /\ o.cls = .type "tuple" /\ o.dict = none) \/
  (T = "dict" /\ ((∃ kvs, H p = some (.dK kvs)) \/ ∃ kvs, H p = some (.dT kvs))) \/ (T = "set" /\ ∃ S n, H p = some (.set S n))
 | _ => False
theorem tyV_is {pins : List (Addr × Obj)} {σ : St} {H : Hp} {s : Shared} {T : String} {x : V} {v : Value} (I : Inv X pins σ H s) (r : RelV x v) (ty : tyV X.K T x H) :
 s.TypeIs v T /\ ∀ a, v = .ref a -> ∃ ob, s.heap.get? a = some ob /\ ob.dict = none := by
 cases x with
 | str z =>
  obtain ⟨t, rfl⟩ := r
  cases (show T = "str" from ty)
  exact ⟨typeIs_str s z t, λ _ e => nomatch e⟩
 | int i =>
  obtain ⟨t, rfl⟩ := r
  cases (show T = "int" from ty)
  exact ⟨typeIs_int s i t, λ _ e => nomatch e⟩
 | ref p =>
  cases r
  rcases ty with ⟨rfl, xs, hq⟩ | ⟨rfl, o, hk, hc, hd⟩ | ⟨rfl, hk⟩ | ⟨rfl, S, n, hk⟩
  · obtain ⟨its, _, pl, _⟩ := I.list hq
    refine ⟨pl.isList.typeIs, λ a e => ?_⟩
    cases e
    obtain ⟨o, n, e, c, hd, _⟩ := pl
    exact ⟨o, e, hd⟩
  · refine ⟨⟨o, I.kIn p o hk, hc⟩, λ a e => ?_⟩
    cases e
    exact ⟨o, I.kIn _ o hk, hd⟩
  · have z : ∃ o, s.heap.get? p = some o /\ o.ExactDict := by
     rcases hk with ⟨kvs, hk⟩ | ⟨kvs, hk⟩
     · obtain ⟨_, _, _, _, o, _, _, e, ex, _⟩ := I.hok p _ hk
       exact ⟨o, e, ex⟩
     · obtain ⟨_, _, _, _, o, _, _, e, ex, _⟩ := I.hok p _ hk
       exact ⟨o, e, ex⟩
    obtain ⟨o, e, ex⟩ := z
    refine ⟨⟨o, e, ex.1⟩, λ a e2 => ?_⟩
    cases e2
    exact ⟨o, e, ex.2.1⟩
  · obtain ⟨o, _, _, _, e, ex, _⟩ := I.hok p _ hk
    refine ⟨⟨o, e, ex.1⟩, λ a e2 => ?_⟩
    cases e2
    exact ⟨o, e, ex.2.1⟩
 | _ => exact False.elim ty
def tBM0 (K : Fg) (T : String) (r : V -> List V -> Hp -> VK -> Prop) (to : TE) : TE := λ σ H Q => to σ H λ x H1 => tyV K T x H1 /\ r x [] H1 Q
def tBM (K : Fg) (T : String) (r : V -> List V -> Hp -> VK -> Prop) (to : TE) (t : TA) : TE := λ σ H Q => to σ H λ x H1 => tyV K T x H1 /\ t σ H1 λ xs H2 => r x xs H2 Q
variable {o e : Expr} {es : List Expr} {to : TE} {t : TA} {name : Str} {apos cpos : Pos} {T id : String} {r : V -> List V -> Hp -> VK -> Prop}
theorem pe_bm0 (pa : PlainAttrs T) (slot : Slot T name id) (hty : typeOf (.builtin id) = pure (.type "method_descriptor")) (hm : MtR X id r) (ho : PE X o to)
 (hbase : attributeBase o name X.env (eval o X.env) = eval o X.env := by rfl) (hline : (apos.endLine == cpos.line) = true := by rfl) : PE X (.Call (.Attribute o name apos) [] [] cpos) (tBM0 X.K T r to) := by
 intro pins s σ H Q I h
 refine wpAny_Call_method0_late hbase hline (thn (ho pins s σ H _ I h) λ v s1 q_ => ?_)
 obtain ⟨x, H1, I1, r1, ty, q1⟩ := q_
 obtain ⟨h1, h2⟩ := tyV_is I1 r1 ty
 exact ⟨T, id, pa, slot, hty, h1, h2, Calls.callWith_builtin rfl (PySem.evalArgs_none (hm pins s1 σ H1 x [] v [] Q I1 r1 .nil q1))⟩
theorem pe_bm (pa : PlainAttrs T) (slot : Slot T name id) (hty : typeOf (.builtin id) = pure (.type "method_descriptor")) (hm : MtR X id r) (ho : PE X o to) (ha : PA X (e :: es) t)
 (hbase : attributeBase o name X.env (eval o X.env) = eval o X.env := by rfl)
 (hfew : ((backTo cpos (starEach (e :: es) X.env)).all (λ x => !x.1) && (backToKw cpos (keywordEach [] X.env)).all (λ x => x.1.isSome)
  && decide ((e :: es).length + ([] : List Keyword).length + (if ([] : List Keyword).isEmpty then 0 else 1) < 30)) = true := by rfl)
 (hline : (apos.endLine == cpos.line) = true := by rfl) (hs : starEach (e :: es) X.env = (false, eval e X.env) :: starEach es X.env := by rfl) (hplain : (backTo cpos (starEach es X.env)).any (·.1) = false := by rfl) :
 PE X (.Call (.Attribute o name apos) (e :: es) [] cpos) (tBM X.K T r to t) := by
 intro pins s σ H Q I h
 refine wpAny_Call_method_late hbase hfew hline rfl (thn (ho pins s σ H _ I h) λ v s1 q_ => ?_)
 obtain ⟨x, H1, I1, r1, ty, q1⟩ := q_
 obtain ⟨h1, h2⟩ := tyV_is I1 r1 ty
 refine ⟨T, id, pa, slot, hty, h1, h2, ?_⟩
 have hA := ha cpos pins s1 σ H1 _ I1 q1
 rw [hs] at hA ⊢
 refine Calls.callWith_builtin (by show (false || (backTo cpos (starEach es X.env)).any (·.1)) = false; rw [hplain] <;> rfl) (Calls.evalArgs_plain ?_)
 exact thn hA λ us s2 q_ => by obtain ⟨vs, H2, I2, r2, q2⟩ := q_; exact hm pins s2 σ H2 x vs v us Q I2 r1 r2 q2
end
def MtM (X : Cx) (id : String) (r : V -> List V -> Hp -> VK -> Prop) : Prop :=
 ∀ (pins : List (Addr × Obj)) (s : Shared) (σ : St) (H : Hp) (x : V) (xs : List V) (v : Value) (us : List Value) (Q : VK), Inv X pins σ H s -> RelV x v -> Vals xs us -> r x xs H Q ->
  wpAny (model X.prog X.w) X.A (call (.builtin id) (v :: us)) (EP X pins σ Q) X.xe s
theorem Vals.one : ∀ {x : V} {us : List Value}, Vals [x] us -> ∃ u, us = [u] /\ RelV x u
 | _, _, h => by cases h with | cons r t => cases t; exact ⟨_, rfl, r⟩
theorem Vals.two : ∀ {x y : V} {us : List Value}, Vals [x, y] us -> ∃ u v, us = [u, v] /\ RelV x u /\ RelV y v
 | _, _, _, h => by
  cases h with
  | cons r t =>
   obtain ⟨v, e, q⟩ := Vals.one t
   subst e
   exact ⟨_, _, rfl, r, q⟩
theorem Vals.zero : ∀ {us : List Value}, Vals [] us -> us = []
 | _, .nil => rfl
theorem Vals.dropLast {xs : List V} {us : List Value} (h : Vals xs us) : Vals xs.dropLast us.dropLast := by
 induction h with
 | nil => exact .nil
 | cons r t ih =>
  cases t with
  | nil => exact .nil
  | cons q t' => exact .cons r ih
theorem erase_last {α : Type} (l : List α) : l.eraseIdx (l.length - 1) = l.dropLast := by
 induction l with
 | nil => rfl
 | cons a r ih =>
  cases r with
  | nil => rfl
  | cons b r =>
   have e : (a :: b :: r).length - 1 = ((b :: r).length - 1) + 1 := by
    have h1 : (a :: b :: r).length = r.length + 2 := rfl
    have h2 : (b :: r).length = r.length + 1 := rfl
    omega
   rw [e, List.eraseIdx_cons_succ, ih]
   all_goals rfl
section
variable {X : Cx} {pins : List (Addr × Obj)} {σ : St} {H : Hp} {s : Shared} {l b : Addr} {xs ys zs : List V}
theorem Inv.lset {its its' : List Value} {n : Nat} {f : Array Value -> Array Value} {t' : Nat} (I : Inv X pins σ H s) (hH : H l = some (.lst xs))
 (e : s.heap.get? l = some { cls := .type "list", data := .seq its.toArray n }) (hf : f its.toArray = its'.toArray) (hv : Vals ys its') (hz : ys.length <= sizeLine) :
 Inv X pins σ (upd H l (.lst ys)) { s with heap := s.heap.update l (Obj.mapSeq f), toks := t' } := by
 have q := PySem.IsL.update e f
 rw [hf] at q
 refine I.write (x := l) (e := l) (by rw [hH]; exact trivial) (.inl rfl) (λ b' u hb hu => (hUo s.heap (Obj.mapSeq f) (Ne.symm hb)).trans hu) ⟨_, q⟩ ?_
 exact ⟨hz, its', _, hv, q⟩
theorem Inv.lnew {its : List Value} {t' : Nat} (I : Inv X pins σ H s) (hv : Vals ys its) (hz : ys.length <= sizeLine) :
 Inv X pins σ (upd H s.heap.objs.size (.lst ys)) { s with heap := s.heap.push { cls := .type "list", data := .seq its.toArray }, toks := t' } :=
 I.laid (λ _ _ q => hPo _ q) (Q4 _) ⟨hz, its, 0, hv, hPs _ rfl⟩
theorem Inv.fresh (I : Inv X pins σ H s) : H s.heap.objs.size = none := I.hok.fresh (Q4 _)
theorem Inv.lstM (I : Inv X pins σ H s) (hH : H l = some (.lst xs)) : xs.length <= sizeLine /\ ∃ (its : List Value) (n : Nat), Vals xs its /\ xs.length = its.length /\ s.heap.get? l = some { cls := .type "list", data := .seq its.toArray n } := by
 obtain ⟨z, its, n, r, e⟩ := I.hok l _ hH
 exact ⟨z, its, n, r, r.length, e⟩
theorem notLongL {n : Nat} (h : n <= sizeLine) : Builtin.List.listTooLong n = false := by
 unfold Builtin.List.listTooLong
 exact decide_eq_false (by omega)
end
section
variable {X : Cx}
def rAppend : V -> List V -> Hp -> VK -> Prop := λ x vs H Q => ∃ l xs y, x = .ref l /\ vs = [y] /\ H l = some (.lst xs) /\ xs.length < sizeLine /\ Q .non (upd H l (.lst (xs ++ [y])))
theorem mt_append : MtM X "list.append" rAppend := by
 intro pins s σ H x vs v us Q I rx rv h
 obtain ⟨l, xs, y, rfl, rfl, hH, hz, q⟩ := h
 cases rx
 obtain ⟨u, rfl, ru⟩ := rv.one
 obtain ⟨z, its, n, r, hl, e⟩ := I.lstM hH
 refine call_meets F.slot_list_append ⟨_, e, rfl⟩ F.entry_list_append (F.args_list_append_2 _ _) (PySem.list_append l its.toArray n u (by rw [zM]; omega)) ⟨e, ?_⟩
 refine ⟨.non, _, I.lset (its' := its ++ [u]) hH e (by simp) (r.append (.cons ru .nil)) ?_, rfl, q⟩
 rw [zQ, List.length_singleton]
 omega
def rExtend : V -> List V -> Hp -> VK -> Prop := λ x vs H Q => ∃ l b xs zs, x = .ref l /\ vs = [.ref b] /\ H l = some (.lst xs) /\ H b = some (.lst zs) /\ xs.length + zs.length <= sizeLine /\ Q .non (upd H l (.lst (xs ++ zs)))
theorem mt_extend : MtM X "list.extend" rExtend := by
 intro pins s σ H x vs v us Q I rx rv h
 obtain ⟨l, b, xs, zs, rfl, rfl, hH, hB, hz, q⟩ := h
 cases rx
 obtain ⟨u, rfl, ru⟩ := rv.one
 cases ru
 obtain ⟨z, its, n, r, hl, e⟩ := I.lstM hH
 obtain ⟨z2, its2, n2, r2, hl2, e2⟩ := I.lstM hB
 have hsz : its.toArray.size + its2.toArray.size <= sizeLine := by rw [zM, zM]; omega
 have hlong : ¬ (!its.toArray.isEmpty && Builtin.List.listTooLong (its.toArray.size + its2.toArray.size)) = true := by
  rw [notLongL hsz, Bool.and_false]
  exact Qa
 refine call_meets F.slot_list_extend ⟨_, e, rfl⟩ F.entry_list_extend (F.args_list_extend_2 _ _)
  (AutoSeq1.list_extend_list_list_0 l its.toArray n b its2.toArray n2 hlong (by rw [zM]; omega) (by omega)) ⟨e, e2, ?_⟩
 refine ⟨.non, _, I.lset (its' := its ++ its2) hH e (by simp) (r.append r2) ?_, rfl, q⟩
 rw [zQ]
 omega
def rPop : V -> List V -> Hp -> VK -> Prop := λ x vs H Q => ∃ l xs y, x = .ref l /\ vs = [] /\ H l = some (.lst xs) /\ xs[xs.length - 1]? = some y /\ Q y (upd H l (.lst xs.dropLast))
theorem mt_pop : MtM X "list.pop" rPop := by
 intro pins s σ H x vs v us Q I rx rv h
 obtain ⟨l, xs, y, rfl, rfl, hH, hy, q⟩ := h
 cases rx
 have hus := rv.zero
 subst hus
 obtain ⟨z, its, n, r, hl, e⟩ := I.lstM hH
 obtain ⟨u, hu, ru⟩ := r.get hy
 have hy' : its.toArray[its.toArray.size - 1]? = some u := by
  show its.toArray[its.length - 1]? = some u
  rw [<- Array.getElem?_toList, <- hl]
  exact hu
 refine call_meets F.slot_list_pop ⟨_, e, rfl⟩ F.entry_list_pop (F.args_list_pop_1 _) (MeetsSeq.list_pop_last l its.toArray n u hy' (by rw [zM]; omega)) ⟨e, ?_⟩
 refine ⟨y, _, I.lset (its' := its.dropLast) hH e ?_ r.dropLast ?_, ru, q⟩
 · show its.toArray.eraseIdxIfInBounds (its.toArray.size - 1) = its.dropLast.toArray
   rw [zM, List.eraseIdxIfInBounds_toArray, erase_last]
 · rw [List.length_dropLast]
   omega
def rCat : R2 := λ x y H Q => ∃ l b xs zs, x = .ref l /\ y = .ref b /\ H l = some (.lst xs) /\ H b = some (.lst zs) /\ xs.length + zs.length <= sizeLine /\ ∀ p, H p = none -> Q (.ref p) (upd H p (.lst (xs ++ zs)))
theorem op_cat : OpR X (binaryOp .Add) rCat := by
 intro pins s σ H x y v u Q I rx ry h
 obtain ⟨l, b, xs, zs, rfl, rfl, hH, hB, hz, q⟩ := h
 cases rx
 cases ry
 obtain ⟨z, its, n, r, hl, e⟩ := I.lstM hH
 obtain ⟨z2, its2, n2, r2, hl2, e2⟩ := I.lstM hB
 refine PySem.P.add_list e e2 ?_ (by rw [zM, zM]; omega)
 have ea : its.toArray ++ its2.toArray = (its ++ its2).toArray := by simp
 rw [ea]
 exact ⟨.ref _, _, I.lnew (t' := s.toks) (r.append r2) (by rw [zQ]; omega), rfl, q _ I.fresh⟩
end
section
variable {prog : Program} {w : World} {A : Around} {E : Value -> Shared -> Prop} {s : Shared}
end
section
variable {X : Cx}
end
end L2
namespace Att
open PySem PySem.W PySem.Calls PyProof.Rows
theorem ints_of_wellAll {P : Params} {h : Heap} : ∀ (ns : List Int) (vs : List Value), WellAll P h vs (ns.map WData.int) -> IntsAre vs ns := by
 intro ns
 induction ns with
 | nil =>
  intro vs w
  rw [zL] at w
  cases w
  exact .nil
 | cons n ns ih =>
  intro vs w
  rw [zI] at w
  cases w with
  | cons a b =>
   cases a
   exact .cons _ _ (ih _ b)
theorem script_of {l : OpenLaw} {n : Nat} (hn : l.most = some n) {P : Params} {h : Heap} {args : List WData} {vals : List Value}
 (hpre : l.row.toRowW.claim.pre args = true) (hwl : WellAll P h vals args) :
 ∃ a vs ns, vals = [Value.ref a] /\ args = [WData.list (ns.map WData.int)] /\ h.get? a = some { cls := .type "list", data := .seq vs.toArray } /\ IntsAre vs ns /\ ns.length <= n := by
 have hsh : WShape.hasAll [] args [.list .int] = true := (pre_splitW hpre).1
 have hc : l.pre.holds [] { args := args } = true := (pre_splitW hpre).2
 obtain ⟨d, r, rfl, h1, h2⟩ := hasAllW_cons hsh
 obtain rfl := hasAllW_nil h2
 obtain ⟨xs, rfl, h3⟩ := hasW_list h1
 obtain ⟨ns, rfl⟩ := items_int h3
 have hlen : ns.length <= n := by
  unfold OpenLaw.pre at hc
  have h4 : (WTm.not (.lt (.lit (.int (n : Int))) (.len (.arg 0)))).holds [] { args := [.list (ns.map .int)] } = true := by
   have h4 := (holds_andW hc).1
   rw [hn] at h4
   exact h4
  have h5 := condW_of h4 (w_not (w_lt w_lit (w_len_list (w_arg rfl))))
  rw [zJ] at h5
  refine Nat.le_of_not_lt λ q => ?_
  have q' : (n : Int) < ((ns.length : Nat) : Int) := by omega
  first
   | (rw [decide_eq_true q'] at h5; exact absurd h5 (by decide))
   | (simp at h5; omega)
 cases hwl with
 | cons w1 w2 =>
  cases w2
  cases w1 with
  | list ho hall => exact ⟨_, _, ns, rfl, rfl, ho, ints_of_wellAll ns _ hall, hlen⟩
theorem post_true (l : OpenLaw) (args : List WData) : l.row.toRowW.claim.post args (.bool true) args = true :=
 postW_of (r := l.row.toRowW) (X := (true == true))
  (show WShape.has [] (.bool true) .bool = true by first | rfl | decide | simp [WShape.has, WShape.arms, WShape.armsAll])
  (show (WTm.eq .res (.lit (.bool true))).value [] { args := args, res := some (.bool true), after := args } = some (.bool (true == true)) from w_eq_bool (w_res rfl) w_lit) rfl
theorem attach_call {l : OpenLaw} {n : Nat} {q : Program} {loose : List Str} {XP : (Str -> Option Value) -> Heap -> Prop} {YP : World -> Heap -> Prop} {d : DefRec}
 (hn : l.most = some n) (hdf : d.params.defaults = [])
 (call : ∀ (w : World) (s₀ s₁ : Shared) (mg mb : Str -> Option Value) (fa : Addr) (o : Obj) (pm cd doc : Value) (a : Addr) (vs : List Value) (ns : List Int),
  Ground q loose [] XP w s₀ mg mb s₁.heap -> YP w s₁.heap ->
  s₁.heap.get? fa = some o -> o.data = .func (docDef d.name d.params d.body d.scope pm cd doc) -> s₁.heap.CodeRec cd d.name -> mg d.name = some (.ref fa) ->
  s₁.heap.get? a = some { cls := .type "list", data := .seq vs.toArray } -> IntsAre vs ns -> ns.length <= n -> s₁.gens = #[] ->
  codeAny (model l.prog w) callerA (.call (.ref fa) ⟨[.ref a], []⟩) (λ r s' => r = .ok (.ret (.bool true)) /\ OldK s₁.heap s'.heap /\ s'.os = s₁.os /\ AllBare s'.gens) s₁) :
 WalkO q loose XP YP l.row.toRowW d [] (λ f vs => PySem.call f vs) := by
 intro w s₀ s₁ mg mb G Y fa o pm cd doc dV kV ho hd hcd hD hmg hg args vals as hpre hlay hrd hwl hlo
 obtain rfl : dV = .none := Dflts.none hD hdf
 obtain rfl : kV = .none := Dflts.noKw hD
 obtain ⟨a, vs, ns, rfl, rfl, hobj, hints, hlen⟩ := script_of hn hpre hwl
 refine enter_call (codeAny_mono (call w s₀ s₁ mg mb fa o pm cd doc a vs ns G Y ho (fd_plain hd) hcd hmg hobj hints hlen hg) λ r s' hq => ?_)
 obtain ⟨rfl, h2, h3, h4⟩ := hq
 exact ⟨.inl ⟨.bool true, .bool true, [], rfl, λ _ => rfl, .bool true, post_true l _, λ _ => ⟨List.Pairwise.nil, λ _ hm => (nomatch hm)⟩⟩, h2, h3, h4⟩
section
variable {prog : Program} {w : World} {A : Around} {E : Value -> Shared -> Prop} {s : Shared} {K : Frag}
end
end Att
namespace L2
open PySem PySem.Spec PyProof.Rows
theorem vals_ints {vs : List Value} {ns : List Int} (h : IntsAre vs ns) : Vals (ns.map V.int) vs := by
 induction h with
 | nil => exact .nil
 | cons n t h ih => exact .cons ⟨t, rfl⟩ ih
noncomputable def defArgs (s : Stmt) : Arguments := match s with
 | .FunctionDef _ a _ _ _ _ _ _ _ _ => a
 | _ => { posonlyargs := [], args := [], vararg := none, kwonlyargs := [], kw_defaults := [], kwarg := none, defaults := [] }
noncomputable def defBody (s : Stmt) : List Stmt := match s with
 | .FunctionDef _ _ b _ _ _ _ _ _ _ => b
 | _ => []
noncomputable def defScope (s : Stmt) : Scope := match s with
 | .FunctionDef _ _ _ _ _ _ sc _ _ _ => sc
 | _ => { kind := .function, names := [], isGenerator := false, isCoroutine := false }
abbrev CX0 : CXT := λ _ _ _ _ _ _ => False
abbrev E0 : XK := λ _ _ _ => False
theorem pass0 {X : Cx} : Passes CX0 X E0 := λ _ _ _ _ _ _ _ h => h.elim
structure Fun (K : Fg) (x qual : Str) (st : Stmt) (f : Addr) (fd : FuncData) : Prop where
 ex : ∃ (oc : Value) (od : Option Addr) (kV doc pm : Value) (an : Option Addr) (cdv ct : Value) (osl : Array (Option Value)),
  fd = PySem.W.fnOf x qual (defArgs st) (defBody st) (defScope st) .none kV doc pm an cdv ct /\ K.lookup f = some ⟨oc, od, .func fd, osl⟩ /\ PySem.W.codeIn K cdv qual = true
 kp : PySem.W.keepIn K (.ref f) = true
section
variable {P : Program} {w : World} {K : Fg} {mg : Str -> Option Value} {base : Heap}
theorem Fun.ok {x qual : Str} {st : Stmt} {f : Addr} {fd : FuncData} {N ps : List Str} {k : Nat} {sp : Sp} (F : Fun K x qual st f fd) (S : FnScope N ps (defScope st)) (len : ∀ vs H Q E, sp vs H Q E -> vs.length = ps.length)
 (hbody : ∀ (cdv : Value) (A : Around) (outer : List Env) (s : Shared) (H : Hp) (vs : List V) (Q : VK) (E : XK), Room k (A.deeper (envOfC qual (defScope st) s.heap.objs.size f cdv)) -> sp vs H Q E ->
  ∃ t, PSs (cxOf CX0 P w K mg base N qual (defScope st) f cdv A outer s H E).nox (defBody st) t /\ t { nx := λ _ H' => Q .non H', rt := Q } (start N vs) H) : FnOk P w K mg base CX0 (k + 1) f fd ps sp := by
 obtain ⟨oc, od, kV, doc, pm, an, cdv, ct, osl, rfl, lk, hcd⟩ := F.ex
 refine fn_of lk hcd S len λ A outer s H vs Q E hr hsp => ?_
 obtain ⟨t, h, q⟩ := hbody cdv A outer s H vs Q E hr hsp
 exact ⟨t, h.nox, q⟩
theorem Fun.binds {x qual : Str} {st : Stmt} {f : Addr} {fd : FuncData} {ps : List Str} (F : Fun K x qual st f fd)
 (h : ∀ (kV doc pm : Value) (an : Option Addr) (cdv ct : Value) (us : List Value), us.length = ps.length -> bindArgs (PySem.W.fnOf x qual (defArgs st) (defBody st) (defScope st) .none kV doc pm an cdv ct) ⟨us, []⟩ = pure (ps.zip us)) : Binds K fd ps [] := by
 obtain ⟨oc, od, kV, doc, pm, an, cdv, ct, osl, rfl, lk, hcd⟩ := F.ex
 exact .all (h kV doc pm an cdv ct)
theorem fun_mk {x qual : Str} {st : Stmt} {f : Addr} {oc : Value} {od an : Option Addr} {osl : Array (Option Value)} {kV doc pm cdv ct : Value} (l : K.lookup f = some ⟨oc, od, .func (PySem.W.fnOf x qual (defArgs st) (defBody st) (defScope st) .none kV doc pm an cdv ct), osl⟩)
 (c : PySem.W.codeIn K cdv qual = true) (k : PySem.W.keepIn K (.ref f) = true) : Fun K x qual st f (PySem.W.fnOf x qual (defArgs st) (defBody st) (defScope st) .none kV doc pm an cdv ct) := ⟨⟨oc, od, kV, doc, pm, an, cdv, ct, osl, rfl, l, c⟩, k⟩
end
theorem small1000 {n : Nat} (h : n <= 1000) : n < sizeLine := Nat.lt_of_le_of_lt h (by decide)
section
variable {X : Cx}
theorem pv (i : Nat) {x : Str} {pos : Pos} (hN : X.N[i]? = some x := by rfl) (hv : Vis X.env.scope x := by first | exact Or.inl rfl | exact Or.inr (Or.inl rfl) | exact Or.inr (Or.inr rfl)) (hd : (x == ("__debug__" : Str)) = false := by decide)
 (hcd : (x == ("__classdict__" : Str)) = false := by decide) : PE X (.Name x pos) (tVar i) := pe_var hN hv hd hcd
end
theorem iteF {A B : Prop} (h : B) : if false = true then A else B := by
 rw [if_neg Qa]
 exact h
theorem iteT {A B : Prop} (h : A) : if true = true then A else B := by
 rw [if_pos rfl]
 exact h
def Same (H H' : Hp) : Prop := ∀ b o, H b = some o -> H' b = some o
theorem Same.refl (H : Hp) : Same H H := λ _ _ h => h
theorem Same.trans {H H1 H2 : Hp} (a : Same H H1) (b : Same H1 H2) : Same H H2 := λ c o h => b c o (a c o h)
theorem Same.free {H H' : Hp} (e : Same H H') {l : Addr} (h : H' l = Option.none) : H l = Option.none := by
 cases q : H l with
 | none => rfl
 | some o =>
  rw [e l o q] at h
  cases h
theorem Same.seq {K : Fg} {H H' : Hp} {a : Addr} {xs : List V} (e : Same H H') (h : SqL K H a xs) : SqL K H' a xs := by
 rcases h with (h | ⟨o, h⟩) | h
 · exact .inl (.inl (e _ _ h))
 · exact .inl (.inr ⟨o, e _ _ h⟩)
 · exact .inr h
noncomputable def clOf (env : Env) : List (Str × NameKind) -> List (Str × Addr) -> List (Str × Addr)
 | [], acc => acc
 | (n, k) :: r, acc => if k == .free then clOf env r ((n, (env.cells.lookup n).getD 0) :: acc) else clOf env r acc
theorem clos_go {env : Env} : ∀ (names : List (Str × NameKind)) (acc : List (Str × Addr)), (∀ y ∈ names, y.2 = .free -> ∃ c, env.cells.lookup y.1 = some c) ->
 (forIn (m := Sem) names acc λ (x : Str × NameKind) cs => (if (x.2 == .free) = true then do let c <- cellOf env x.1; pure (ForInStep.yield ((x.1, c) :: cs)) else pure (ForInStep.yield cs))) = pure (clOf env names acc)
 | [], acc, _ => rfl
 | (n, k) :: r, acc, h => by
  have hr : ∀ y ∈ r, y.2 = .free -> ∃ c, env.cells.lookup y.1 = some c := λ y hy => h y (lMc _ hy)
  rw [List.forIn_cons]
  by_cases e : k = .free
  · subst e
    obtain ⟨c, hc⟩ := h (n, .free) lMs rfl
    have hc' : env.cells.lookup n = some c := hc
    have e1 : cellOf env n = pure c := by unfold cellOf; rw [hc']
    show ((if (NameKind.free == NameKind.free) = true then _ else _) >>= _) = pure (if (NameKind.free == NameKind.free) = true then _ else _)
    rw [if_pos (by rfl), if_pos (by rfl), e1, hc']
    exact clos_go r _ hr
  · have e' : (k == NameKind.free) = false := by simpa using e
    show ((if (k == NameKind.free) = true then _ else _) >>= _) = pure (if (k == NameKind.free) = true then _ else _)
    rw [e', if_neg (by simp), if_neg (by simp)]
    exact clos_go r _ hr
theorem closureFor_eq {scope : Scope} {env : Env} (h : ∀ y ∈ scope.names, y.2 = .free -> ∃ c, env.cells.lookup y.1 = some c) : closureFor scope env = pure (clOf env scope.names []) := by
 have q := clos_go scope.names [] h
 unfold closureFor
 show (forIn (m := Sem) scope.names [] _ >>= λ r => pure r) = _
 refine Eq.trans ?_ q
 exact bind_pure _
theorem clOf_mem {env : Env} : ∀ {names : List (Str × NameKind)} {acc : List (Str × Addr)} {x : Str} {c : Addr}, (∀ y ∈ names, y.2 = .free -> ∃ c, env.cells.lookup y.1 = some c) -> (x, c) ∈ clOf env names acc -> (x, c) ∈ acc \/ env.cells.lookup x = some c
 | [], acc, x, c, _, m => .inl m
 | (n, k) :: r, acc, x, c, h, m => by
  have hr : ∀ y ∈ r, y.2 = .free -> ∃ c, env.cells.lookup y.1 = some c := λ y hy => h y (lMc _ hy)
  by_cases e : k = .free
  · subst e
    obtain ⟨d, hd⟩ := h (n, .free) lMs rfl
    have hd' : env.cells.lookup n = some d := hd
    have m' : (x, c) ∈ clOf env r ((n, (env.cells.lookup n).getD 0) :: acc) := m
    rcases clOf_mem hr m' with q | q
    · rcases Qb.mp q with q | q
      · rw [hd'] at q
        injection q with q1 q2
        subst q1 q2
        exact .inr hd'
      · exact .inl q
    · exact .inr q
  · have e' : (k == NameKind.free) = false := by simpa using e
    have m' : (x, c) ∈ (if (k == NameKind.free) = true then clOf env r ((n, (env.cells.lookup n).getD 0) :: acc) else clOf env r acc) := m
    rw [e', if_neg (by simp)] at m'
    exact clOf_mem hr m'
theorem clOf_has {env : Env} : ∀ {names : List (Str × NameKind)} {acc : List (Str × Addr)} {x : Str}, ((x, NameKind.free) ∈ names \/ ∃ c, (x, c) ∈ acc) -> ∃ c, (x, c) ∈ clOf env names acc
 | [], acc, x, h => by
  rcases h with h | h
  · simp at h
  · exact h
 | (n, k) :: r, acc, x, h => by
  by_cases e : k = .free
  · subst e
    show ∃ c, (x, c) ∈ clOf env r ((n, (env.cells.lookup n).getD 0) :: acc)
    refine clOf_has ?_
    rcases h with h | ⟨c, h⟩
    · rcases Qb.mp h with h | h
      · injection h with h1 _
        subst h1
        exact .inr ⟨_, lMs⟩
      · exact .inl h
    · exact .inr ⟨c, lMc _ h⟩
  · have e' : (k == NameKind.free) = false := by simpa using e
    show ∃ c, (x, c) ∈ (if (k == NameKind.free) = true then clOf env r ((n, (env.cells.lookup n).getD 0) :: acc) else clOf env r acc)
    rw [e', if_neg (by simp)]
    refine clOf_has ?_
    rcases h with h | h
    · rcases Qb.mp h with h | h
      · injection h with _ h2
        exact absurd h2.symm e
      · exact .inl h
    · exact .inr h
theorem lookup_of_mem {β : Type} : ∀ {l : List (Str × β)} {x : Str} {c : β}, (x, c) ∈ l -> ∃ d, l.lookup x = some d
 | (n, k) :: r, x, c, h => by
  by_cases e : x = n
  · subst e; exact ⟨k, by simp⟩
  · rcases Qb.mp h with q | q
    · injection q with q1 _; exact absurd q1 e
    · obtain ⟨d, hd⟩ := lookup_of_mem q
      exact ⟨d, by rw [Q5]; have : (x == n) = false := by simpa using e
                   rw [this]; exact hd⟩
def PTs (X : Cx) (cs : List Expr) (t : TT) : Prop :=
 ∀ (pins : List (Addr × Obj)) (s : Shared) (σ : St) (H : Hp) (Q : Bool -> Hp -> Prop), Inv X pins σ H s -> t σ H Q ->
  wpAny (model X.prog X.w) X.A (forIn cs true λ c r => if r = true then do let ok <- isTrue c X.env (eval c X.env); pure (ForInStep.yield ok) else pure (ForInStep.yield r)) (TP X pins σ Q) X.xe s
def tYes : TT := λ _ H Q => Q true H
theorem pts_nil {X : Cx} : PTs X [] tYes := λ pins s σ H Q I h => wpAny_tests_nil ⟨H, I, h⟩
theorem pts_one {X : Cx} {c : Expr} {t : TT} (h : PT X c t) : PTs X [c] t := λ pins s σ H Q I q => wpAny_tests_one (h pins s σ H Q I q)
def st0 (n : Nat) (fr : List (Str × Nat)) (σ : St) : St := List.replicate n none ++ fr.map λ p => (σ[p.2]?).join
def tComp (n : Nat) (fr : List (Str × Nat)) (wi : TI) (g : TG) (tc : TT) (te : TE) : TE := λ σ H Q => wi σ H λ J H1 => ∀ acc, H1 acc = none ->
 ∃ W : Nat -> Nat -> St -> Hp -> Prop, (∃ m, W 0 m (st0 n fr σ) (upd H1 acc (.lst []))) /\ ∀ i m σ' H', W i m σ' H' ->
  (J.stop i H' /\ Q (.ref acc) H') \/ (J.go i H' /\ ∃ Nx : St -> Hp -> Prop, (∀ σ2 H2, Nx σ2 H2 -> ∃ m', m' < m /\ W (i + 1) m' σ2 H2) /\
   ∀ x H2, J.yld i H' x H2 -> g x σ' H2 λ σ2 H3 => tc σ2 H3 λ b H4 => if b = true then te σ2 H4 λ y H5 => ∃ ys, H5 acc = some (.lst ys) /\ ys.length < sizeLine /\ Nx σ2 (upd H5 acc (.lst (ys ++ [y]))) else Nx σ2 H4)
section
variable {prog : Program} {w : World} {A : Around} {R : Result -> Shared -> Prop} {s : Shared}
theorem compLoop_go {elt target iter : Expr} {ifs : List Expr} {scope : Scope} {pos : Pos} {it acc : Value} {env : Env} (I : Nat -> Shared -> Prop)
 (turn : ∀ n s, I n s -> wpAny (model prog w) A (pyNext it) (λ r s₁ => match r with
  | none => R (.ok .next) s₁
  | some v => wpAny (model prog w) A (letOwnedTupleGo target it v) (λ _ s₂ => wpAny (model prog w) A (assign target env v) (λ _ s₂ =>
   wpAny (model prog w) A (forIn ifs true λ c r => if r = true then do let ok <- isTrue c env (eval c env); pure (ForInStep.yield ok) else pure (ForInStep.yield r)) (λ ok s₃ =>
    if ok = true then wpAny (model prog w) A (eval elt env) (λ x s₄ =>
     wpAny (model prog w) A (call (.builtin "list.append") [acc, x]) (λ _ s₅ => ∃ m, m < n /\ I m s₅) (λ _ _ => False) s₄) (λ _ _ => False) s₃
    else ∃ m, m < n /\ I m s₃) (λ _ _ => False) s₂) (λ _ _ => False) s₂) (λ _ _ => False) s₁) (λ _ _ => False) s)
 (n : Nat) (h : I n s) :
 codeAny (model prog w) A (.compLoop (.ListComp elt [⟨target, iter, ifs, 0⟩] scope pos) 0 it acc env) R s := by
 refine codeAny_loop rfl I (λ n s hI => ?_) n h
 show wpAny _ A ((compTurn (.ListComp elt [⟨target, iter, ifs, 0⟩] scope pos) 0 it acc env).onRaise (λ x => do noteFrame x env; theTreesLotGoes x)) _ _ s
 refine wpAny_noted ?_
 rw [compTurn_list]
 refine wB (wpAny_standAt (wB (wpAny_mono (turn n s hI) (λ r s₁ h₁ => ?_) λ _ _ h' => h'.elim)))
 cases r with
 | none => exact wP h₁
 | some v =>
  refine wB (wpAny_mono h₁ (λ _ s₂ h₂ => ?_) λ _ _ h' => h'.elim)
  refine wB (wpAny_mono h₂ (λ _ s₂ h₂ => wB (wpAny_mono h₂ (λ ok s₃ h₃ => ?_) λ _ _ h' => h'.elim)) λ _ _ h' => h'.elim)
  cases ok with
  | false => exact wP ⟨rfl, h₃⟩
  | true =>
   exact wB (wB (wpAny_mono h₃ (λ x s₄ h₄ => wB (wpAny_mono h₄ (λ _ s₅ h₅ => wP (wP ⟨rfl, h₅⟩)) λ _ _ h' => h'.elim)) λ _ _ h' => h'.elim))
end
theorem HOk.sameBut {P : Program} {w : World} {H : Hp} {h h' : Heap} {C : Addr} (x : HOk P w H h) (n : H C = none) (sb : Heap.SameBut C h h') : HOk P w H h' := λ a o e =>
 (x a o e).stay (λ b u q z => (sb.2 b (by
  rcases q with q | q
  · subst q; exact ne_of_none e n
  · exact ne_of_none q n)).trans z) (λ _ q => q) (λ _ _ q => q) λ _ _ _ q => q
theorem relab_kind {env : Env} : ∀ {names : List (Str × NameKind)} {x : Str}, names.lookup x = some .free ->
 (((names.map λ (n, k) => if (k == NameKind.free && env.scope.kind == .function && env.kindOf n == some .cell) then (n, NameKind.cell) else (n, k)).lookup x = some .cell) \/
  ((names.map λ (n, k) => if (k == NameKind.free && env.scope.kind == .function && env.kindOf n == some .cell) then (n, NameKind.cell) else (n, k)).lookup x = some .free))
 | [], x, h => by simp at h
 | (n, k) :: r, x, h => by
  have e1 : ((n, k) :: r).map (λ (n, k) => if (k == NameKind.free && env.scope.kind == .function && env.kindOf n == some .cell) = true then (n, NameKind.cell) else (n, k)) =
   (if (k == NameKind.free && env.scope.kind == .function && env.kindOf n == some .cell) = true then (n, NameKind.cell) else (n, k)) :: r.map (λ (n, k) => if (k == NameKind.free && env.scope.kind == .function && env.kindOf n == some .cell) = true then (n, NameKind.cell) else (n, k)) := rfl
  rw [e1]
  cases hx : x == n with
  | true =>
   simp only [Q5, hx] at h
   have hk : k = .free := zV h
   by_cases c : (k == NameKind.free && env.scope.kind == .function && env.kindOf n == some .cell) = true
   · rw [if_pos c]; left; simp [Q5, hx]
   · rw [if_neg c]; right; simp [Q5, hx, hk]
  | false =>
   simp only [Q5, hx] at h
   have q := relab_kind (env := env) h
   by_cases c : (k == NameKind.free && env.scope.kind == .function && env.kindOf n == some .cell) = true
   · rw [if_pos c]; simpa only [Q5, hx] using q
   · rw [if_neg c]; simpa only [Q5, hx] using q
section
variable {X : Cx}
theorem st0_get {n : Nat} {fr : List (Str × Nat)} {own : List Str} {σ : St} {i : Nat} {x : Str} {v : V} (hn : own.length = n) (h1 : (own ++ fr.map (·.1))[i]? = some x) (h2 : (st0 n fr σ)[i]? = some (some v)) :
 ∃ p ∈ fr, p.1 = x /\ σ[p.2]? = some (some v) := by
 unfold st0 at h2
 by_cases hi : i < n
 · rw [Q1 (by simpa using hi), Q3, if_pos hi] at h2
   cases h2
 · rw [Q2 (by simpa using hi)] at h2
   rw [Q2 (by omega)] at h1
   rw [Qc, zK] at h2
   rw [hn, zK] at h1
   cases e : fr[i - n]? with
   | none => rw [e] at h1; cases h1
   | some p =>
    rw [e] at h1 h2
    refine ⟨p, List.mem_of_getElem? e, zV h1, ?_⟩
    have h3 : (σ[p.2]?).join = some v := zV h2
    cases q : σ[p.2]? with
    | none => rw [q] at h3; cases h3
    | some z => rw [q] at h3; exact congrArg some h3
end
open AutoSeq1 (wpAny_loadPart')
section
variable {prog : Program} {w : World} {A : Around} {E : Value -> Shared -> Prop} {s : Shared}
theorem nxT_item {it t : Addr} {i : Nat} {its : Array Value} {x : Value} {Q : Value -> Shared -> Prop} (hit : s.heap.IsTupleIter it t i) (ht : s.heap.IsTuple t its) (hx : its[i]? = some x)
 (k : ∀ h', h'.IsTupleIter it t (i + 1) -> Heap.SameBut it s.heap h' -> Q x { s with heap := h' }) : wpAny (model prog w) A (Builtin.SmallTypes.nextOf (.ref it)) Q E s := by
 have ty := hit.typeIs
 obtain ⟨ob, eo, ec, ed⟩ := hit
 obtain ⟨ot, et, _, n, edt⟩ := ht
 unfold Builtin.SmallTypes.nextOf
 refine wB (wpAny_callSpecial?_slot (name := Str.ofString "__next__") ty F.slot_tuple_iterator_next (wpAny_call_entry F.slot_tuple_iterator_next ty F.entry_tuple_iterator_next ?_ (F.args_tuple_iterator_next_1 _)))
 show wpAny _ _ (field (.ref it) 0 >>= _) _ _ s
 refine wB (wpAny_field eo ed (x := .ref t) rfl ?_)
 show wpAny _ _ (if (Value.ref t == Value.none) = true then _ else _) _ _ s
 rw [if_neg (show ¬ ((Value.ref t == Value.none) = true) from Qa)]
 show wpAny _ _ (field (.ref it) 1 >>= _) _ _ s
 refine wB (wpAny_field eo ed (x := .int i 0) rfl ?_)
 show wpAny _ _ (seqItems? (.ref t) >>= _) _ _ s
 refine wB (wpAny_seqItems et edt ?_)
 simp only [Int.toNat_natCast, hx]
 refine wB (wpAny_setField eo ed (by simp) (wP ⟨x, rfl, wP (k _ ⟨_, hUs _ eo (Obj.isFreed_of_fields (Obj.data_mapFields ed _)), (Obj.cls_mapFields ..).trans ec, ?_⟩ (Heap.SameBut.update ..))⟩))
 rw [Obj.data_mapFields ed]
 simp [rawInt]
theorem nxT_end {it t : Addr} {i : Nat} {its : Array Value} {Q : Value -> Shared -> Prop} (hh : A.handled = none) (hit : s.heap.IsTupleIter it t i) (ht : s.heap.IsTuple t its) (hx : its[i]? = none)
 (k : ∀ h' e, Heap.ExtBut it s.heap h' -> (∃ o, h'.get? e = some o /\ o.cls = .type "StopIteration") -> E (.ref e) { s with heap := h' }) : wpAny (model prog w) A (Builtin.SmallTypes.nextOf (.ref it)) Q E s := by
 have ty := hit.typeIs
 obtain ⟨ob, eo, ec, ed⟩ := hit
 obtain ⟨ot, et, _, n, edt⟩ := ht
 unfold Builtin.SmallTypes.nextOf
 refine wB (wpAny_callSpecial?_slot (name := Str.ofString "__next__") ty F.slot_tuple_iterator_next (wpAny_call_entry F.slot_tuple_iterator_next ty F.entry_tuple_iterator_next ?_ (F.args_tuple_iterator_next_1 _)))
 show wpAny _ _ (field (.ref it) 0 >>= _) _ _ s
 refine wB (wpAny_field eo ed (x := .ref t) rfl ?_)
 show wpAny _ _ (if (Value.ref t == Value.none) = true then _ else _) _ _ s
 rw [if_neg (show ¬ ((Value.ref t == Value.none) = true) from Qa)]
 show wpAny _ _ (field (.ref it) 1 >>= _) _ _ s
 refine wB (wpAny_field eo ed (x := .int i 0) rfl ?_)
 show wpAny _ _ (seqItems? (.ref t) >>= _) _ _ s
 refine wB (wpAny_seqItems et edt ?_)
 simp only [Int.toNat_natCast, hx]
 refine wB (wpAny_rule (wB (wpAny_setField eo ed (by simp) ?_)))
 show wpAny _ _ (newExc (.type "StopIteration") [] >>= _) _ _ _
 refine wB ?_
 simp only [newExc, newTuple]
 refine wB (wpAny_newObj_type ?_ (by size_fits))
 refine wB (m := firstArgMember _ _) (wpAny_of_eq (a := Value.none) (by first | rfl | (simp only [firstArgMember]; rfl)) ?_)
 refine wpAny_newObj_type ?_ (by size_fits)
 simp only [raiseNew]
 refine wB (wpAny_handled ?_)
 first | rw [show A.in1.handled = none from hh] | rw [hh]
 exact wB (wP (wpAny_throw (k _ _ (((Heap.SameBut.update ..).extBut.push _).push _) ⟨_, hPs _ rfl, rfl⟩)))
end
theorem drT {prog : Program} {w : World} {A : Around} (hh : A.handled = none) (it t : Addr) (ne : t ≠ it) (its : Array Value) :
 Draws prog w A it [it, t] its.size (λ i v => its[i]? = some v) (λ i h => h.IsTupleIter it t i /\ h.IsTuple t its) where
 live := λ _ _ st => by obtain ⟨⟨o, e, _⟩, _⟩ := st; exact ⟨o, e⟩
 frame := λ _ _ _ st k => ⟨st.1.at λ o e => k it (by simp) o e, st.2.at λ o e => k t (by simp) o e⟩
 item := λ i s Q E hi st k => nxT_item st.1 st.2 (x := its[i]) (by simp [hi]) λ h' a b => k _ h' s.toks (by simp [hi]) ⟨a, st.2.extBut b.extBut ne⟩ b
 done := λ s Q E st k => nxT_end hh st.1 st.2 (by simp) k
theorem enT_new (l : Addr) (its : Array Value) (n : Nat) (dct : Option Addr) (sl : Array (Option Value)) :
 Meets (Builtin.«enumerate.__new__» ⟨[.type "enumerate", .ref l], []⟩) (λ _ R s => s.heap.get? l = some { cls := .type "tuple", dict := dct, data := .seq its n, slots := sl } /\
  R (.ok (.ret (.ref (s.heap.push { cls := .type "tuple_iterator", data := .fields #[.ref l, .int 0 0] }).objs.size)))
   { s with heap := (s.heap.push { cls := .type "tuple_iterator", data := .fields #[.ref l, .int 0 0] }).push { cls := .type "enumerate", data := .fields #[.none, .bool false, .ref s.heap.objs.size, rawInt 0, .none, .none] } }) :=
 .of_wp λ prog w A R s h => by
  obtain ⟨hp, g, d, tk, os⟩ := s
  obtain ⟨hl, h⟩ := h
  have hsub := sub_enumerate
  have hT : Heap.IsTuple (Shared.heap ⟨hp, g, d, tk, os⟩) l its := ⟨_, hl, rfl, n, rfl⟩
  wp_walk using wpAny_loadPart' hl
  refine wpAny_stack_any λ st => wP ?_
  split
  · rename_i c _ _ _ _ _
    cases (c == Value.type "enumerate") <;> (wp_walk using wpAny_loadPart' hl, wpAny_pyIter_tuple hT; exact ⟨_, rfl, h⟩)
  · wp_walk using wpAny_loadPart' hl, wpAny_pyIter_tuple hT
    exact ⟨_, rfl, h⟩
section
variable {prog : Program} {w : World} {A : Around} {E : Value -> Shared -> Prop} {s : Shared}
theorem call_enT {l : Addr} {its : Array Value} {Q : Value -> Shared -> Prop} (hL : s.heap.IsTuple l its)
 (k : ∀ h', IsEnum h' (s.heap.objs.size + 1) s.heap.objs.size 0 .none -> h'.IsTupleIter s.heap.objs.size l 0 -> h'.objs.size = s.heap.objs.size + 2 -> (∀ b o, s.heap.get? b = some o -> h'.get? b = some o) -> Q (.ref (s.heap.objs.size + 1)) { s with heap := h' }) :
 wpAny (model prog w) A (call (.type "enumerate") [.ref l]) Q E s := by
 obtain ⟨⟨c, dct, dt, sl⟩, hl, hc, n, hd⟩ := hL
 have hc' : c = .type "tuple" := hc
 have hd' : dt = .seq its n := hd
 subst hc' hd'
 refine callType_new F.called_enumerate (by decide) (F.typeCall_enumerate_1 _) (F.newCall_enumerate_1 _) (λ obj => F.args_object_init_2 obj _) F.entry_enumerate_new (enT_new l its n dct sl) ⟨hl, ?_⟩
 generalize hg : s.heap.push { cls := .type "tuple_iterator", data := .fields #[.ref l, .int 0 0] } = g1
 have z1 : g1.objs.size = s.heap.objs.size + 1 := by rw [<- hg]; exact Heap.size_push ..
 have he : IsEnum (g1.push { cls := .type "enumerate", data := .fields #[.none, .bool false, .ref s.heap.objs.size, rawInt 0, .none, .none] }) (s.heap.objs.size + 1) s.heap.objs.size 0 .none := by
  rw [<- z1]; exact hPs _ rfl
 show _ /\ _
 rw [z1]
 refine ⟨⟨_, he, rfl⟩, k _ he ⟨_, hPo _ (by rw [<- hg]; exact hPs _ rfl), rfl, rfl⟩ (by rw [Heap.size_push, z1]) λ b o x => hPo _ (by rw [<- hg]; exact hPo _ x)⟩
end
open AutoSeq1 (wpAny_loadPart')
section
variable {prog : Program} {w : World} {A : Around} {E : Value -> Shared -> Prop} {s : Shared}
variable {z TI TO i1 i2 : Addr} {f1 f2 : List Addr} {n1 n2 k : Nat} {P1 P2 : Nat -> Value -> Prop} {S1 S2 : Nat -> Heap -> Prop} {a b : Value}
end
section
variable {prog : Program} {w : World} {A : Around} {E : Value -> Shared -> Prop} {s : Shared}
end
section
variable {X : Cx} {pins : List (Addr × Obj)} {σ : St} {H : Hp} {s : Shared}
theorem Inv.turnedN {ch : List Addr} {h' : Heap} {t' : Nat} {p : Addr} {o : HO} (I : Inv X pins σ H s) (hf : ∀ b ∈ ch, FpOk X pins H b) (k : ∀ b u, b ∉ ch -> s.heap.get? b = some u -> h'.get? b = some u)
 (hp : s.heap.objs.size <= p) (new : ObjOk X.prog X.w (upd H p o) h' p o) : Inv X pins σ (upd H p o) { s with heap := h', toks := t' } := by
 have hn : H p = none := I.hok.fresh hp
 have nit : ∀ b u, H b = some u -> b ∉ ch := λ b u e z => by rw [(hf b z).1] at e; cases e
 have old : ∀ b u, s.heap.get? b = some u -> b ≠ p := λ b u e => nNl (nLl (hLs e) hp)
 refine I.step (g' := s.gens) (d' := s.drawn) (ch := ch) (λ b hb => ⟨(hf b hb).2.2.2.1, (hf b hb).2.1, (hf b hb).2.2.2.2.1, (hf b hb).2.2.2.2.2⟩) (λ b o _ _ hc e _ => k b o hc e) (λ b o _ _ hc e _ => ⟨o.slots, k b o hc e⟩)
  (λ b u _ e n => by rw [upd_ne (old b u e)]; exact n) (λ b o hc e => ⟨o, k b o hc e⟩) (λ b xs e => by rw [upd_ne (ne_of_none e hn)]; exact e) (λ b u xs e => by rw [upd_ne (ne_of_none e hn)]; exact e)
  (λ b ps e => ⟨#[], by rw [upd_ne (ne_of_none e hn), e]; simp⟩) (λ m hm => ?_) (λ b u e => ?_) I.bare
 · obtain ⟨ob, es, ep, ho, r⟩ := hm
   exact ⟨ob, es, ep, k _ ob (λ z => (hf _ z).2.1 rfl) ho, r⟩
 · by_cases hb : b = p
   · subst hb; rw [upd_same] at e; cases e; exact new
   · rw [upd_ne hb] at e
     refine (I.hok b u e).stay (λ c v hc q => k c v ?_ q) (λ c q => by rw [upd_ne (ne_of_none q hn)]; exact q) (λ c xs q => by rw [upd_ne (ne_of_none q hn)]; exact q) λ c ob xs q => by rw [upd_ne (ne_of_none q hn)]; exact q
     rcases hc with z | z
     · rw [z]; exact nit b u e
     · exact nit c _ z
theorem Inv.turned0 {ch : List Addr} {h' : Heap} {t' : Nat} (I : Inv X pins σ H s) (hf : ∀ b ∈ ch, FpOk X pins H b) (k : ∀ b u, b ∉ ch -> s.heap.get? b = some u -> h'.get? b = some u) : Inv X pins σ H { s with heap := h', toks := t' } := by
 have nit : ∀ b u, H b = some u -> b ∉ ch := λ b u e z => by rw [(hf b z).1] at e; cases e
 refine I.step (g' := s.gens) (d' := s.drawn) (ch := ch) (λ b hb => ⟨(hf b hb).2.2.2.1, (hf b hb).2.1, (hf b hb).2.2.2.2.1, (hf b hb).2.2.2.2.2⟩) (λ b o _ _ hc e _ => k b o hc e) (λ b o _ _ hc e _ => ⟨o.slots, k b o hc e⟩)
  (λ _ _ _ _ n => n) (λ b o hc e => ⟨o, k b o hc e⟩) (λ _ _ e => e) (λ _ _ _ e => e) (λ b ps e => ⟨#[], by rw [e]; simp⟩) (λ m hm => ?_) (λ b u e => ?_) I.bare
 · obtain ⟨ob, es, ep, ho, r⟩ := hm
   exact ⟨ob, es, ep, k _ ob (λ z => (hf _ z).2.1 rfl) ho, r⟩
 · refine (I.hok b u e).stay (λ c v hc q => k c v ?_ q) (λ _ q => q) (λ _ _ q => q) λ _ _ _ q => q
   rcases hc with z | z
   · rw [z]; exact nit b u e
   · exact nit c _ z
end
structure Src (P : Program) (w : World) (K : Fg) (a it : Addr) (S : Hp -> List V -> Prop) (IT : Nat -> Heap -> Prop) : Prop where
 inj : ∀ (X : Cx), X.K = K -> ∀ (pins : List (Addr × Obj)) (σ : St) (H : Hp) (s : Shared) (xs ys : List V), Inv X pins σ H s -> S H xs -> S H ys -> xs = ys
 at_ : ∀ i h h', IT i h -> (∀ o, h.get? it = some o -> h'.get? it = some o) -> IT i h'
 ob : ∀ i h, IT i h -> ∃ o n, h.get? it = some o /\ o.cls = .type n /\ n ≠ "list" /\ n ≠ "tuple" /\ n ≠ "enumerate" /\ n ≠ "zip" /\ ∀ v, o.data ≠ .cell v
 dr : ∀ (X : Cx), X.prog = P -> X.w = w -> X.K = K -> ∀ (pins : List (Addr × Obj)) (σ : St) (H : Hp) (s : Shared) (xs : List V), Inv X pins σ H s -> S H xs -> ∃ (its : List Value) (SA : Heap -> Prop), Vals xs its /\ SA s.heap /\
  (∃ o n, s.heap.get? a = some o /\ o.cls = .type n /\ (n = "list" \/ n = "tuple")) /\ ∀ A : Around, A.handled = none -> a ≠ it -> Draws P w A it [it, a] its.toArray.size (λ i v => its.toArray[i]? = some v) λ i h => IT i h /\ SA h
theorem srcT {P : Program} {w : World} {K : Fg} (a it : Addr) : Src P w K a it (λ H xs => SqT K H a xs) (λ i h => h.IsTupleIter it a i) where
 inj := λ X hK pins σ H s xs ys I h1 h2 => by subst hK; exact I.tuple_inj h1 h2
 at_ := λ i h h' x e => x.at e
 ob := λ i h x => by obtain ⟨o, e, c, d⟩ := x; exact ⟨o, _, e, c, by decide, by decide, by decide, by decide, λ v z => by rw [d] at z; cases z⟩
 dr := λ X hP hw hK pins σ H s xs I h => by
  subst hP hw hK
  obtain ⟨its, rv, p, hz⟩ := I.tuple h
  refine ⟨its, λ h => h.IsTuple a its.toArray, rv, p, ?_, λ A hh ne => drT hh it a ne its.toArray⟩
  obtain ⟨o, e, c, _⟩ := p
  exact ⟨o, _, e, c, .inr rfl⟩
theorem srcL {P : Program} {w : World} {K : Fg} (a it : Addr) : Src P w K a it (λ H xs => SqL K H a xs) (λ i h => h.IsListIter it a i) where
 inj := λ X hK pins σ H s xs ys I h1 h2 => by subst hK; exact I.list_inj h1 h2
 at_ := λ i h h' x e => x.at e
 ob := λ i h x => by obtain ⟨o, e, c, d⟩ := x; exact ⟨o, _, e, c, by decide, by decide, by decide, by decide, λ v z => by rw [d] at z; cases z⟩
 dr := λ X hP hw hK pins σ H s xs I h => by
  subst hP hw hK
  obtain ⟨its, rv, p, hz⟩ := I.list h
  refine ⟨its, λ h => h.IsList a its.toArray, rv, p.isList, ?_, λ A hh ne => Draws.list hh it a ne its.toArray⟩
  obtain ⟨o, e, c, _⟩ := p.isList
  exact ⟨o, _, e, c, .inl rfl⟩
theorem type_ne {h : Heap} {a b : Addr} {o u : Obj} {n m : String} (e : h.get? a = some o) (c : o.cls = .type n) (e' : h.get? b = some u) (c' : u.cls = .type m) (d : n ≠ m) : a ≠ b := λ z => by
 subst z
 rw [e] at e'
 cases e'
 rw [c] at c'
 exact d (by injection c')
def Ite (S : Hp -> List V -> Prop) : It :=
 ⟨λ i H => ∃ xs x, S H xs /\ xs[i]? = some x, λ i H x H' => ∃ p v, H p = none /\ x = .ref p /\ H' = upd H p (.tup [.int (i : Nat), v]) /\ ∀ xs, S H xs -> xs[i]? = some v, λ i H => ∃ xs, S H xs /\ xs.length = i⟩
theorem turn_enum {P : Program} {w : World} {K : Fg} {es : List Expr} {k1 : Nat} {tp : Pos} {a e it : Addr} {S : Hp -> List V -> Prop} {IT : Nat -> Heap -> Prop} (R : Src P w K a it S IT) :
 Turn P w K (.Tuple es k1 tp) (Ite S) [e, it] e (λ i h => (∃ old, IsEnum h e it (i : Nat) old) /\ IT i h) where
 mem := by simp
 obj := λ i h st b hb => by
  obtain ⟨⟨old, he⟩, hi⟩ := st
  have hb' : b = e \/ b = it := by simpa using hb
  rcases hb' with z | z
  · subst z; exact ⟨_, he, λ v z => by cases z⟩
  · subst z
    obtain ⟨o, n, q, _, _, _, _, _, d⟩ := R.ob _ _ hi
    exact ⟨o, q, d⟩
 keep := λ i h h' st k => by
  obtain ⟨⟨old, he⟩, hi⟩ := st
  exact ⟨⟨old, k e (by simp) _ he⟩, R.at_ _ _ _ hi λ o q => k it (by simp) o q⟩
 item := by
  intro X hP hw hK hc i pins s σ H E I hf st hg
  obtain ⟨xs, x, hq, hx⟩ := hg
  obtain ⟨⟨old, he⟩, hi⟩ := st
  obtain ⟨its, SA, rv, sa, ⟨oa, na, ea, ca, da⟩, dr⟩ := R.dr X hP hw hK pins σ H s xs I hq
  obtain ⟨oi, ni, ei, ci, d1, d2, d3, _, _⟩ := R.ob _ _ hi
  have nai : a ≠ it := type_ne ea ca ei ci (by rcases da with z | z <;> (subst z; first | exact d1.symm | exact d2.symm))
  have nea : e ≠ a := type_ne he rfl ea ca (by rcases da with z | z <;> (subst z; decide))
  have nei : e ≠ it := type_ne he rfl ei ci (Ne.symm d3)
  obtain ⟨u, hu, ru⟩ := rv.get hx
  have hh : X.A.in1.handled = none := I.ok.hd hc
  have hlt : i < its.toArray.size := by have := (Qe.mp hu).1; simpa using this
  subst hP hw
  refine wpAny_pyNext_enum_itemD (dr _ hh nai) he ⟨hi, sa⟩ hlt nei (by simp [nei, nea]) λ y h' tk py heo st' ht hsz hk => ?_
  have ey : y = u := by
   have : its[i]? = some y := by simpa using py
   rw [hu] at this; exact (zV this).symm
  subst ey
  refine ⟨_, rfl, wpAny_letOwnedTupleGo_enum heo λ h2 he2 c2 => ?_⟩
  have c2 : Heap.SameBut e h' h2 := c2
  have el : e < s.heap.objs.size := hLs he
  have t2 : h2.get? s.heap.objs.size = some { cls := .type "tuple", data := .seq #[.int i tk, y] } := (c2.2 _ (nNg el)).trans ht
  have I2 : Inv X pins σ (upd H s.heap.objs.size (.tup [.int (i : Nat), x])) { s with heap := h2, toks := tk + 1 } := I.turnedN (ch := [e, it]) hf (λ b o hb q => by
   have hb' : b ≠ e /\ b ≠ it := by simpa using hb
   exact (c2.2 _ hb'.1).trans (hk b o hb'.1 hb'.2 q)) (Q4 _) ⟨by show 2 <= sizeLine; decide, [.int i tk, y], .cons ⟨tk, rfl⟩ (.cons ru .nil), ⟨_, t2, rfl, _, rfl⟩, _, t2, rfl⟩
  have hn : H s.heap.objs.size = none := I.hok.fresh (Q4 _)
  refine ⟨.ref s.heap.objs.size, _, I2, rfl, ⟨_, x, hn, rfl, rfl, λ ys hy => by rw [R.inj X hK pins σ H s ys xs I hy hq]; exact hx⟩, ⟨⟨_, by simpa using he2⟩, R.at_ _ _ _ st'.1 λ o q => (c2.2 _ nei.symm).trans q⟩, λ b hb => ?_⟩
  have lb : b < s.heap.objs.size := by
   have hb' : b = e \/ b = it := by simpa using hb
   rcases hb' with z | z
   · rw [z]; exact el
   · rw [z]; exact hLs ei
  rw [upd_ne (nNl lb)]
  exact (hf b hb).1
 done := by
  intro X hP hw hK hc i pins s σ H E I hf st hg
  obtain ⟨xs, hq, hx⟩ := hg
  obtain ⟨⟨old, he⟩, hi⟩ := st
  obtain ⟨its, SA, rv, sa, ⟨oa, na, ea, ca, da⟩, dr⟩ := R.dr X hP hw hK pins σ H s xs I hq
  obtain ⟨oi, ni, ei, ci, d1, d2, d3, _, _⟩ := R.ob _ _ hi
  have nai : a ≠ it := type_ne ea ca ei ci (by rcases da with z | z <;> (subst z; first | exact d1.symm | exact d2.symm))
  have hh : X.A.in1.handled = none := I.ok.hd hc
  subst hP hw
  have hl : its.toArray.size = i := by rw [<- hx, rv.length]; simp
  refine wpAny_pyNext_enum_endD (dr _ hh nai) he (by rw [hl]; exact ⟨hi, sa⟩) λ h' eb => ⟨rfl, I.turned0 (t' := s.toks) (ch := [e, it]) hf λ b u hb q => ?_⟩
  have hb' : b ≠ e /\ b ≠ it := by simpa using hb
  exact eb b u hb'.2 q
 self := λ A i s Q E st h => by
  obtain ⟨⟨old, he⟩, hi⟩ := st
  exact wpAny_pyIter_enum he h
section
variable {X : Cx} {es : List Expr} {k1 : Nat} {tp : Pos}
end
mutual
noncomputable def IsD (K : Fg) (H : Hp) (x : V) : PyData -> Prop
 | .none => x = .non
 | .bool b => x = .bl b
 | .int i => x = .int i
 | .str y => x = .str y
 | .list ds => ∃ a xs, x = .ref a /\ SqL K H a xs /\ AllD K H xs ds
 | .tuple ds => ∃ a xs, x = .ref a /\ SqT K H a xs /\ AllD K H xs ds
 | .dict _ => False
noncomputable def AllD (K : Fg) (H : Hp) (xs : List V) : List PyData -> Prop
 | [] => xs = []
 | d :: ds => ∃ x r, xs = x :: r /\ IsD K H x d /\ AllD K H r ds
end
theorem Same.seqT {K : Fg} {H H' : Hp} {a : Addr} {xs : List V} (e : Same H H') (h : SqT K H a xs) : SqT K H' a xs := by
 rcases h with h | h
 · rcases h with h | ⟨o, h⟩
   · exact .inl (.inl (e _ _ h))
   · exact .inl (.inr ⟨o, e _ _ h⟩)
 · exact .inr h
theorem same_new {H : Hp} {p : Addr} (h : H p = none) (o : HO) : Same H (upd H p o) := λ b u q => by rw [upd_ne (ne_of_none q h)]; exact q
mutual
theorem IsD.same {K : Fg} {H H' : Hp} (s : Same H H') : ∀ {x : V} (d : PyData), IsD K H x d -> IsD K H' x d
 | _, .none, h => h
 | _, .bool _, h => h
 | _, .int _, h => h
 | _, .str _, h => h
 | _, .list ds, h => by
  obtain ⟨a, xs, e, q, r⟩ := h
  exact ⟨a, xs, e, s.seq q, AllD.same s ds r⟩
 | _, .tuple ds, h => by
  obtain ⟨a, xs, e, q, r⟩ := h
  exact ⟨a, xs, e, s.seqT q, AllD.same s ds r⟩
 | _, .dict _, h => h.elim
theorem AllD.same {K : Fg} {H H' : Hp} (s : Same H H') : ∀ {xs : List V} (ds : List PyData), AllD K H xs ds -> AllD K H' xs ds
 | _, [], h => h
 | _, d :: ds, h => by
  obtain ⟨x, r, e, q, t⟩ := h
  exact ⟨x, r, e, IsD.same s d q, AllD.same s ds t⟩
end
section
variable {X : Cx} {pins : List (Addr × Obj)} {σ : St} {H : Hp} {s : Shared}
mutual
theorem IsD.reads (I : Inv X pins σ H s) : ∀ {x : V} {u : Value} (d : PyData), IsD X.K H x d -> RelV x u -> ∃ as, Reads s.heap u d as
 | _, _, .none, h, r => by rw [show _ = V.non from h] at r; cases r; exact ⟨_, .none⟩
 | _, _, .bool b, h, r => by rw [show _ = V.bl b from h] at r; cases r; exact ⟨_, .bool b⟩
 | _, _, .int i, h, r => by rw [show _ = V.int i from h] at r; obtain ⟨t, rfl⟩ := r; exact ⟨_, .int i t⟩
 | _, _, .str y, h, r => by rw [show _ = V.str y from h] at r; obtain ⟨t, rfl⟩ := r; exact ⟨_, .str y t⟩
 | _, _, .list ds, h, r => by
  obtain ⟨a, xs, e, q, al⟩ := h
  subst e
  cases r
  obtain ⟨its, rv, p, _⟩ := I.list q
  obtain ⟨o, h1, h2, n, h3⟩ := p.isList
  obtain ⟨as, ra⟩ := AllD.reads I ds al rv
  exact ⟨_, .list h1 h2 h3 (by simpa using ra)⟩
 | _, _, .tuple ds, h, r => by
  obtain ⟨a, xs, e, q, al⟩ := h
  subst e
  cases r
  obtain ⟨its, rv, p, _⟩ := I.tuple q
  obtain ⟨o, h1, h2, n, h3⟩ := p
  obtain ⟨as, ra⟩ := AllD.reads I ds al rv
  exact ⟨_, .tuple h1 h2 h3 (by simpa using ra)⟩
 | _, _, .dict _, h, _ => h.elim
theorem AllD.reads (I : Inv X pins σ H s) : ∀ {xs : List V} {us : List Value} (ds : List PyData), AllD X.K H xs ds -> Vals xs us -> ∃ as, ReadsAll s.heap us ds as
 | _, _, [], h, r => by rw [show _ = [] from h] at r; cases r; exact ⟨_, .nil⟩
 | _, _, d :: ds, h, r => by
  obtain ⟨x, rr, e, q, al⟩ := h
  subst e
  cases r with
  | cons r1 r2 =>
   obtain ⟨as, ra⟩ := IsD.reads I d q r1
   obtain ⟨bs, rb⟩ := AllD.reads I ds al r2
   exact ⟨_, .cons ra rb⟩
end
def cmpOk (d : PyData) : Prop := d.canLay0 = true /\ d.depth <= 60
def rEqD (K : Fg) (neg : Bool) : R2 := λ x y H Q => ∃ da db, IsD K H x da /\ IsD K H y db /\ cmpOk da /\ cmpOk db /\ Q (.bl (if neg then !PyData.eqv da db else PyData.eqv da db)) H
theorem op_eqD (hu : X.A.units + 64 < cLine) : OpR X (compareOp .Eq) (rEqD X.K false) := by
 intro pins s σ H x y v u Q I rx ry h
 obtain ⟨da, db, hx, hy, ca, cb, q⟩ := h
 obtain ⟨as, ra⟩ := hx.reads I _ rx
 obtain ⟨bs, rb⟩ := hy.reads I _ ry
 exact SeqAt.compareEq_reads ra rb ca.1 cb.1 (by have := ca.2; omega) ⟨.bl _, H, I, rfl, q⟩
theorem op_neD (hu : X.A.units + 64 < cLine) : OpR X (compareOp .NotEq) (rEqD X.K true) := by
 intro pins s σ H x y v u Q I rx ry h
 obtain ⟨da, db, hx, hy, ca, cb, q⟩ := h
 obtain ⟨as, ra⟩ := hx.reads I _ rx
 obtain ⟨bs, rb⟩ := hy.reads I _ ry
 exact SeqAt.compareNe_reads ra rb ca.1 cb.1 (by have := ca.2; omega) ⟨.bl _, H, I, rfl, q⟩
def rAll (K : Fg) : List V -> Hp -> VK -> Prop := λ xs H Q => ∃ (p : Addr) (bs : List Bool), xs = [.ref p] /\ SqL K H p (bs.map V.bl) /\ Q (.bl (bs.all id)) H
theorem all_range {bs : List Bool} : (List.range bs.length).all (λ i => bs.getD i true) = bs.all id := by
 rw [Bool.eq_iff_iff, Qf, Qf]
 constructor
 · intro h x hx
   obtain ⟨i, hi, e⟩ := List.mem_iff_getElem.mp hx
   have := h i (by simpa using hi)
   rw [gDq, gEq hi, e] at this
   exact this
 · intro h i hi
   have hi' : i < bs.length := by simpa using hi
   rw [gDq, gEq hi']
   exact h _ (List.getElem_mem hi')
theorem call_all (hc : X.calm = true) : CallR X (.builtin "all") (rAll X.K) := by
 intro pins s σ H xs us Q I rv h
 obtain ⟨p, bs, rfl, hq, q⟩ := h
 obtain ⟨u, rfl, r⟩ := rv.one
 cases r
 obtain ⟨its, rr, pl, hz⟩ := I.list hq
 have hl : its.length = bs.length := by rw [<- rr.length, zJ]
 have hh : X.A.in1.handled = none := I.ok.hd hc
 have lp : p < s.heap.objs.size := by obtain ⟨o, e, _⟩ := pl.isList; exact hLs e
 refine call_all_walk (wpAny_pyIter_list pl.isList ⟨_, _, _, _, _, _, λ i => bs.getD i true, rfl, Walks.list hh s.heap.objs.size p (nNl lp) its.toArray, ⟨⟨_, hPs _ rfl, rfl, rfl⟩, pl.isList.push _⟩, ?_, λ h' tk k => ?_⟩)
 · intro i v s' Q' E' hP hQ
   have hP' : its[i]? = some v := by simpa using hP
   have hi : i < its.length := (Qe.mp hP').1
   have hb : (bs.map V.bl)[i]? = some (.bl (bs[i]'(by omega))) := by rw [zK, gEq (by omega)]; rfl
   obtain ⟨u, hu, ru⟩ := rr.get hb
   rw [hP'] at hu
   cases hu
   cases ru
   have e : bs.getD i true = bs[i]'(by omega) := by rw [gDq, gEq (by omega)]; rfl
   have hQ' : Q' (bs.getD i true) s' := hQ
   rw [e] at hQ'
   exact wpAny_truthy_bool hQ'
 · have e : (List.range its.toArray.size).all (λ i => bs.getD i true) = bs.all id := by rw [zM, hl, all_range]
   rw [e]
   refine ⟨.bl _, H, ?_, rfl, q⟩
   refine I.kept λ b o eb => k b o ?_ (hPo _ eb)
   simp only [List.mem_singleton]
   exact nNl (hLs eb)
def rRemove : V -> List V -> Hp -> VK -> Prop := λ x vs H Q => ∃ (l : Addr) (ns : List Int) (n : Int), x = .ref l /\ vs = [.int n] /\ H l = some (.lst (ns.map V.int)) /\ n ∈ ns /\ Q .non (upd H l (.lst ((ns.erase n).map V.int)))
theorem map_erase (n : Int) (ns : List Int) : ∀ {us : List Value}, Vals (ns.map V.int) us -> n ∈ ns -> ∃ j, ∃ (hj : j < us.length), eqU (.int n) us[j] = true /\ (∀ m (hm : m < us.length), m < j -> eqU (.int n) us[m] = false) /\ Vals ((ns.erase n).map V.int) (us.eraseIdx j) := by
 induction ns with
 | nil => intro us _ h; simp at h
 | cons a r ih =>
  intro us rv h
  cases rv with
  | @cons _ b _ l2 r1 r2 =>
   obtain ⟨t, rfl⟩ := (show ∃ t, b = Value.int a t from r1)
   by_cases e : a = n
   · subst e
     refine ⟨0, by simp, ?_, λ m _ hm => absurd hm (zS _), ?_⟩
     · show eqV (.int a) (.int a) = true
       simp [eqV]
     · simpa using r2
   · have hr : n ∈ r := by
      rcases Qb.mp h with z | z
      · exact absurd z.symm e
      · exact z
     obtain ⟨j, hj, h1, h2, h3⟩ := ih r2 hr
     refine ⟨j + 1, by simpa using hj, by simpa using h1, λ m hm hmj => ?_, ?_⟩
     · cases m with
       | zero =>
        show eqV (.int a) (.int n) = false
        simp [eqV, e]
       | succ m => simpa using h2 m (by simpa using hm) (by omega)
     · rw [List.erase_cons_tail (by simpa using e)]
       exact .cons ⟨t, rfl⟩ h3
theorem mt_remove : MtM X "list.remove" rRemove := by
 intro pins s σ H x vs v us Q I rx rv h
 obtain ⟨l, ns, n, rfl, rfl, hH, hm, q⟩ := h
 cases rx
 obtain ⟨u, rfl, ru⟩ := rv.one
 obtain ⟨z, its, k, r, hl, e⟩ := I.lstM hH
 obtain ⟨t, rfl⟩ := (show ∃ t, u = Value.int n t from ru)
 obtain ⟨j, hj, h1, h2, h3⟩ := map_erase n ns r hm
 have hz : its.length <= sizeLine := by rw [<- hl]; exact z
 refine call_meets F.slot_list_remove ⟨_, e, rfl⟩ F.entry_list_remove (F.args_list_remove_2 _ _) (MeetsSeq.list_remove l its.toArray k (.int n t) (eqU (.int n)) ?_ j (by simpa using hj) (by simpa using h1) (λ m hm hmj => by simpa using h2 m (by simpa using hm) hmj) (by rw [zM]; exact hz)) ⟨e, ?_⟩
 · intro y hy
   have hy' : y ∈ its := by simpa using hy
   obtain ⟨i, hi, ei⟩ := List.mem_iff_getElem.mp hy'
   have hl' : (ns.map V.int).length = its.length := r.length
   have hi' : i < ns.length := by rw [zJ] at hl'; omega
   obtain ⟨u, hu, ru⟩ := r.get (i := i) (x := .int ns[i]) (by rw [zK, gEq hi'] <;> rfl)
   rw [gEq hi, ei] at hu
   cases hu
   obtain ⟨t', rfl⟩ := ru
   exact MeetsSeq.EqGives.int ns[i] n t' t
 · refine ⟨.non, _, I.lset (its' := its.eraseIdx j) hH e (by simp [Array.eraseIdxIfInBounds, hj]) h3 ?_, rfl, q⟩
   rw [zJ]
   have := List.length_erase_le (a := n) (l := ns)
   rw [zJ] at z
   omega
end
section
variable {prog : Program} {w : World} {A : Around} {E : Value -> Shared -> Prop} {s : Shared}
end
section
variable {X : Cx}
end
section
variable {prog : Program} {w : World} {A : Around} {E : Value -> Shared -> Prop} {s : Shared}
theorem cat_nil {t b : Addr} {vs ws : List Value} {Q : Value -> Shared -> Prop} (ht : IsTup s.heap t vs.toArray) (hb : IsTup s.heap b ws.toArray) (hv : vs = []) (h : Q (.ref b) s) : wpAny (model prog w) A (binaryOp .Add (.ref t) (.ref b)) Q E s := by
 obtain ⟨⟨cls, dd, data, sl⟩, ho, hc, n, hd⟩ := id ht
 obtain ⟨⟨cls2, dd2, data2, sl2⟩, ho2, hc2, n2, hd2⟩ := id hb
 simp only at hc hd hc2 hd2
 subst hc hd hc2 hd2
 exact concat_meets ⟨_, ho, rfl⟩ ⟨_, ho2, rfl⟩ noFill_tuple_add seq_tuple_add PySem.F.slot_tuple_add PySem.F.entry_tuple_add (PySem.F.args_tuple_add_2 _ _) (tuple_addW0 t b vs.toArray ws.toArray n n2 dd dd2 sl sl2 (by simp [hv])) ⟨ho, ho2, h⟩
end
section
variable {X : Cx}
end
structure Own (P : Program) (w : World) (K : Fg) (mg : Str -> Option Value) (base : Heap) (k : Nat) (x : Str) (ps : List Str) (sp : Sp) : Prop where
 ex : ∃ (f : Addr) (fd : FuncData), FnOk P w K mg base CX0 k f fd ps sp /\ mg x = some (.ref f) /\ PySem.W.keepIn K (.ref f) = true /\ Binds K fd ps []
section
variable {X : Cx}
theorem pe_own {k n : Nat} {x : Str} {ps : List Str} {sp : Sp} {p pos : Pos} {e : Expr} {es : List Expr} {t : TA} (O : Own X.prog X.w X.K X.mg X.base k x ps sp) (hr : Room n X.A) (ha : PA X (e :: es) t) (hkn : k <= n := by decide) (hg : Gl X x := by rfl)
 (hdb : (x == ("__debug__" : Str)) = false := by decide) (he : starEach (e :: es) X.env = (false, eval e X.env) :: starEach es X.env := by rfl) (hpl : (backTo pos (starEach es X.env)).any (·.1) = false := by rfl) :
 PE X (.Call (.Name x p) (e :: es) [] pos) (tCall sp [] E0 t) := by
 obtain ⟨f, fd, F, m, kp, b⟩ := O.ex
 exact pe_call F (hr.mono hkn) hg m kp b .nil pass0 ha hdb he hpl
end
structure Bt (mg : Str -> Option Value) : Prop where
 len : mg "len" = none
 isinstance : mg "isinstance" = none
 range : mg "range" = none
 int : mg "int" = none
 bool : mg "bool" = none
 tuple : mg "tuple" = none
 list : mg "list" = none
 all : mg "all" = none
 enumerate : mg "enumerate" = none
 zip : mg "zip" = none
 sum : mg "sum" = none
 sorted : mg "sorted" = none
 max : mg "max" = none
 min : mg "min" = none
 set : mg "set" = none
 str : mg "str" = none
theorem boot_isi : bootBuiltins "isinstance" = some (.builtin "isinstance") := by decide +kernel
theorem small {n : Nat} (h : n <= 1000) : n <= sizeLine := nLe (small1000 h)
section
variable {X : Cx}
end
section
variable {X : Cx}
theorem kx_in (K : Fg) (h : X.K = K := by rfl) : OpR X (compareOp .In) (rIn K false) := h ▸ op_in_seq
theorem kx_eqD (K : Fg) (hu : X.A.units + 64 < cLine) (h : X.K = K := by rfl) : OpR X (compareOp .Eq) (rEqD K false) := h ▸ op_eqD hu
theorem kx_neD (K : Fg) (hu : X.A.units + 64 < cLine) (h : X.K = K := by rfl) : OpR X (compareOp .NotEq) (rEqD K true) := h ▸ op_neD hu
def rListOf (K : Fg) : List V -> Hp -> VK -> Prop := λ xs H Q => ∃ p ys, xs = [.ref p] /\ (SqL K H p ys \/ SqT K H p ys) /\ ∀ l, H l = none -> Q (.ref l) (upd H l (.lst ys))
theorem kx_list (K : Fg) (h : X.K = K := by rfl) : CallR X (.type "list") (rListOf K) := h ▸ call_list_of
theorem kx_all (K : Fg) (h : X.K = K := by rfl) (hc : X.calm = true := by rfl) : CallR X (.builtin "all") (rAll K) := h ▸ call_all hc
theorem kx_pair {es : List Expr} {k1 : Nat} {t : TGs} {n : Nat} {pos : Pos} (K : Fg) (h2 : PGs X es t) (h : X.K = K := by rfl) (hc : X.calm = true := by rfl) (hn : (assignEach es X.env).length = n := by rfl) (hst : (assignEach es X.env).findIdx? (·.1) = none := by rfl) : PG X (.Tuple es k1 pos) (gTup K n t) := h ▸ pg_tup hc h2 hn hst
def tTru (K : Fg) (ta : TE) : TT := λ σ H Q => ta σ H λ x H' => ∃ k, TruV K x H' k /\ Q k H'
theorem kx_tru {a : Expr} {ta : TE} (K : Fg) (ha : PE X a ta) (h : X.K = K := by rfl) (he : ∀ whole, isTrue a X.env whole = (do let v <- whole; standAt a.pos; holding [v] (truthy v)) := by intro _; rfl) : PT X a (tTru K ta) := h ▸ pt_truth ha he
end
theorem inV_int (c : Int) : ∀ u : List Int, inV (.int c) (u.map V.int) = decide (c ∈ u)
 | [] => rfl
 | a :: u => by
  have ih := inV_int c u
  show (eqV (.int a) (.int c) || inV (.int c) (u.map V.int)) = _
  rw [ih]
  show ((a == c) || decide (c ∈ u)) = _
  by_cases e : a = c
  · subst e; simp
  · have e' : ¬ c = a := λ z => e z.symm
    have : (a == c) = false := by simpa using e
    rw [this]
    simp [e']
theorem flat_ints : ∀ u : List Int, (u.map V.int).all flatV = true
 | [] => rfl
 | _ :: u => by
  show (true && (u.map V.int).all flatV) = true
  rw [flat_ints u]
  rfl
theorem cells_mem : ∀ {names : List (Str × NameKind)} {n : Nat} {acc : List (Str × Addr)} {x : Str} {c : Addr}, (x, c) ∈ cellsFrom n names acc -> (x, c) ∈ acc \/ (n <= c /\ (x, NameKind.cell) ∈ names)
 | [], n, acc, x, c, h => .inl h
 | (y, k) :: r, n, acc, x, c, h => by
  unfold cellsFrom at h
  by_cases hk : (k == .cell) = true
  · rw [if_pos hk] at h
    have hk' : k = .cell := by simpa using hk
    rcases cells_mem h with q | ⟨q1, q2⟩
    · rcases Qb.mp q with q | q
      · injection q with q1 q2
        subst q1 q2
        exact .inr ⟨Q4 _, by rw [hk']; exact lMs⟩
      · exact .inl q
    · exact .inr ⟨Nat.le_of_succ_le q1, lMc _ q2⟩
  · rw [if_neg hk] at h
    rcases cells_mem h with q | ⟨q1, q2⟩
    · exact .inl q
    · exact .inr ⟨q1, lMc _ q2⟩
theorem cells_inj : ∀ {names : List (Str × NameKind)} {n : Nat} {acc : List (Str × Addr)} {x y : Str} {c : Addr}, (∀ z ∈ acc, z.2 < n) -> (x, c) ∈ cellsFrom n names acc -> (y, c) ∈ cellsFrom n names acc -> n <= c -> x = y
 | [], n, acc, x, y, c, ha, h1, _, hc => absurd (ha _ h1) (Nat.not_lt.mpr hc)
 | (z, k) :: r, n, acc, x, y, c, ha, h1, h2, hc => by
  unfold cellsFrom at h1 h2
  by_cases hk : (k == .cell) = true
  · rw [if_pos hk] at h1 h2
    have ha' : ∀ w ∈ (z, n) :: acc, w.2 < n + 1 := λ w hw => by
     rcases Qb.mp hw with q | q
     · rw [q]; exact Nat.lt_succ_self _
     · exact Nat.lt_succ_of_lt (ha w q)
    by_cases e : c = n
    · subst e
      have only : ∀ {u : Str}, (u, c) ∈ cellsFrom (c + 1) r ((z, c) :: acc) -> u = z := λ {u} hu => by
       rcases cells_mem hu with q | ⟨q, _⟩
       · rcases Qb.mp q with q | q
         · injection q
         · exact absurd (ha _ q) (zT _)
       · exact absurd q (Nat.not_succ_le_self _)
      rw [only h1, only h2]
    · exact cells_inj ha' h1 h2 (Nat.succ_le_of_lt (Nat.lt_of_le_of_ne hc (λ q => e q.symm)))
  · rw [if_neg hk] at h1 h2
    exact cells_inj ha h1 h2 hc
theorem cells_new {lo : Nat} : ∀ {names : List (Str × NameKind)} {n : Nat} {acc : List (Str × Addr)} {x : Str} {c : Addr}, lo <= n -> (names.lookup x = some .cell \/ ∃ c0, acc.lookup x = some c0 /\ lo <= c0) -> (cellsFrom n names acc).lookup x = some c -> lo <= c
 | [], n, acc, x, c, hn, h, e => by
  rcases h with h | ⟨c0, h1, h2⟩
  · simp at h
  · have e' : acc.lookup x = some c := e
    rw [h1] at e'
    cases e'
    exact h2
 | (y, k) :: r, n, acc, x, c, hn, h, e => by
  unfold cellsFrom at e
  by_cases hk : (k == .cell) = true
  · rw [if_pos hk] at e
    refine cells_new (Nat.le_succ_of_le hn) ?_ e
    cases hx : x == y with
    | true => exact .inr ⟨n, by simp [Q5, hx], hn⟩
    | false =>
     rcases h with h | ⟨c0, h1, h2⟩
     · exact .inl (by simpa only [Q5, hx] using h)
     · exact .inr ⟨c0, by simpa only [Q5, hx] using h1, h2⟩
  · rw [if_neg hk] at e
    refine cells_new hn ?_ e
    rcases h with h | h
    · cases hx : x == y with
      | true =>
       simp only [Q5, hx] at h
       have : k = .cell := zV h
       rw [this] at hk
       exact absurd rfl hk
      | false => exact .inl (by simpa only [Q5, hx] using h)
    · exact .inr h
theorem cells_old : ∀ {names : List (Str × NameKind)} {n : Nat} {acc : List (Str × Addr)} {x : Str}, (∀ y ∈ names, y.1 = x -> y.2 ≠ .cell) -> (cellsFrom n names acc).lookup x = acc.lookup x
 | [], _, _, _, _ => rfl
 | (y, k) :: r, n, acc, x, h => by
  have hr : ∀ z ∈ r, z.1 = x -> z.2 ≠ .cell := λ z hz => h z (lMc _ hz)
  unfold cellsFrom
  by_cases hk : (k == .cell) = true
  · rw [if_pos hk, cells_old hr]
    have hk' : k = .cell := by simpa using hk
    have hx : (x == y) = false := by
     have : y ≠ x := λ q => h (y, k) lMs q hk'
     simpa using λ q : x = y => this q.symm
    simp only [Q5, hx]
  · rw [if_neg hk, cells_old hr]
theorem push_cells : ∀ {names : List (Str × NameKind)} {h : Heap} {acc : List (Str × Addr)} {x : Str} {c : Addr}, (∀ z ∈ acc, z.2 < h.objs.size) -> (x, c) ∈ cellsFrom h.objs.size names acc -> h.objs.size <= c -> (pushCells h names).IsCell c none
 | [], h, acc, x, c, ha, hm, hc => absurd (ha _ hm) (Nat.not_lt.mpr hc)
 | (y, k) :: r, h, acc, x, c, ha, hm, hc => by
  unfold cellsFrom at hm
  unfold pushCells
  by_cases hk : (k == .cell) = true
  · rw [if_pos hk] at hm ⊢
    have z : (h.push { cls := .type "cell", data := .cell none }).objs.size = h.objs.size + 1 := Heap.size_push ..
    have ha' : ∀ w ∈ (y, h.objs.size) :: acc, w.2 < (h.push { cls := .type "cell", data := .cell none }).objs.size := λ w hw => by
     rw [z]
     rcases Qb.mp hw with q | q
     · rw [q]; exact Nat.lt_succ_self _
     · exact Nat.lt_succ_of_lt (ha w q)
    by_cases e : c = h.objs.size
    · exact ⟨_, pushCells_keeps _ _ _ _ (by rw [e]; exact hPs _ rfl), rfl⟩
    · rw [<- z] at hm
      exact push_cells ha' hm (by rw [z]; exact Nat.succ_le_of_lt (Nat.lt_of_le_of_ne hc λ q => e q.symm))
  · rw [if_neg hk] at hm ⊢
    exact push_cells ha hm hc
theorem relab_cf {env : Env} : ∀ {names : List (Str × NameKind)} {x : Str},
 (((names.map λ (n, k) => if (k == NameKind.free && env.scope.kind == .function && env.kindOf n == some .cell) then (n, NameKind.cell) else (n, k)).lookup x = some .cell) \/
  ((names.map λ (n, k) => if (k == NameKind.free && env.scope.kind == .function && env.kindOf n == some .cell) then (n, NameKind.cell) else (n, k)).lookup x = some .free)) ->
 names.lookup x = some .cell \/ names.lookup x = some .free
 | [], x, h => by rcases h with h | h <;> simp at h
 | (n, k) :: r, x, h => by
  have e1 : ((n, k) :: r).map (λ (n, k) => if (k == NameKind.free && env.scope.kind == .function && env.kindOf n == some .cell) = true then (n, NameKind.cell) else (n, k)) =
   (if (k == NameKind.free && env.scope.kind == .function && env.kindOf n == some .cell) = true then (n, NameKind.cell) else (n, k)) :: r.map (λ (n, k) => if (k == NameKind.free && env.scope.kind == .function && env.kindOf n == some .cell) = true then (n, NameKind.cell) else (n, k)) := rfl
  rw [e1] at h
  cases hx : x == n with
  | true =>
   by_cases c : (k == NameKind.free && env.scope.kind == .function && env.kindOf n == some .cell) = true
   · have : k = .free := by
      simp only [Q6] at c
      simpa using c.1.1
     subst this
     right
     simp [Q5, hx]
   · rw [if_neg c] at h
     simpa only [Q5, hx] using h
  | false =>
   have : ((r.map λ (n, k) => if (k == NameKind.free && env.scope.kind == .function && env.kindOf n == some .cell) = true then (n, NameKind.cell) else (n, k)).lookup x = some .cell) \/
    ((r.map λ (n, k) => if (k == NameKind.free && env.scope.kind == .function && env.kindOf n == some .cell) = true then (n, NameKind.cell) else (n, k)).lookup x = some .free) := by
    by_cases c : (k == NameKind.free && env.scope.kind == .function && env.kindOf n == some .cell) = true
    · rw [if_pos c] at h; simpa only [Q5, hx] using h
    · rw [if_neg c] at h; simpa only [Q5, hx] using h
   have q := relab_cf this
   simpa only [Q5, hx] using q
section
variable {M : Model} {A : Around} {E : Value -> Shared -> Prop} {s : Shared}
theorem nfe_cells {scope : Scope} {cl : List (Str × Addr)} {env : Env} {Q : Env -> Shared -> Prop}
 (hQ : Q { scope := scope, locals := s.heap.objs.size, globals := env.globals, cells := cellsFrom (s.heap.objs.size + 1) scope.names cl, qual := env.qual, func := none, code := env.code, frame := env.frame, builtins := env.builtins }
  { s with heap := pushCells (s.heap.push { cls := .type "dict", data := .dict #[] }) scope.names }) : wpAny M A (newFunctionEnv scope env.globals cl [] env.qual none .none (some env)) Q E s := by
 simp only [newFunctionEnv, Option.isSome_some, if_true]
 refine wB (wpAny_alloc ?_)
 refine wB (wpAny_layCells _ (λ name kind cells => by cases hkc : kind == NameKind.cell <;> simp [hkc]) _ _ _ _ ?_)
 rw [show ({ s with heap := s.heap.push { cls := .type "dict", data := .dict #[] } } : Shared).heap.objs.size = s.heap.objs.size + 1 from Heap.size_push ..]
 simp only [List.forIn_nil]
 exact wB (wP (wP hQ))
end
noncomputable def cxCp (X : Cx) (N : List Str) (sc : Scope) (C : Addr) (fp : List Addr) (s : Shared) (H : Hp) : Cx :=
 { X with N := N, s₀ := s, H₀ := H, env := compEnvC sc (cellsFrom (C + 1) sc.names (clOf X.env sc.names [])) C X.env, outer := X.stack, ex := fp, fn := λ x => sc.names.lookup x == some .cell, pn := [], xe := λ _ _ => False }
section
variable {X : Cx}
theorem cp_cells {pins : List (Addr × Obj)} {σ : St} {H : Hp} {s : Shared} {sc : Scope} (I : Inv X pins σ H s) (hfree : ∀ y ∈ sc.names, y.2 = .free -> X.env.kindOf y.1 = some .cell \/ X.env.kindOf y.1 = some .free) {x : Str} {c : Addr}
 (e : (x, c) ∈ cellsFrom (s.heap.objs.size + 2) sc.names (clOf X.env sc.names [])) : (X.env.cells.lookup x = some c /\ c < s.heap.objs.size) \/ s.heap.objs.size + 2 <= c := by
 have hcl : ∀ y ∈ sc.names, y.2 = .free -> ∃ c, X.env.cells.lookup y.1 = some c := λ y hy e => I.ok.has _ (hfree y hy e)
 rcases cells_mem e with q | ⟨q, _⟩
 · rcases clOf_mem hcl q with q | q
   · simp at q
   · obtain ⟨v, hv⟩ := I.cell x c q
     obtain ⟨o, ho, _⟩ := hv
     exact .inl ⟨q, hLs ho⟩
 · exact .inr q
theorem cp_acc {pins : List (Addr × Obj)} {σ : St} {H : Hp} {s : Shared} {sc : Scope} (I : Inv X pins σ H s) (hfree : ∀ y ∈ sc.names, y.2 = .free -> X.env.kindOf y.1 = some .cell \/ X.env.kindOf y.1 = some .free) :
 ∀ z ∈ clOf X.env sc.names [], z.2 < s.heap.objs.size := λ z hz => by
 have hcl : ∀ y ∈ sc.names, y.2 = .free -> ∃ c, X.env.cells.lookup y.1 = some c := λ y hy e => I.ok.has _ (hfree y hy e)
 rcases clOf_mem (x := z.1) (c := z.2) hcl hz with q | q
 · simp at q
 · obtain ⟨v, hv⟩ := I.cell _ _ q
   obtain ⟨o, ho, _⟩ := hv
   exact hLs ho
theorem cp_ok {pins : List (Addr × Obj)} {σ : St} {H : Hp} {s : Shared} {N : List Str} {sc : Scope} {fp : List Addr} (I : Inv X pins σ H s) (hk : sc.kind = .function)
 (hfree : ∀ y ∈ sc.names, y.2 = .free -> X.env.kindOf y.1 = some .cell \/ X.env.kindOf y.1 = some .free) (hf : ∀ b ∈ fp, FpOk X pins H b) (hb : ∀ b ∈ fp, b < s.heap.objs.size) :
 (cxCp X N sc (s.heap.objs.size + 1) fp s H).Ok := by
 have cc : ∀ x c, (cellsFrom (s.heap.objs.size + 2) sc.names (clOf X.env sc.names [])).lookup x = some c -> (X.env.cells.lookup x = some c /\ c < s.heap.objs.size) \/ s.heap.objs.size + 2 <= c := λ x c e => cp_cells I hfree (PySem.mem_of_lookup e)
 have ca : ∀ z ∈ clOf X.env sc.names [], z.2 < s.heap.objs.size + 2 := λ z hz => nLl (cp_acc I hfree z hz) (Nat.le_add_right _ _)
 exact {
  mod := I.ok.mod
  kind := hk
  glob := I.ok.glob
  blt := I.ok.blt
  above := Nat.le_succ _
  inj := λ x y c h1 h2 => by
   have h1' : (cellsFrom (s.heap.objs.size + 2) sc.names (clOf X.env sc.names [])).lookup x = some c := h1
   have h2' : (cellsFrom (s.heap.objs.size + 2) sc.names (clOf X.env sc.names [])).lookup y = some c := h2
   rcases cc x c h1' with ⟨q1, l1⟩ | q1
   · rcases cc y c h2' with ⟨q2, _⟩ | q2
     · exact I.ok.inj x y c q1 q2
     · exact absurd (nLl l1 (Q7 (Nat.le_add_right _ 2) q2)) (zT _)
   · exact cells_inj ca (PySem.mem_of_lookup h1') (PySem.mem_of_lookup h2') q1
  has := λ x h => by
   have h' := relab_cf h
   have q : ((cellsFrom (s.heap.objs.size + 2) sc.names (clOf X.env sc.names [])).lookup x).isSome = true := by
    rcases h' with h' | h'
    · exact PySem.W.cellsFrom_some _ _ _ (.inl h')
    · obtain ⟨c, hc⟩ := clOf_has (env := X.env) (acc := []) (.inl (PySem.mem_of_lookup h'))
      obtain ⟨d, hd⟩ := lookup_of_mem hc
      exact PySem.W.cellsFrom_some _ _ _ (.inr (by rw [hd]; rfl))
   exact Option.isSome_iff_exists.mp q
  cab := λ x c h e => by
   have h' : sc.names.lookup x = some .cell := by simpa [cxCp] using h
   exact Q7 (Nat.le_add_right _ 2) (cells_new (Q4 _) (.inl h') e)
  hd := I.ok.hd
  frames := I.ok.frames
  stk := .inl rfl
  exf := λ b hb' => ⟨nNl (Nat.lt_succ_of_lt (hb b hb')), λ x c e => by
   rcases cc x c e with ⟨q, _⟩ | q
   · exact (hf b hb').2.2.2.2.1 x c q
   · exact nNg (nLl (hb b hb') (Q7 (Nat.le_add_right _ 2) q))⟩
  bs := I.bs
  bsz := Q7 I.ok.bsz I.sz
  noex := λ b o e hb' => by
   rcases (hf b hb').2.2.2.1 with q | q
   · exact I.ok.noex b o e q
   · exact absurd (nLl (hLs e) (Q7 I.ok.bsz q)) (zT _)
  exfs := λ b hb' hs => by
   have q := I.stkSub b hs
   rcases Qb.mp q with q | q
   · exact (hf b hb').2.1 q
   · exact (hf b hb').2.2.1 q
  funs := I.stack
  frf := I.stkFree }
theorem cp_start {pins : List (Addr × Obj)} {σ : St} {H : Hp} {s : Shared} {h1 : Heap} {own : List Str} {fr : List (Str × Nat)} {n : Nat} {sc : Scope} {fp : List Addr} {m : Str -> Option Value} {t' : Nat} (I : Inv X pins σ H s) (hk : sc.kind = .function)
 (hfree : ∀ y ∈ sc.names, y.2 = .free -> X.env.kindOf y.1 = some .cell \/ X.env.kindOf y.1 = some .free) (hfr : ∀ p ∈ fr, X.N[p.2]? = some p.1 /\ sc.names.lookup p.1 = some .free /\ ∀ y ∈ sc.names, y.1 = p.1 -> y.2 ≠ .cell) (hn : own.length = n) (hf : ∀ b ∈ fp, FpOk X pins H b) (hb : ∀ b ∈ fp, b < s.heap.objs.size)
 (ns : h1.Ns (s.heap.objs.size + 1) m) (hD : h1.get? s.heap.objs.size = some { cls := .type "list", data := .seq ([] : List Value).toArray }) (old : ∀ b o, s.heap.get? b = some o -> h1.get? b = some o)
 (hnc : ∀ x c, (x, c) ∈ cellsFrom (s.heap.objs.size + 2) sc.names (clOf X.env sc.names []) -> s.heap.objs.size + 2 <= c -> h1.IsCell c none) :
 Inv (cxCp X (own ++ fr.map (·.1)) sc (s.heap.objs.size + 1) fp s H) [] (st0 n fr σ) (upd H s.heap.objs.size (.lst [])) { s with heap := h1, toks := t' } := by
 have hcl : ∀ y ∈ sc.names, y.2 = .free -> ∃ c, X.env.cells.lookup y.1 = some c := λ y hy e => I.ok.has _ (hfree y hy e)
 have look : ∀ x c, (clOf X.env sc.names []).lookup x = some c -> X.env.cells.lookup x = some c := λ x c e => by
  rcases clOf_mem hcl (PySem.mem_of_lookup e) with q | q
  · simp at q
  · exact q
 have cellK : ∀ {c v}, s.heap.IsCell c v -> h1.IsCell c v := λ {c v} q => by
  obtain ⟨o, ho, r⟩ := q
  exact ⟨o, old _ _ ho, r⟩
 have cc : ∀ x c, (cellsFrom (s.heap.objs.size + 2) sc.names (clOf X.env sc.names [])).lookup x = some c -> (X.env.cells.lookup x = some c /\ c < s.heap.objs.size) \/ s.heap.objs.size + 2 <= c := λ x c e => cp_cells I hfree (PySem.mem_of_lookup e)
 have hnD : H s.heap.objs.size = none := I.hok.fresh (Q4 _)
 have hnC : H (s.heap.objs.size + 1) = none := I.hok.fresh (Nat.le_succ _)
 refine ⟨cp_ok I hk hfree hf hb, rfl, I.bare, Un.laid old (Q4 _) hnD, ⟨m, ns, λ i x v h1' h2 h3 => ?_⟩, λ x c e => ?_, ?_, λ x c e => ?_, λ p hp => ?_, I.hok.laid old (Q4 _) ?_, ?_⟩
 · obtain ⟨p, hp, e, q⟩ := st0_get hn h1' h2
   subst e
   obtain ⟨hN, hl, hno⟩ := hfr p hp
   obtain ⟨m0, _, q0⟩ := I.loc
   have kk := hfree (p.1, .free) (PySem.mem_of_lookup hl) rfl
   obtain ⟨u, ru, lk⟩ := q0 p.2 p.1 v hN q (.inr kk)
   refine ⟨u, ru, .inr ⟨relab_kind hl, ?_⟩⟩
   rcases lk with ⟨k1, _⟩ | ⟨_, c, e1, e2⟩
   · rcases kk with kk | kk
     · have kk' : X.env.kindOf p.1 = some .cell := kk
       rw [k1] at kk'; cases kk'
     · have kk' : X.env.kindOf p.1 = some .free := kk
       rw [k1] at kk'; cases kk'
   · obtain ⟨d, hd⟩ := clOf_has (env := X.env) (acc := []) (.inl (PySem.mem_of_lookup hl))
     obtain ⟨d', hd'⟩ := lookup_of_mem hd
     have e3 := look _ _ hd'
     rw [e1] at e3
     cases e3
     refine ⟨c, ?_, cellK e2⟩
     show (cellsFrom (s.heap.objs.size + 2) sc.names (clOf X.env sc.names [])).lookup p.1 = some c
     rw [cells_old hno]
     exact hd'
 · rcases cc x c e with ⟨q, _⟩ | q
   · obtain ⟨v, hv⟩ := I.cell x c q
     exact ⟨v, cellK hv⟩
   · exact ⟨none, hnc x c (PySem.mem_of_lookup e) q⟩
 · show upd H s.heap.objs.size _ (s.heap.objs.size + 1) = none
   rw [upd_ne (Nat.succ_ne_self _)]; exact hnC
 · show upd H s.heap.objs.size _ c = none
   rcases cc x c e with ⟨q, l⟩ | q
   · rw [upd_ne (nNl l)]; exact I.freeC x c q
   · rw [upd_ne (nNg (nLl (Nat.lt_succ_of_lt (Nat.lt_succ_self _)) q))]
     exact I.hok.fresh (Q7 (Nat.le_add_right _ 2) q)
 · exact absurd (show p ∈ ([] : List (Addr × Obj)) from hp) (by simp)
 · exact ⟨by show 0 <= sizeLine; decide, [], _, .nil, hD⟩
 · show (st0 n fr σ).length = (own ++ fr.map (·.1)).length
   unfold st0
   simp [hn]
theorem cp_block {elt target iter : Expr} {ifs : List Expr} {sc : Scope} {pos : Pos} (own : List Str) (fr : List (Str × Nat)) {g : TG} {tc : TT} {te : TE} (hc : X.calm = true)
 (hk : sc.kind = .function) (hfree : ∀ y ∈ sc.names, y.2 = .free -> X.env.kindOf y.1 = some .cell \/ X.env.kindOf y.1 = some .free)
 (hfr : ∀ p ∈ fr, X.N[p.2]? = some p.1 /\ sc.names.lookup p.1 = some .free /\ ∀ y ∈ sc.names, y.1 = p.1 -> y.2 ≠ .cell)
 (hg : ∀ C fp s H, PG (cxCp X (own ++ fr.map (·.1)) sc C fp s H) target g) (ht : ∀ C fp s H, PTs (cxCp X (own ++ fr.map (·.1)) sc C fp s H) ifs tc) (he : ∀ C fp s H, PE (cxCp X (own ++ fr.map (·.1)) sc C fp s H) elt te)
 {pins : List (Addr × Obj)} {σ : St} {s2 : Shared} {RR : Value -> Addr -> Result -> Shared -> Prop} {Q : V -> Hp -> Prop} {itv : Value}
 (h2 : PIE X pins σ target (λ J H1 => ∀ acc, H1 acc = none ->
  ∃ W : Nat -> Nat -> St -> Hp -> Prop, (∃ m, W 0 m (st0 own.length fr σ) (upd H1 acc (.lst []))) /\ ∀ i m σ' H', W i m σ' H' ->
   (J.stop i H' /\ Q (.ref acc) H') \/ (J.go i H' /\ ∃ Nx : St -> Hp -> Prop, (∀ σ2 H2, Nx σ2 H2 -> ∃ m', m' < m /\ W (i + 1) m' σ2 H2) /\
    ∀ x H2, J.yld i H' x H2 -> g x σ' H2 λ σ2 H3 => tc σ2 H3 λ b H4 => if b = true then te σ2 H4 λ y H5 => ∃ ys, H5 acc = some (.lst ys) /\ ys.length < sizeLine /\ Nx σ2 (upd H5 acc (.lst (ys ++ [y]))) else Nx σ2 H4)) itv s2)
 (hRR : ∀ (D C : Addr) (s4 : Shared) (H3 : Hp) (m4 : Str -> Option Value), s2.heap.objs.size <= C -> s4.heap.Ns C m4 -> H3 C = none -> Q (.ref D) H3 ->
  (∀ h' : Heap, (∀ b, b ≠ C -> h'.get? b = s4.heap.get? b) -> Inv X pins σ H3 { s4 with heap := h' }) -> RR (.ref D) C (.ok .next) s4) :
 wpAny (model X.prog X.w) X.A (newList []) (λ acc s₃ => wpAny (model X.prog X.w) X.A (newFunctionEnv sc X.env.globals (clOf X.env sc.names []) [] X.env.qual none .none (some X.env)) (λ cenv s₄ =>
  codeAny (model X.prog X.w) X.A (.compStart (.ListComp elt [⟨target, iter, ifs, 0⟩] sc pos) 0 itv acc { cenv with scope := relabel sc X.env }) (RR acc cenv.locals) s₄) X.xe s₃) X.xe s2 := by
 obtain ⟨it, fp, tn, J, H2, e, I2, T, st2, f2, r⟩ := h2
 subst e
 refine wpAny_newObj_type (nfe_cells ?_)
 dsimp only
 generalize hH2 : s2.heap.push { cls := .type "list", dict := none, data := .seq ([] : List Value).toArray } = G2
 have hC : G2.objs.size = s2.heap.objs.size + 1 := by rw [<- hH2, Heap.size_push]
 have z3 : (G2.push { cls := .type "dict", data := .dict #[] }).objs.size = s2.heap.objs.size + 2 := by rw [Heap.size_push, hC]
 generalize hh1 : pushCells (G2.push { cls := .type "dict", data := .dict #[] }) sc.names = h₁
 have kp : ∀ b o, (G2.push { cls := .type "dict", data := .dict #[] }).get? b = some o -> h₁.get? b = some o := λ b o e => by rw [<- hh1]; exact pushCells_keeps _ _ b o e
 have old : ∀ b o, s2.heap.get? b = some o -> h₁.get? b = some o := λ b o e => kp b o (hPo _ (hH2 ▸ hPo _ e))
 have hD : h₁.get? s2.heap.objs.size = some { cls := .type "list", data := .seq ([] : List Value).toArray } := kp _ _ (hPo _ (hH2 ▸ hPs _ rfl))
 have hns₁ : h₁.Ns (s2.heap.objs.size + 1) (λ _ => none) := by
  rw [<- hC]
  exact (Heap.Ns.new G2 (.type "dict")).keeps kp
 have hnc : ∀ x c, (x, c) ∈ cellsFrom (s2.heap.objs.size + 2) sc.names (clOf X.env sc.names []) -> s2.heap.objs.size + 2 <= c -> h₁.IsCell c none := λ x c hm hc' => by
  rw [<- hh1]
  refine push_cells (acc := clOf X.env sc.names []) (x := x) (λ z hz => ?_) (by rw [z3]; exact hm) (by rw [z3]; exact hc')
  rw [z3]
  exact nLl (cp_acc I2 hfree z hz) (Nat.le_add_right _ _)
 rw [hC]
 have below : ∀ b, b < s2.heap.objs.size -> b ≠ s2.heap.objs.size + 1 := λ b hb => nNl (Nat.lt_succ_of_lt hb)
 have hb : ∀ b ∈ fp, b < s2.heap.objs.size := λ b hb => by
  obtain ⟨o, e, _⟩ := T.obj _ _ st2 b hb
  exact hLs e
 have st1 : tn 0 h₁ := T.keep _ _ _ st2 λ b _ o e => old b o e
 obtain ⟨W, ⟨m0, w0⟩, turn⟩ := r s2.heap.objs.size (I2.hok.fresh (Q4 _))
 have J0 : ∀ t', Inv (cxCp X (own ++ fr.map (·.1)) sc (s2.heap.objs.size + 1) fp s2 H2) [] (st0 own.length fr σ) (upd H2 s2.heap.objs.size (.lst [])) { s2 with heap := h₁, toks := t' } := λ t' =>
  cp_start I2 hk hfree hfr rfl f2 hb hns₁ hD old hnc
 have fpn : ∀ b ∈ fp, upd H2 s2.heap.objs.size (.lst []) b = none := λ b hb' => by rw [upd_ne (nNl (hb b hb'))]; exact (f2 b hb').1
 have stat : ∀ {H' : Hp}, (∀ b ∈ fp, H' b = none) -> ∀ b ∈ fp, FpOk (cxCp X (own ++ fr.map (·.1)) sc (s2.heap.objs.size + 1) fp s2 H2) [] H' b := λ {H'} hn b hb' =>
  have ok := (J0 0).ok
  ⟨hn b hb', (ok.exf b hb').1, ok.exfs b hb', .inl hb', (ok.exf b hb').2, λ p hp => absurd (show p ∈ ([] : List (Addr × Obj)) from hp) (by simp)⟩
 have loop : ∀ s3 : Shared, s3 = { s2 with heap := h₁ } ->
  codeAny (model X.prog X.w) X.A (.compLoop (.ListComp elt [⟨target, iter, ifs, 0⟩] sc pos) 0 (.ref it) (.ref s2.heap.objs.size) (compEnvC sc (cellsFrom (s2.heap.objs.size + 1 + 1) sc.names (clOf X.env sc.names [])) (s2.heap.objs.size + 1) X.env))
   (RR (.ref s2.heap.objs.size) (s2.heap.objs.size + 1)) s3 := by
  rintro s3 rfl
  refine compLoop_go (λ n s' => ∃ i σ' H', Inv (cxCp X (own ++ fr.map (·.1)) sc (s2.heap.objs.size + 1) fp s2 H2) [] σ' H' s' /\ tn i s'.heap /\ (∀ b ∈ fp, H' b = none) /\ W i n σ' H') ?_ m0 ⟨0, _, _, J0 _, st1, fpn, w0⟩
  rintro n s3 ⟨i, σ3, H3, I3, st3, fr3, w3⟩
  rcases turn i n σ3 H3 w3 with ⟨stop, qn⟩ | ⟨go, N, hN, step⟩
  · refine thn (T.done (cxCp X (own ++ fr.map (·.1)) sc (s2.heap.objs.size + 1) fp s2 H2) rfl rfl rfl hc i [] s3 σ3 H3 (λ _ _ => False) I3 (stat fr3) st3 stop) λ r s4 q_ => ?_
    obtain ⟨hr, I4⟩ := q_
    subst hr
    obtain ⟨m4, ns4, _⟩ := I4.loc
    have hCn : H3 (s2.heap.objs.size + 1) = none := I4.free
    refine hRR _ _ s4 H3 m4 (Nat.le_succ _) ns4 hCn qn λ h' sb => ?_
    have u : Un (frs X.stack) fp H2 H3 s2.heap s4.heap := I4.base
    have u' : Un (frs X.stack) fp H2 H3 s2.heap h' := {
     keep := λ b o e n1 n2 n3 => (sb b (below b (hLs e))).trans (u.keep b o e n1 n2 n3)
     slot := λ b o e n1 n2 n3 => by
      obtain ⟨sl, q⟩ := u.slot b o e n1 n2 n3
      exact ⟨sl, (sb b (below b (hLs e))).trans q⟩
     free := u.free
     there := λ b o e n1 => by
      obtain ⟨o', q⟩ := u.there b o e n1
      exact ⟨o', (sb b (below b (hLs e))).trans q⟩
     tups := u.tups
     frzs := u.frzs
     tbls := u.tbls }
    have hok' : HOk X.prog X.w H3 h' := λ a o e => (I4.hok a o e).stay (λ b u q z => (sb b (by
     rcases q with q | q
     · subst q; exact ne_of_none e hCn
     · exact ne_of_none q hCn)).trans z) (λ _ q => q) (λ _ _ q => q) λ _ _ _ q => q
    exact I2.call' (s' := { s4 with heap := h' }) (ch := fp) I4.os u' hok' I4.bare λ b hb' => ⟨(f2 b hb').2.2.2.1, (f2 b hb').2.1, (f2 b hb').2.2.2.2.1, (f2 b hb').2.2.2.2.2⟩
  · refine thn (T.item (cxCp X (own ++ fr.map (·.1)) sc (s2.heap.objs.size + 1) fp s2 H2) rfl rfl rfl hc i [] s3 σ3 H3 (λ _ _ => False) I3 (stat fr3) st3 go) λ r s4 q_ => ?_
    obtain ⟨u, hr, h4⟩ := q_
    subst hr
    refine thn h4 λ _ s5 q_ => ?_
    obtain ⟨x, H5, I5, r5, y5, st5, fr5⟩ := q_
    have I5' := I5.pinned (stat fr5) (T.obj _ _ st5)
    refine thn (hg _ _ _ _ _ s5 σ3 H5 x u _ I5' r5 (step x H5 y5)) λ _ s6 q_ => ?_
    obtain ⟨σ6, H6, I6, q6⟩ := q_
    refine thn (ht _ _ _ _ _ s6 σ6 H6 _ I6 q6) λ b s7 q_ => ?_
    obtain ⟨H7, I7, q7⟩ := q_
    have again : ∀ {σ7 : St} {H7 : Hp} {s7 : Shared}, Inv (cxCp X (own ++ fr.map (·.1)) sc (s2.heap.objs.size + 1) fp s2 H2) ([] ++ pinsAt fp s5.heap) σ7 H7 s7 -> N σ7 H7 ->
     ∃ m, m < n /\ ∃ i σ' H', Inv (cxCp X (own ++ fr.map (·.1)) sc (s2.heap.objs.size + 1) fp s2 H2) [] σ' H' s7 /\ tn i s7.heap /\ (∀ b ∈ fp, H' b = none) /\ W i m σ' H' := λ {σ7 H7 s7} I7 n7 => by
     obtain ⟨m', hm, w7⟩ := hN σ7 H7 n7
     refine ⟨m', hm, i + 1, σ7, H7, I7.unpinned, T.keep _ _ _ st5 λ b hb o e => (I7.pin (b, o) (Q8 _ (Q8 _ (mem_pinsAt hb e)))).1, λ b hb => ?_, w7⟩
     obtain ⟨o, e, d⟩ := T.obj _ _ st5 b hb
     exact (I7.pin (b, o) (Q8 _ (Q8 _ (mem_pinsAt hb e)))).2.1
    cases b with
    | false =>
     have q7' : N σ6 H7 := q7
     rw [if_neg (by simp)]
     exact again I7 q7'
    | true =>
     rw [if_pos rfl]
     refine thn (he _ _ _ _ _ s7 σ6 H7 _ I7 q7) λ yv s8 q_ => ?_
     obtain ⟨y, H8, I8, r8, ys, e8, z8, n8⟩ := q_
     refine thn (mt_append (X := cxCp X (own ++ fr.map (·.1)) sc (s2.heap.objs.size + 1) fp s2 H2) _ s8 σ6 H8 (.ref s2.heap.objs.size) [y] _ [yv] (λ v H' => v = .non /\ H' = upd H8 s2.heap.objs.size (.lst (ys ++ [y]))) I8 rfl (.cons r8 .nil) ⟨_, ys, y, rfl, rfl, e8, z8, rfl, rfl⟩) λ _ s9 q_ => ?_
     obtain ⟨v, H9, I9, _, e1, e9⟩ := q_
     subst e9
     exact again I9 n8
 exact codeAny_compStart_list (loop _ rfl) (T.self X.A 0 _ _ _ st1 (loop _ rfl))
theorem cp_checks {sc : Scope} {fr : List (Str × Nat)} (hfree : (sc.names.all λ y => y.2 != .free || (X.env.kindOf y.1 == some .cell || X.env.kindOf y.1 == some .free)) = true)
 (hfr : (fr.all λ p => X.N[p.2]? == some p.1 && sc.names.lookup p.1 == some .free && sc.names.all λ y => y.1 != p.1 || y.2 != .cell) = true) (hnm : (sc.names.all λ y => y.2 != .local || sc.names.lookup y.1 == some .local) = true) :
 (∀ y ∈ sc.names, y.2 = .free -> X.env.kindOf y.1 = some .cell \/ X.env.kindOf y.1 = some .free) /\ (∀ p ∈ fr, X.N[p.2]? = some p.1 /\ sc.names.lookup p.1 = some .free /\ ∀ y ∈ sc.names, y.1 = p.1 -> y.2 ≠ .cell) /\ ∀ x ∈ sc.names, x.2 = .local -> sc.names.lookup x.1 = some .local := by
 refine ⟨λ y hy e => ?_, λ p hp => ?_, λ y hy e => ?_⟩
 · have := Qf.mp hfree y hy
   rw [e] at this
   simpa using this
 · have := Qf.mp hfr p hp
   rw [Q6, Q6, Qf] at this
   obtain ⟨⟨h1, h2⟩, h3⟩ := this
   refine ⟨by simpa using h1, by simpa using h2, λ y hy e z => ?_⟩
   have := h3 y hy
   rw [e, z] at this
   simp at this
 · have := Qf.mp hnm y hy
   rw [e] at this
   simpa using this
theorem pe_compC {elt target iter : Expr} {ifs : List Expr} {sc : Scope} {pos : Pos} (own : List Str) (fr : List (Str × Nat)) {wi : TI} {g : TG} {tc : TT} {te : TE} (hi : PI X target iter wi)
 (hg : ∀ C fp s H, PG (cxCp X (own ++ fr.map (·.1)) sc C fp s H) target g) (ht : ∀ C fp s H, PTs (cxCp X (own ++ fr.map (·.1)) sc C fp s H) ifs tc) (he : ∀ C fp s H, PE (cxCp X (own ++ fr.map (·.1)) sc C fp s H) elt te)
 (hc : X.calm = true := by rfl) (hk : sc.kind = .function := by rfl)
 (hfree : (sc.names.all λ y => y.2 != .free || (X.env.kindOf y.1 == some .cell || X.env.kindOf y.1 == some .free)) = true := by rfl)
 (hfr : (fr.all λ p => X.N[p.2]? == some p.1 && sc.names.lookup p.1 == some .free && sc.names.all λ y => y.1 != p.1 || y.2 != .cell) = true := by rfl) (hnm : (sc.names.all λ y => y.2 != .local || sc.names.lookup y.1 == some .local) = true := by rfl)
 (hs : ∀ x, foldedSetIterable iter X.env x = pure x := by intro _; rfl) :
 PE X (.ListComp elt [⟨target, iter, ifs, 0⟩] sc pos) (tComp own.length fr wi g tc te) := by
 obtain ⟨c1, c2, c3⟩ := cp_checks hfree hfr hnm
 intro pins s σ H Q I h
 rw [eval_ListComp]
 have hcl : ∀ y ∈ sc.names, y.2 = .free -> ∃ c, X.env.cells.lookup y.1 = some c := λ y hy e => I.ok.has _ (c1 y hy e)
 refine wpAny_comprehension_free (use := none) rfl hs (closureFor_eq hcl) hk c3 (thn (hi pins s σ H _ I h) λ xv s₁ h₁ => thn h₁ λ itv s2 h2 => ?_)
 refine cp_block (RR := λ acc C => compPost (model X.prog X.w) X.A X.xe none (EP X pins σ Q) acc C) own fr hc hk c1 c2 hg ht he h2 ?_
 intro D C s4 H3 m4 hC ns4 hCn q inv
 exact ⟨m4, ns4, λ h' sb => ⟨.ref D, H3, inv h' λ b hb => sb.2 b hb, rfl, q⟩⟩
theorem ps_setC {i : Nat} {x : Str} {elt target iter : Expr} {ifs : List Expr} {sc : Scope} {pos spos : Pos} {pos' : Pos} (own : List Str) (fr : List (Str × Nat)) {wi : TI} {g : TG} {tc : TT} {te : TE} (hN : X.N.Nodup) (hx1 : X.N[i]? = some x) (hx : Loc X.env.scope x) (hi : PI X target iter wi)
 (hg : ∀ C fp s H, PG (cxCp X (own ++ fr.map (·.1)) sc C fp s H) target g) (ht : ∀ C fp s H, PTs (cxCp X (own ++ fr.map (·.1)) sc C fp s H) ifs tc) (he : ∀ C fp s H, PE (cxCp X (own ++ fr.map (·.1)) sc C fp s H) elt te)
 (hsw : swapsWith (.ListComp elt [⟨target, iter, ifs, 0⟩] sc pos) (some (.Name x pos')) spos.line X.env = pure true := by rfl)
 (hc : X.calm = true := by rfl) (hk : sc.kind = .function := by rfl)
 (hfree : (sc.names.all λ y => y.2 != .free || (X.env.kindOf y.1 == some .cell || X.env.kindOf y.1 == some .free)) = true := by rfl)
 (hfr : (fr.all λ p => X.N[p.2]? == some p.1 && sc.names.lookup p.1 == some .free && sc.names.all λ y => y.1 != p.1 || y.2 != .cell) = true := by rfl) (hnm : (sc.names.all λ y => y.2 != .local || sc.names.lookup y.1 == some .local) = true := by rfl)
 (hs : ∀ x, foldedSetIterable iter X.env x = pure x := by intro _; rfl) (hl : X.env.scope.names.lookup x = some .local := by rfl) :
 PS X (.Assign [.Name x pos'] (.ListComp elt [⟨target, iter, ifs, 0⟩] sc pos) spos) (tAsg (tComp own.length fr wi g tc te) (gName i)) := by
 obtain ⟨c1, c2, c3⟩ := cp_checks hfree hfr hnm
 intro pins s σ H D I h
 rw [exec_Assign_Name_used _ _ _ _ hsw]
 refine wB (wpAny_standAt (wB ?_))
 show wpAny _ X.A (do let _ <- comprehension (.ListComp elt [⟨target, iter, ifs, 0⟩] sc pos) sc X.env _ (newList []) false (eval iter X.env) (some (assign (.Name x pos') X.env))) _ _ s
 have hcl : ∀ y ∈ sc.names, y.2 = .free -> ∃ c, X.env.cells.lookup y.1 = some c := λ y hy e => I.ok.has _ (c1 y hy e)
 refine wB (wpAny_mono (wpAny_comprehension_free (use := some (assign (.Name x pos') X.env)) (Q := λ _ s' => SP X pins D .next s') rfl hs (closureFor_eq hcl) hk c3 (thn (hi pins s σ H _ I h) λ xv s₁ h₁ => thn h₁ λ itv s2 h2 => ?_)) (λ _ s' hq => wP (wP hq)) λ _ _ e => e)
 refine cp_block (RR := λ acc C => compPost (model X.prog X.w) X.A X.xe (some (assign (.Name x pos') X.env)) (λ _ s' => SP X pins D .next s') acc C) (pins := pins) (σ := σ) (Q := λ x H1 => gName i x σ H1 D.nx) own fr hc hk c1 c2 hg ht he h2 ?_
 intro Da C s4 H3 m4 hC ns4 hCn q inv
 have I4 : Inv X pins σ H3 s4 := inv s4.heap λ b _ => rfl
 have lC : X.env.locals ≠ C := by
  intro z
  obtain ⟨it, fp, tn, J, H2, e, I2, _⟩ := h2
  exact absurd (nLl I2.lt (by rw [z]; exact hC)) (zT _)
 have cC : ∀ y c, X.env.cells.lookup y = some c -> c ≠ C := λ y c e z => by
  obtain ⟨it, fp, tn, J, H2, e', I2, _⟩ := h2
  obtain ⟨v, hv⟩ := I2.cell y c e
  exact absurd (nLl hv.lt (by rw [z]; exact hC)) (zT _)
 show wpAny _ X.A (assign (.Name x pos') X.env (.ref Da)) _ _ _
 refine wpAny_assign_Name (store_ok2 I4 hN hx1 hx (v := .ref Da) rfl (λ s5 I5 q_ => ?_) (.inr hl))
 obtain ⟨a, sb, ha⟩ := q_
 have aC : C ≠ a := λ z => by
  rcases ha with q1 | q1
  · exact lC (q1.symm.trans z.symm)
  · exact cC x a q1 z.symm
 refine ⟨m4, ns4.sameBut sb aC, λ h' sb' => ⟨_, H3, ?_, q⟩⟩
 obtain ⟨m5, n5, l5⟩ := I5.loc
 exact {
  ok := I5.ok
  os := I5.os
  bare := I5.bare
  base := {
   keep := λ b o e n1 n2 n3 => (sb'.2 b λ z => by
    obtain ⟨it, fp, tn, J, H2, e', I2, _⟩ := h2
    exact absurd (nLl (hLs e) (Q7 I2.sz (by rw [z]; exact hC))) (zT _)).trans (I5.base.keep b o e n1 n2 n3)
   slot := λ b o e n1 n2 n3 => by
    obtain ⟨sl, q⟩ := I5.base.slot b o e n1 n2 n3
    refine ⟨sl, (sb'.2 b λ z => ?_).trans q⟩
    obtain ⟨it, fp, tn, J, H2, e', I2, _⟩ := h2
    exact absurd (nLl (hLs e) (Q7 I2.sz (by rw [z]; exact hC))) (zT _)
   free := I5.base.free
   there := λ b o e n1 => by
    obtain ⟨o', q⟩ := I5.base.there b o e n1
    refine ⟨o', (sb'.2 b λ z => ?_).trans q⟩
    obtain ⟨it, fp, tn, J, H2, e', I2, _⟩ := h2
    exact absurd (nLl (hLs e) (Q7 I2.sz (by rw [z]; exact hC))) (zT _)
   tups := I5.base.tups
   frzs := I5.base.frzs
   tbls := I5.base.tbls }
  loc := ⟨m5, n5.sameBut sb' lC, λ j y v h1 h2' h3 => by
   obtain ⟨u, ru, lk⟩ := l5 j y v h1 h2' h3
   refine ⟨u, ru, ?_⟩
   rcases lk with ⟨k1, k2⟩ | ⟨k1, c, k2, k3⟩
   · exact .inl ⟨k1, k2⟩
   · exact .inr ⟨k1, c, k2, k3.sameBut sb' (cC y c k2)⟩⟩
  cell := λ y c e => by
   obtain ⟨v, hv⟩ := I5.cell y c e
   exact ⟨v, hv.sameBut sb' (cC y c e)⟩
  free := I5.free
  freeC := I5.freeC
  pin := λ p hp => by
   obtain ⟨q1, q2⟩ := I5.pin p hp
   refine ⟨(sb'.2 p.1 λ z => ?_).trans q1, q2⟩
   obtain ⟨it, fp, tn, J, H2, e', I2, _⟩ := h2
   exact absurd (nLl (hLs (I2.pin p hp).1) (by rw [z]; exact hC)) (zT _)
  hok := λ a o e => (I5.hok a o e).stay (λ b u q z => (sb'.2 b (by
   rcases q with q | q
   · subst q; exact ne_of_none e hCn
   · exact ne_of_none q hCn)).trans z) (λ _ q => q) (λ _ _ q => q) λ _ _ _ q => q
  len := I5.len }
end
end L2
namespace L2
open PySem PySem.Spec PyProof.Rows PySem.W
theorem ObjOk.there {P : Program} {w : World} {H : Hp} {h : Heap} {a : Addr} {o : HO} (x : ObjOk P w H h a o) : ∃ ob, h.get? a = some ob := by
 cases o with
 | lst xs => obtain ⟨_, _, _, _, e⟩ := x; exact ⟨_, e⟩
 | tup xs => obtain ⟨_, _, _, ⟨ob, e, _⟩, _⟩ := x; exact ⟨_, e⟩
 | dK kvs => obtain ⟨_, _, _, _, o, _, _, e, _⟩ := x; exact ⟨_, e⟩
 | dT kvs => obtain ⟨_, _, _, _, o, _, _, e, _⟩ := x; exact ⟨_, e⟩
 | set S n => obtain ⟨o, _, _, _, e, _⟩ := x; exact ⟨_, e⟩
 | ins C dx fs => obtain ⟨_, _, _, e, _⟩ := x; exact ⟨_, e⟩
 | own y => obtain ⟨_, e⟩ := x; exact ⟨_, e⟩
 | xd fs => obtain ⟨_, ⟨_, _, _, e, _⟩, _⟩ := x; exact ⟨_, e⟩
 | rng lo hi => obtain ⟨_, _, _, e⟩ := x; exact ⟨_, e⟩
 | frz ob u => obtain ⟨e, _⟩ := x; exact ⟨_, e⟩
 | tbl ps =>
  rcases x with e | ⟨_, _, _, _, _, _, _, _, _, _, e, _⟩
  · exact ⟨_, e⟩
  · exact ⟨_, e⟩
 | met f y => exact ⟨_, (show h.get? a = some _ from x)⟩
 | ext φ => obtain ⟨_, ⟨_, e⟩, _⟩ := x; exact ⟨_, e⟩
structure Flown (P : Program) (w : World) (outer : List Env) (H : Hp) (s : Shared) (ea C : Addr) (a0 : Value) (B : Heap) (H' : Hp) (s' : Shared) : Prop where
 os : s'.os = s.os
 bare : AllBare s'.gens
 hokB : HOk P w H' B
 fly : Heap.FlyingW B outer ea (.ref C) a0 s'.heap
 cov : ∀ b o, s.heap.get? b = some o -> H b = none -> b ∉ frs outer -> B.get? b = some o
 thr : ∀ b o, s.heap.get? b = some o -> b ∈ frs outer \/ ∃ o', B.get? b = some o'
 un : Un (frs outer) [] H H' s.heap s'.heap
def CXF (P : Program) (w : World) : CXT := λ outer H s E e s' => ∃ (ea C : Addr) (a0 : Value) (B : Heap) (H' : Hp), e = .ref ea /\ Flown P w outer H s ea C a0 B H' s' /\ E e (some C) H'
section
variable {P : Program} {w : World} {outer : List Env} {H H' : Hp} {s s' : Shared} {ea C : Addr} {a0 : Value} {B : Heap}
theorem Flown.hok (f : Flown P w outer H s ea C a0 B H' s') : HOk P w H' s'.heap := f.hokB.kept f.fly.1
theorem Flown.free (f : Flown P w outer H s ea C a0 B H' s') : H' ea = none := by
 cases q : H' ea with
 | none => rfl
 | some u =>
  obtain ⟨ob, e⟩ := (f.hokB _ _ q).there
  rw [f.fly.2.1] at e
  cases e
end
section
variable {X : Cx} {pins : List (Addr × Obj)} {σ : St} {H : Hp} {s : Shared}
theorem Inv.neL (I : Inv X pins σ H s) {b : Addr} {o : Obj} (e : X.s₀.heap.get? b = some o) : b ≠ X.env.locals := nNl (nLl (hLs e) I.ok.above)
theorem Inv.notStk (I : Inv X pins σ H s) {b : Addr} {o : Obj} (e : X.s₀.heap.get? b = some o) (hb : b ∉ X.fs) : b ∉ frs X.stack := λ z => (Qb.mp (I.stkSub b z)).elim (I.neL e) hb
theorem un_out {outer : List Env} {base h0 h1 h2 B : Heap} {H0 H1 : Hp} (ff : h0.FunFrames base outer) (frf : ∀ b ∈ frs outer, H0 b = none) (st : B.StaysIn h2) (ff2 : h2.FunFrames B outer)
 (cov : ∀ b o, h0.get? b = some o -> H0 b = none -> b ∉ frs outer -> B.get? b = some o) (thr : ∀ b o, h0.get? b = some o -> b ∈ frs outer \/ ∃ o', B.get? b = some o')
 (u : Un (frs outer) [] H0 H1 h0 h1) (k : h1.UpToSlots h2) : Un (frs outer) [] H0 H1 h0 h2 where
 keep := λ b o e n hb _ => st b o (cov b o e n hb)
 slot := λ b o e n hb hx => by
  obtain ⟨sl, e1⟩ := u.slot b o e n hb hx
  obtain ⟨_, o', ho', hd⟩ := ff.mem hb
  rw [e] at ho'
  cases ho'
  obtain ⟨sl', e2⟩ := k b _ e1 hd
  exact ⟨sl', e2⟩
 free := u.free
 there := λ b o e _ => by
  rcases thr b o e with hb | ⟨o', e'⟩
  · obtain ⟨_, o', ho', _⟩ := ff2.mem hb
    exact ⟨o', ho'⟩
  · exact ⟨o', st _ _ e'⟩
 tups := u.tups
 frzs := u.frzs
 tbls := u.tbls
theorem flown_made {E : XK} {E' : Value -> Shared -> Prop} {ea C : Addr} {args : List Value} {h' : Heap} (hstk : X.stack = X.env :: X.outer) (hf : X.env.frame = some X.env.locals) (hex : X.ex = [])
 (I : Inv X pins σ H s) (hx : Heap.MadeExcOf s.heap h' ea (.ref C) args) (hE : E (.ref ea) (some C) H) :
 wpAny (model X.prog X.w) X.A (leaving X.env (.ref ea)) (λ _ s'' => CXF X.prog X.w X.outer X.H₀ X.s₀ E (.ref ea) s'') E' { s with heap := h' } := by
 have hin : ∀ env ∈ X.stack, ∀ b, env.frame = some b -> b ∈ frs X.stack := λ env he b hb => List.mem_filterMap.mpr ⟨env, he, hb⟩
 have nx : ∀ b, b ∉ X.ex := λ b z => by rw [hex] at z; cases z
 have keepB : ∀ b o, s.heap.get? b = some o -> b ∉ frs X.stack -> (hideAll s.heap (frs X.stack)).get? b = some o := λ b o e hb => hideAll_get _ e hb
 have hokB : HOk X.prog X.w H (hideAll s.heap (frs X.stack)) := λ b u e => (I.hok b u e).stay (λ c v hc q => keepB c v q (λ z => by
  have z := I.stkFree c z
  rcases hc with rfl | hc
  · rw [e] at z; cases z
  · rw [hc] at z; cases z)) (λ _ q => q) (λ _ _ q => q) λ _ _ _ q => q
 have cov : ∀ b o, X.s₀.heap.get? b = some o -> X.H₀ b = none -> b ∉ frs X.outer -> (hideAll s.heap (frs X.stack)).get? b = some o := λ b o e n hb =>
  keepB b o (I.base.keep b o e n hb (nx b)) (I.notStk e hb)
 have thr : ∀ b o, X.s₀.heap.get? b = some o -> b ∈ frs X.outer \/ ∃ o', (hideAll s.heap (frs X.stack)).get? b = some o' := λ b o e => by
  by_cases hb : b ∈ frs X.outer
  · exact .inl hb
  · obtain ⟨o', e'⟩ := I.base.there b o e (nx b)
    exact .inr ⟨o', keepB b o' e' (I.notStk e hb)⟩
 have fr := I.ok.frames
 have stk := I.stack
 have ub : Un (frs X.outer) [] X.H₀ H X.s₀.heap s.heap := by
  have := I.base
  rw [hex] at this
  exact this
 generalize hB : hideAll s.heap (frs X.stack) = B at *
 have ffB : s.heap.FunFrames B (X.env :: X.outer) := by
  rw [<- hB, <- hstk]
  exact funFrames_hide stk hin
 rw [hstk] at fr
 refine wpAny_leaves_madeW (base := B) (h := s.heap) fr hf (λ b o q => by rw [<- hB] at q; exact of_hideAll _ q) ffB hx λ h'' t x1 x2 x3 x4 => ?_
 refine ⟨ea, C, .ref t, B, H, rfl, ⟨I.os, I.bare, hokB, x1, cov, thr, un_out I.ok.funs I.ok.frf x1.1 x1.2.2.1 cov thr (ub) (((Heap.UpToSlots.of_keeps hx.keeps)).trans x4)⟩, hE⟩
theorem flown_on {E : XK} {E' : Value -> Shared -> Prop} {e : Value} {s' : Shared} (hstk : X.stack = X.env :: X.outer) (hf : X.env.frame = some X.env.locals) (hex : X.ex = [])
 (I : Inv X pins σ H s) (hx : CXF X.prog X.w X.stack H s E e s') :
 wpAny (model X.prog X.w) X.A (leaving X.env e) (λ _ s'' => CXF X.prog X.w X.outer X.H₀ X.s₀ E e s'') E' s' := by
 obtain ⟨ea, C, a0, B, H', rfl, f, hE⟩ := hx
 have nx : ∀ b, b ∉ X.ex := λ b z => by rw [hex] at z; cases z
 have I' : Inv X pins σ H' s' := I.call' (ch := []) f.os f.un f.hok f.bare (λ b z => absurd z (by simp))
 have cov : ∀ b o, X.s₀.heap.get? b = some o -> X.H₀ b = none -> b ∉ frs X.outer -> B.get? b = some o := λ b o e n hb =>
  f.cov b o (I.base.keep b o e n hb (nx b)) (I.base.free b o e n (nx b)) (I.notStk e hb)
 have thr : ∀ b o, X.s₀.heap.get? b = some o -> b ∈ frs X.outer \/ ∃ o', B.get? b = some o' := λ b o e => by
  by_cases hb : b ∈ frs X.outer
  · exact .inl hb
  · obtain ⟨o', e'⟩ := I.base.there b o e (nx b)
    exact .inr ((f.thr b o' e').resolve_left (I.notStk e hb))
 have ub : Un (frs X.outer) [] X.H₀ H' X.s₀.heap s'.heap := by
  have := I'.base
  rw [hex] at this
  exact this
 have fr := I.ok.frames
 have fl := f.fly
 rw [hstk] at fr fl
 refine wpAny_leaves_onW fr hf fl λ h'' x1 x2 => ?_
 exact ⟨ea, C, a0, B, H', rfl, ⟨I'.os, I'.bare, f.hokB, x1, cov, thr, un_out I.ok.funs I.ok.frf x1.1 x1.2.2.1 cov thr ub x2⟩, hE⟩
end
theorem ownc {K : Frag} {hp : Heap} {gl : Str -> Option Value} {y : Str} {C : Addr} {bl : List Value} {nid : String} (kin : K.In hp) (hm : gl y = some (.ref C)) (ok : excIn K C bl nid = true) : OwnCls y C bl nid gl hp := by
 refine ⟨hm, ?_⟩
 unfold excIn at ok
 cases hL : K.lookup C with
 | none => rw [hL] at ok; cases ok
 | some ob =>
  rw [hL] at ok
  have at_ := kin _ _ hL
  split at ok
  · rename_i e1
    split at ok
    · rename_i cx ds sls lsx w1 w2 w3 w4 w5 w6 w7 w8 e2 e3
      cases e1
      simp only [Q6, beq_iff_eq, Bool.not_eq_true'] at ok
      obtain ⟨⟨⟨⟨⟨rfl, rfl⟩, z1⟩, z2⟩, z3⟩, z4⟩ := ok
      obtain ⟨c1, c2, c3, c4, c5, c6, c7, c8, c9, c10, c11⟩ := cx
      obtain rfl : c3 = _ := e2
      obtain rfl : c11 = _ := z1
      obtain ⟨sll⟩ := ds
      obtain rfl : sll = _ := e3
      exact ⟨_, _, _, _, _, _, _, _, _, _, _, _, _, _, _, _, _, at_, .of_isNs (isNs_of_in kin z3), nsMap_none_of_in kin z3 z4, tail_of_in kin z2⟩
    · cases ok
  · cases ok
section
variable {P : Program} {w : World} {K : Frag} {mg : Str -> Option Value} {base : Heap} {N : List Str} {qual : Str} {scope : Scope} {f : Addr} {cd : Value} {A : Around} {outer : List Env} {s₀ : Shared} {H₀ : Hp} {E : XK}
theorem pass_flown : Passes (CXF P w) (cxOf (CXF P w) P w K mg base N qual scope f cd A outer s₀ H₀ E) E := λ pins σ H s e s' I h =>
 flown_on (X := cxOf (CXF P w) P w K mg base N qual scope f cd A outer s₀ H₀ E) rfl rfl rfl I h
def tRaise (C : Addr) (E : XK) (ta : TA) : TS := λ _ σ H => ta σ H λ vs H1 => vs.length <= sizeLine /\ ∀ ea, E (.ref ea) (some C) H1
theorem ps_raise {x : Str} {C : Addr} {B newId initId : String} {bm : List Value} {np cpos pos : Pos} {e₀ : Expr} {rest : List Expr} {ta : TA} (hm : mg x = some (.ref C)) (q : excIn K C bm newId = true) (FB : ExcBaseFacts B newId initId bm)
 (ha : PA (cxOf (CXF P w) P w K mg base N qual scope f cd A outer s₀ H₀ E) (e₀ :: rest) ta) (hg : Gl (cxOf (CXF P w) P w K mg base N qual scope f cd A outer s₀ H₀ E) x := by rfl)
 (hd : (x == ("__debug__" : Str)) = false := by decide)
 (he : starEach (e₀ :: rest) (envOfC qual scope s₀.heap.objs.size f cd) = (false, eval e₀ (envOfC qual scope s₀.heap.objs.size f cd)) :: starEach rest (envOfC qual scope s₀.heap.objs.size f cd) := by rfl)
 (hpl : (backTo cpos (starEach rest (envOfC qual scope s₀.heap.objs.size f cd))).any (·.1) = false := by rfl) :
 PS (cxOf (CXF P w) P w K mg base N qual scope f cd A outer s₀ H₀ E) (.Raise (some (.Call (.Name x np) (e₀ :: rest) [] cpos)) none pos) (tRaise C E ta) := by
 intro pins s σ H D I h
 obtain ⟨tl, NN, nm, qn, bs, hdct, sn, sub, ab, col, dd, k0, k1, k2, k3, k5, mN, hC, hN, hni, T⟩ := (ownc I.mod.kin hm q).obj
 refine wpAny_Raise_call_subT (C := C) (nm := nm) (q := qn) (N := NN) (bs := bs) (bm := tl) (hdct := hdct) (sn := sn) (sub := sub) (ab := ab) (col := col) (dd := dd) (k0 := k0) (k1 := k1)
  (k2 := k2) (k3 := k3) (k5 := k5) FB (mN := mN) (T.hasType FB.hasBase) (I.ok.hd rfl) (by show (backTo cpos (starEach (e₀ :: rest) (envOfC qual scope s₀.heap.objs.size f cd))).any (·.1) = false; rw [he]; show (false || (backTo cpos (starEach rest (envOfC qual scope s₀.heap.objs.size f cd))).any (·.1)) = false; rw [hpl]; rfl) hni (ld_glob I hg hm ⟨rfl, ?_⟩ hd)
 have ha := ha cpos pins s σ H _ I h
 change wpAny _ _ (evalArgs (.ref C) true (backTo cpos (starEach (e₀ :: rest) (envOfC qual scope s₀.heap.objs.size f cd))) []) _ _ s
 change wpAny _ _ (spliced (backTo cpos (starEach (e₀ :: rest) (envOfC qual scope s₀.heap.objs.size f cd)))) _ _ s at ha
 rw [he] at ha ⊢
 refine Calls.evalArgs_plain (thn ha λ us s2 ⟨vs, H2, I2, r2, z, hE⟩ => ⟨rfl, by rw [<- r2.length]; exact z, I2.bk _ _ hC, hN.keeps I2.bk, T.keeps I2.bk, λ h' ea hx => ?_⟩)
 exact flown_made (X := cxOf (CXF P w) P w K mg base N qual scope f cd A outer s₀ H₀ E) rfl rfl rfl I2 hx (hE ea)
end
def XO (ea C : Addr) : HO := .ext λ h => ∃ ob, h.get? ea = some ob /\ ob.cls = .ref C
theorem xo_ok {P : Program} {w : World} {H : Hp} {h : Heap} {ea C : Addr} {ob : Obj} (e : h.get? ea = some ob) (c : ob.cls = .ref C) : ObjOk P w H h ea (XO ea C) :=
 ⟨⟨ob, e, c⟩, ⟨ob, e⟩, λ _ _ ⟨o1, e1, c1⟩ k => ⟨o1, k o1 e1, c1⟩⟩
theorem isi_flown {prog : Program} {w : World} {A : Around} {E : Value -> Shared -> Prop} {s : Shared} {K : Frag} {ea C : Addr} {c : Value} {ob : Obj} {Q : Value -> Shared -> Prop} (kin : K.In s.heap) (at_ : s.heap.get? ea = some ob) (cl : ob.cls = .ref C)
 (yes : kitOne K (.ref C) c = some true) (k : ∀ tk, Q (.bool true) { s with toks := tk }) : wpAny (model prog w) A (call (.builtin "isinstance") [.ref ea, c]) Q E s := by
 refine call_isinstance (S := λ _ R t => (K.In t.heap /\ t.heap.get? ea = some ob) /\ ∀ tk, R (.ok (.ret (.bool true))) { t with toks := tk }) (λ pr w2 A2 R t ht => isinstance_outer ?_ (by intro q; cases q)) ⟨⟨kin, at_⟩, k⟩
 obtain ⟨hh, g, d, tt, os⟩ := t
 obtain ⟨⟨ki, here⟩, fin⟩ := ht
 have ty : Looks (model pr w2) hh (typeOf (.ref ea)) (.ref C) := cl ▸ (Looks.ld here).andThen .now
 unfold Builtin.«isinstance.nested»
 refine wB (ty.at ?_)
 unfold kitOne at yes
 by_cases q : (Value.ref C == c) = true
 · rw [if_pos q]
   first
    | ((repeat lk); exact fin tt)
    | exact wB (wpAny_rule (fin tt))
 · rw [if_neg q] at yes
   rw [if_neg q]
   obtain ⟨a1, a2, a3⟩ := kit_cls (M := model pr w2) ki yes
   have both : Looks (model pr w2) hh (isInstance (.ref ea) c) true := ty.andThen a3
   refine wB (a1.at ?_)
   rw [if_pos (by decide)]
   k_delta "plainIsInstance"
   refine wB (wB (a2.at ?_))
   simp only [Bool.not_true, zN, if_false]
   refine wB (both.at ?_)
   simp only [if_true]
   first
    | exact wP (wP (fin tt))
    | exact wP (fin tt)
    | exact wB (wP (wP (fin tt)))
theorem Un.track {fs : List Addr} {H0 H1 : Hp} {h h2 : Heap} {ea : Addr} {o : HO} (u : Un fs [] H0 H1 h h2) (hn : h.get? ea = none) (hf : H1 ea = none) : Un fs [] H0 (upd H1 ea o) h h2 where
 keep := u.keep
 slot := u.slot
 free := λ b ob e n hx => by
  rw [upd_ne (λ z => by rw [z, hn] at e; cases e)]
  exact u.free b ob e n hx
 there := u.there
 tups := λ b xs q => by rw [upd_ne (ne_of_none (u.tups b xs q) hf)]; exact u.tups b xs q
 frzs := λ b ob xs q => by rw [upd_ne (ne_of_none (u.frzs b ob xs q) hf)]; exact u.frzs b ob xs q
 tbls := λ b ps q => by
  obtain ⟨m, e⟩ := u.tbls b ps q
  exact ⟨m, by rw [upd_ne (ne_of_none e hf)]; exact e⟩
theorem HOk.track {P : Program} {w : World} {H : Hp} {h : Heap} {ea : Addr} {o : HO} (x : HOk P w H h) (hf : H ea = none) (new : ObjOk P w (upd H ea o) h ea o) : HOk P w (upd H ea o) h := λ b u e => by
 by_cases hb : b = ea
 · subst hb
   rw [upd_same] at e
   cases e
   exact new
 · rw [upd_ne hb] at e
   exact (x b u e).stay (λ _ _ _ q => q) (λ c q => by rw [upd_ne (ne_of_none q hf)]; exact q) (λ c xs q => by rw [upd_ne (ne_of_none q hf)]; exact q) λ c ob xs q => by rw [upd_ne (ne_of_none q hf)]; exact q
section
variable {X : Cx} {pins : List (Addr × Obj)} {σ : St} {H : Hp} {s : Shared}
theorem Inv.unbound {i t : Nat} {n : Str} {m : Str -> Option Value} {v : Option Value} {h' : Heap} (I : Inv X pins σ H s) (hN : X.N.Nodup) (hi : X.N[i]? = some n)
 (hl : ∀ (i : Nat) (x : Str) (v : V), X.N[i]? = some x -> σ[i]? = some (some v) -> Vis X.env.scope x -> ∃ u, RelV v u /\ Look X.env s.heap m x u)
 (hns : h'.Ns X.env.locals λ y => if y = n then v else m y) (hs : Heap.SameBut X.env.locals s.heap h') : Inv X pins (σ.set i none) H { s with heap := h', toks := t } := by
 have ck : ∀ y c, X.env.cells.lookup y = some c -> ∀ z, s.heap.IsCell c z -> h'.IsCell c z := λ y c e z ⟨o, ho, hd⟩ => ⟨o, (hs.2 c (I.cne y c e)).trans ho, hd⟩
 refine ⟨I.ok, I.os, I.bare, ⟨λ b o e n hb hx => ?_, λ b o e n hb hx => ?_, I.base.free, λ b o e hx => ?_, I.base.tups, I.base.frzs, I.base.tbls⟩, ⟨_, hns, λ j y v' e1 e2 e3 => ?_⟩, λ y c e => ?_, I.free, I.freeC, λ p hp => ?_, I.hok.sameBut I.free hs, by simpa using I.len⟩
 · exact (hs.2 b (I.neL e)).trans (I.base.keep b o e n hb hx)
 · obtain ⟨sl, e1⟩ := I.base.slot b o e n hb hx
   exact ⟨sl, (hs.2 b (I.neL e)).trans e1⟩
 · obtain ⟨o', e1⟩ := I.base.there b o e hx
   exact ⟨o', (hs.2 b (I.neL e)).trans e1⟩
 · have ne : i ≠ j := λ z => by
    subst z
    rw [List.getElem?_set] at e2
    simp at e2
   have e2' : σ[j]? = some (some v') := by rw [Q10 ne] at e2; exact e2
   obtain ⟨u, r, l⟩ := hl j y v' e1 e2' e3
   refine ⟨u, r, ?_⟩
   have yn : y ≠ n := λ z => ne (nodup_ix hN hi (z ▸ e1))
   rcases l with ⟨k, l⟩ | ⟨k, c, e, z⟩
   · exact .inl ⟨k, (if_neg yn).trans l⟩
   · exact .inr ⟨k, c, e, ck y c e _ z⟩
 · obtain ⟨z, hz⟩ := I.cell y c e
   exact ⟨z, ck y c e z hz⟩
 · obtain ⟨e, n, ne, nf, d⟩ := I.pin p hp
   exact ⟨(hs.2 p.1 ne).trans e, n, ne, nf, d⟩
abbrev Cx.alt (X : Cx) (A : Around) (cm : Bool) (pn : List (Addr × Obj)) (E : Value -> Shared -> Prop) : Cx := { X with A := A, calm := cm, pn := pn, xe := E }
theorem Inv.alt (I : Inv X pins σ H s) {A : Around} {cm : Bool} {pn pins' : List (Addr × Obj)} {E : Value -> Shared -> Prop} (ha : A.frames = X.A.frames) (hc : cm = true -> A.handled = none) (hp : ∀ p ∈ pn ++ pins', p ∈ X.pn ++ pins) : Inv (X.alt A cm pn E) pins' σ H s :=
 ⟨⟨I.ok.mod, I.ok.kind, I.ok.glob, I.ok.blt, I.ok.above, I.ok.inj, I.ok.has, I.ok.cab, hc, ha.trans I.ok.frames, I.ok.stk, I.ok.exf, I.ok.bs, I.ok.bsz, I.ok.noex, I.ok.exfs, I.ok.funs, I.ok.frf⟩, I.os, I.bare, I.base, I.loc, I.cell, I.free, I.freeC, λ p q => I.pin p (hp p q), I.hok, I.len⟩
theorem Inv.unalt {A : Around} {cm : Bool} {pn pins' : List (Addr × Obj)} {E : Value -> Shared -> Prop} (I : Inv (X.alt A cm pn E) pins' σ H s) (ok : X.Ok) (hp : ∀ p ∈ X.pn ++ pins, p ∈ pn ++ pins') : Inv X pins σ H s :=
 ⟨ok, I.os, I.bare, I.base, I.loc, I.cell, I.free, I.freeC, λ p q => I.pin p (hp p q), I.hok, I.len⟩
noncomputable def Ends.un (D : Ends) (i : Nat) : Ends := { nx := λ σ H => D.nx (σ.set i none) H, bk := λ σ H => D.bk (σ.set i none) H, ct := λ σ H => D.ct (σ.set i none) H, rt := D.rt }
def tTry (K : Frag) (Dc : Addr) (i n : Nat) (tb : XK -> TS) (ts : Addr -> TS) : TS := λ D σ H =>
 tb (λ e oc H' => ∃ C, oc = some C /\ exmOne K (.ref C) (.ref Dc) = some true /\ ∀ ea, e = .ref ea -> H' ea = none -> ∀ σ' : St, σ'.length = n -> ts ea (D.un i) (σ'.set i (some (.ref ea))) (upd H' ea (XO ea C))) D σ H
theorem ps_try {body suite : List Stmt} {b₀ : Stmt} {x n : Str} {i : Nat} {Dc : Addr} {np pos tp : Pos} {tb : XK -> TS} {ts : Addr -> TS} (hstk : X.stack = X.env :: X.outer) (hfr : X.env.frame = some X.env.locals) (hcm : X.calm = true) (hN : X.N.Nodup) (hi : X.N[i]? = some n)
 (hl : X.env.scope.names.lookup n = some .local) (hm : X.mg x = some (.ref Dc)) (hg : Gl X x)
 (hb : ∀ (pn : List (Addr × Obj)) (E' : Value -> Shared -> Prop) (E : XK), Passes (CXF X.prog X.w) (X.alt X.A true pn E') E -> PSs (X.alt X.A true pn E') body (tb E))
 (hs : ∀ (ea : Addr) (pn : List (Addr × Obj)), PSs (X.alt (X.A.mark (some (.ref ea))) false pn λ _ _ => False) (b₀ :: suite) (ts ea)) (hd : (x == ("__debug__" : Str)) = false := by decide) :
 PS X (.Try body [.ExceptHandler (some (.Name x np)) (some n) (b₀ :: suite) pos] [] [] tp) (tTry X.K Dc i X.N.length tb ts) := by
 intro pins s σ H D I h
 refine wpAny_Try_except ?_
 have hh := I.ok.hd hcm
 have sub1 : ∀ p ∈ (X.pn ++ pins) ++ [], p ∈ X.pn ++ pins := λ p q => by rw [Qd] at q; exact q
 have sub2 : ∀ p ∈ X.pn ++ pins, p ∈ (X.pn ++ pins) ++ [] := λ p q => by rw [Qd]; exact q
 have ok := I.ok
 refine wpAny_mono (hb (X.pn ++ pins) _ _ (λ pins' σ' Hc sc e s' Ic hx => ?_) [] s σ H D (I.alt (A := X.A) (cm := true) (E := ?E') rfl (λ _ => hh) sub1) h) (λ f s1 hf => ?_) (λ e s1 he => ?_)
 case E' => exact λ e s₁ => wpAny (model X.prog X.w) X.A (noteFrame e X.env) (λ _ s₂ => wpAny (model X.prog X.w) X.A (setFlight e none) (λ _ s₃ => wpAny (model X.prog X.w) X.A (handleBy e X.env [.ExceptHandler (some (.Name x np)) (some n) (b₀ :: suite) pos]) (SP X pins D) X.xe s₃) X.xe s₂) X.xe s₁
 · obtain ⟨ea, C, a0, B, H', rfl, f, C', e2, hex, hk⟩ := hx
   cases e2
   have fr : X.A.frames = some (X.env :: X.outer) := by rw [<- hstk]; exact ok.frames
   have fl : Heap.FlyingW B (X.env :: X.outer) ea (.ref C) a0 s'.heap := by rw [<- hstk]; exact f.fly
   have new : sc.heap.get? ea = none := by
    cases q : sc.heap.get? ea with
    | none => rfl
    | some o =>
     rcases f.thr ea o q with z | ⟨o', z⟩
     · obtain ⟨_, o', e1, e2⟩ := f.fly.2.2.1.mem z
       obtain ⟨oe, vs, e3, _, e4, _⟩ := f.fly.first
       rw [e3] at e1
       cases e1
       exact absurd e4 (e2 vs)
     · rw [f.fly.2.1] at z
       cases z
   have unT : ∀ h₂, s'.heap.UpToSlots h₂ -> Heap.FlyingW B (X.env :: X.outer) ea (.ref C) a0 h₂ -> Inv (X.alt (X.A.mark (some (.ref ea))) false (X.pn ++ pins) λ _ _ => False) [] σ' (upd H' ea (XO ea C)) { s' with heap := h₂ } := λ h₂ sm fl₂ => by
    have u2 := un_out Ic.stack Ic.stkFree fl₂.1 (show h₂.FunFrames B X.stack by rw [hstk]; exact fl₂.2.2.1) f.cov f.thr f.un sm
    obtain ⟨ob, e1, e2⟩ := fl₂.there
    have J : Inv (X.alt X.A true (X.pn ++ pins) _) pins' σ' (upd H' ea (XO ea C)) { s' with heap := h₂ } := Ic.call' (ch := []) f.os (u2.track new f.free) ((f.hokB.kept fl₂.1).track f.free (xo_ok e1 e2)) f.bare (λ b z => absurd z (by simp))
    exact (J.unalt (X := X) (pins := pins) ok (λ p q => List.mem_append_left _ q)).alt rfl (λ z => nomatch z) sub1
   show wpAny (model X.prog X.w) X.A (noteFrame (.ref ea) X.env) _ _ s'
   refine wpAny_looks_onW fr hfr fl λ h₄ held₄ sm₄ => ?_
   refine wpAny_landsW held₄ λ h₅ fl₅ sm₅ => ?_
   have I₅ := unT h₅ (sm₄.trans sm₅) fl₅
   obtain ⟨ob, hob, hobc⟩ := fl₅.there
   have LT : Looks (model X.prog X.w) h₅ (typeOf (.ref ea)) (.ref C) := hobc ▸ (Looks.ld hob).andThen .now
   refine wpAny_handleBy_cons (codeAny_handlers_test (ld_glob I₅ hg hm ?_ hd)) (by intro q; cases q)
   refine (exm_one I₅.kIn LT hex).here ?_
   refine codeAny_handlers_suite_as ?_
   refine lands_againW fl₅ λ h₆ fl₆ sm₆ => ?_
   have I₆ := unT h₆ ((sm₄.trans sm₅).trans sm₆) fl₆
   refine store_ok (X := X.alt (X.A.mark (some (.ref ea))) false (X.pn ++ pins) λ _ _ => False) I₆ hN hi (.inl hl) (v := .ref ea) rfl (λ s₇ I₇ => ?_) (.inr hl)
   refine wpAny_mono (hs ea (X.pn ++ pins) [] s₇ _ _ (D.un i) I₇ (hk ea rfl f.free σ' I₆.len)) (λ fw s₈ hsp => ?_) (λ _ _ z => z.elim)
   have unb : ∀ {σ8 : St} {H8 : Hp} {Q : Shared -> Prop}, Inv (X.alt (X.A.mark (some (.ref ea))) false (X.pn ++ pins) λ _ _ => False) [] σ8 H8 s₈ -> (∀ s9, Inv X pins (σ8.set i none) H8 s9 -> Q s9) ->
    wpAny (model X.prog X.w) X.A (do bindName X.env n .none; unbindBehindTheSuite X.env n pos) (λ _ s9 => Q s9) X.xe s₈ := λ {σ8 H8 Q} I8 k => by
    have I8 : Inv X pins σ8 H8 s₈ := I8.unalt ok sub2
    obtain ⟨m, hn, hlook⟩ := id I8.loc
    exact wpAny_nameGoes_keeps hl hn (by rw [ok.kind]; rfl) λ h' v hns hsm => k _ (I8.unbound hN hi hlook hns hsm)
   cases fw with
   | next => obtain ⟨σ8, H8, I8, q⟩ := hsp; exact unb I8 λ s9 I9 => ⟨_, _, I9, q⟩
   | brk => obtain ⟨σ8, H8, I8, q⟩ := hsp; exact unb I8 λ s9 I9 => ⟨_, _, I9, q⟩
   | cont => obtain ⟨σ8, H8, I8, q⟩ := hsp; exact unb I8 λ s9 I9 => ⟨_, _, I9, q⟩
   | ret u => obtain ⟨v, σ8, H8, I8, r, q⟩ := hsp; exact unb I8 λ s9 I9 => ⟨v, _, _, I9, r, q⟩
 · cases f with
   | next =>
    obtain ⟨σ8, H8, I8, q⟩ := hf
    exact wP ⟨_, _, I8.unalt ok sub2, q⟩
   | brk => obtain ⟨σ8, H8, I8, q⟩ := hf; exact ⟨_, _, I8.unalt ok sub2, q⟩
   | cont => obtain ⟨σ8, H8, I8, q⟩ := hf; exact ⟨_, _, I8.unalt ok sub2, q⟩
   | ret u => obtain ⟨v, σ8, H8, I8, r, q⟩ := hf; exact ⟨v, _, _, I8.unalt ok sub2, r, q⟩
 · exact he
end
end L2
namespace GC
noncomputable def inter : List Int -> List Int -> Nat
 | _, [] => 0
 | u, c :: g => if c ∈ u then inter (u.erase c) g + 1 else inter u g
noncomputable def left : List Int -> List Int -> List Int
 | u, [] => u
 | u, c :: g => if c ∈ u then left (u.erase c) g else left u g
noncomputable def rgt : List Int -> List Int -> Nat
 | a :: x, b :: y => (if a = b then 1 else 0) + rgt x y
 | _, _ => 0
noncomputable def ans (h g : List Int) : List Int := [(rgt h g : Int), (inter h g : Int) - (rgt h g : Int)]
end GC
namespace DL
open PySem PySem.Spec PyProof.Rows L2
noncomputable abbrev St := L2.St
noncomputable def kD : Key -> PyData
 | .inl i => .int i
 | .inr x => .str x
noncomputable def scr (ns : List Int) : PyData := .dict [(.none, .list (ns.map .int))]
mutual
noncomputable def Is (K : Fg) (H : Hp) (x : V) : PyData -> Prop
 | .none => x = .non
 | .bool b => x = .bl b
 | .int i => x = .int i
 | .str y => x = .str y
 | .list ds => ∃ a xs, x = .ref a /\ H a = some (.lst xs) /\ Are K H xs ds
 | .tuple ds => ∃ a xs, x = .ref a /\ H a = some (.tup xs) /\ Are K H xs ds
 | .dict kvs => ∃ a, x = .ref a /\ ((∃ ns : List Int, kvs = [(.none, .list (ns.map .int))] /\ SqL K H a (ns.map V.int)) \/ (∃ m, H a = some (.dT m) /\ Kvs K H m kvs) \/ (∃ nm : Str, kvs = [(.bool true, .str nm)] /\ PySem.W.nsIn K mainGlobals nm = some (some (.ref a))) \/ ∃ m, H a = some (.dK m) /\ KvsS K H m kvs)
noncomputable def Are (K : Fg) (H : Hp) (xs : List V) : List PyData -> Prop
 | [] => xs = []
 | d :: ds => ∃ x r, xs = x :: r /\ Is K H x d /\ Are K H r ds
noncomputable def Kvs (K : Fg) (H : Hp) (m : List (List Key × V)) : List (PyData × PyData) -> Prop
 | [] => m = []
 | p :: r => ∃ q m', m = q :: m' /\ Kv K H q p /\ Kvs K H m' r
noncomputable def Kv (K : Fg) (H : Hp) (q : List Key × V) : PyData × PyData -> Prop
 | (k, d) => k = .tuple (q.1.map kD) /\ Is K H q.2 d
noncomputable def KvsS (K : Fg) (H : Hp) (m : List (Key × V)) : List (PyData × PyData) -> Prop
 | [] => False
 | p :: r => p = (.none, .none) /\ KvsI K H m r
noncomputable def KvsI (K : Fg) (H : Hp) (m : List (Key × V)) : List (PyData × PyData) -> Prop
 | [] => m = []
 | p :: r => ∃ q m', m = q :: m' /\ KvI K H q p /\ KvsI K H m' r
noncomputable def KvI (K : Fg) (H : Hp) (q : Key × V) : PyData × PyData -> Prop
 | (k, d) => k = kD q.1 /\ Is K H q.2 d
end
mutual
theorem Is.same {K : Fg} {H H' : Hp} (s : Same H H') : ∀ {x : V} (d : PyData), Is K H x d -> Is K H' x d
 | _, .none, h => h
 | _, .bool _, h => h
 | _, .int _, h => h
 | _, .str _, h => h
 | _, .list ds, h => by
  obtain ⟨a, xs, e, q, r⟩ := h
  exact ⟨a, xs, e, s _ _ q, Are.same s ds r⟩
 | _, .tuple ds, h => by
  obtain ⟨a, xs, e, q, r⟩ := h
  exact ⟨a, xs, e, s _ _ q, Are.same s ds r⟩
 | _, .dict kvs, h => by
  obtain ⟨a, e, h⟩ := h
  rcases h with ⟨ns, e1, q⟩ | ⟨m, q, r⟩ | q
  · exact ⟨a, e, .inl ⟨ns, e1, s.seq q⟩⟩
  · exact ⟨a, e, .inr (.inl ⟨m, s _ _ q, Kvs.same s kvs r⟩)⟩
  · rcases q with q | ⟨m, q, r⟩
    · exact ⟨a, e, .inr (.inr (.inl q))⟩
    · exact ⟨a, e, .inr (.inr (.inr ⟨m, s _ _ q, KvsS.same s kvs r⟩))⟩
theorem Are.same {K : Fg} {H H' : Hp} (s : Same H H') : ∀ {xs : List V} (ds : List PyData), Are K H xs ds -> Are K H' xs ds
 | _, [], h => h
 | _, d :: ds, h => by
  obtain ⟨x, r, e, q, t⟩ := h
  exact ⟨x, r, e, Is.same s d q, Are.same s ds t⟩
theorem Kvs.same {K : Fg} {H H' : Hp} (s : Same H H') : ∀ {m : List (List Key × V)} (kvs : List (PyData × PyData)), Kvs K H m kvs -> Kvs K H' m kvs
 | _, [], h => h
 | _, p :: r, h => by
  obtain ⟨q, m', e, h1, h2⟩ := h
  exact ⟨q, m', e, Kv.same s p h1, Kvs.same s r h2⟩
theorem Kv.same {K : Fg} {H H' : Hp} (s : Same H H') : ∀ {q : List Key × V} (p : PyData × PyData), Kv K H q p -> Kv K H' q p
 | _, (k, d), h => ⟨h.1, Is.same s d h.2⟩
theorem KvsS.same {K : Fg} {H H' : Hp} (s : Same H H') : ∀ {m : List (Key × V)} (kvs : List (PyData × PyData)), KvsS K H m kvs -> KvsS K H' m kvs
 | _, [], h => h
 | _, p :: r, h => ⟨h.1, KvsI.same s r h.2⟩
theorem KvsI.same {K : Fg} {H H' : Hp} (s : Same H H') : ∀ {m : List (Key × V)} (kvs : List (PyData × PyData)), KvsI K H m kvs -> KvsI K H' m kvs
 | _, [], h => h
 | _, p :: r, h => by
  obtain ⟨q, m', e, h1, h2⟩ := h
  exact ⟨q, m', e, KvI.same s p h1, KvsI.same s r h2⟩
theorem KvI.same {K : Fg} {H H' : Hp} (s : Same H H') : ∀ {q : Key × V} (p : PyData × PyData), KvI K H q p -> KvI K H' q p
 | _, (k, d), h => ⟨h.1, Is.same s d h.2⟩
end
def DcO (K : Fg) (F : Hp) (o : HO) (kvs : List (PyData × PyData)) : Prop := (∃ m, o = .dT m /\ Kvs K F m kvs) \/ ∃ m, o = .dK m /\ KvsS K F m kvs
theorem DcO.same {K : Fg} {F F' : Hp} {o : HO} {kvs : List (PyData × PyData)} (s : Same F F') (h : DcO K F o kvs) : DcO K F' o kvs :=
 h.imp (λ ⟨m, e, q⟩ => ⟨m, e, Kvs.same s _ q⟩) λ ⟨m, e, q⟩ => ⟨m, e, KvsS.same s _ q⟩
theorem DcO.ntup {K : Fg} {F : Hp} {o : HO} {kvs : List (PyData × PyData)} (h : DcO K F o kvs) : ∀ xs, o ≠ .tup xs := λ xs z => by
 subst z
 rcases h with ⟨_, e, _⟩ | ⟨_, e, _⟩ <;> cases e
theorem DcO.nlst {K : Fg} {F : Hp} {o : HO} {kvs : List (PyData × PyData)} (h : DcO K F o kvs) : ∀ xs, o ≠ .lst xs := λ xs z => by
 subst z
 rcases h with ⟨_, e, _⟩ | ⟨_, e, _⟩ <;> cases e
theorem DcO.is {K : Fg} {F : Hp} {o : HO} {kvs : List (PyData × PyData)} {a : Addr} (h : DcO K F o kvs) (e : F a = some o) : Is K F (.ref a) (.dict kvs) := by
 rcases h with ⟨m, rfl, q⟩ | ⟨m, rfl, q⟩
 · exact ⟨a, rfl, .inr (.inl ⟨m, e, q⟩)⟩
 · exact ⟨a, rfl, .inr (.inr (.inr ⟨m, e, q⟩))⟩
theorem Are.length {K : Fg} {H : Hp} : ∀ {xs : List V} {ds : List PyData}, Are K H xs ds -> xs.length = ds.length
 | _, [], h => by rw [show _ = [] from h]; rfl
 | _, d :: ds, h => by
  obtain ⟨x, r, e, q, t⟩ := h
  rw [e, zC, zC, Are.length t]
theorem Are.get {K : Fg} {H : Hp} : ∀ {xs : List V} {ds : List PyData} {i : Nat} {d : PyData}, Are K H xs ds -> ds[i]? = some d -> ∃ x, xs[i]? = some x /\ Is K H x d
 | _, [], _, _, _, e => by simp at e
 | _, d :: ds, 0, _, h, e => by
  obtain ⟨x, r, e', q, t⟩ := h
  simp at e; subst e; rw [e']
  exact ⟨x, rfl, q⟩
 | _, d :: ds, i + 1, d', h, e => by
  obtain ⟨x, r, e', q, t⟩ := h
  obtain ⟨y, h1, h2⟩ := Are.get (i := i) (d := d') t (by simpa using e)
  rw [e']
  exact ⟨y, by simpa using h1, h2⟩
theorem Are.append {K : Fg} {H : Hp} : ∀ {xs ys : List V} {ds es : List PyData}, Are K H xs ds -> Are K H ys es -> Are K H (xs ++ ys) (ds ++ es)
 | _, ys, [], es, h, h' => by rw [show _ = [] from h]; exact h'
 | _, ys, d :: ds, es, h, h' => by
  obtain ⟨x, r, e, q, t⟩ := h
  subst e
  exact ⟨x, r ++ ys, rfl, q, Are.append t h'⟩
theorem Are.one {K : Fg} {H : Hp} {x : V} {d : PyData} (h : Is K H x d) : Are K H [x] [d] := ⟨x, [], rfl, h, rfl⟩
theorem Are.take {K : Fg} {H : Hp} : ∀ (n : Nat) {xs : List V} {ds : List PyData}, Are K H xs ds -> Are K H (xs.take n) (ds.take n)
 | 0, _, _, h => rfl
 | n + 1, _, [], h => by rw [show _ = [] from h]; exact rfl
 | n + 1, _, d :: ds, h => by
  obtain ⟨x, r, e, q, t⟩ := h
  subst e
  exact ⟨x, r.take n, rfl, q, Are.take n t⟩
theorem Are.ints {K : Fg} {H : Hp} : ∀ {ns : List Int} {xs : List V}, Are K H xs (ns.map PyData.int) ↔ xs = ns.map V.int
 | [], xs => Iff.rfl
 | n :: ns, xs => by
  constructor
  · intro h
    obtain ⟨x, r, e, q, t⟩ := h
    rw [e, show x = V.int n from q, (Are.ints (ns := ns)).mp t]; rfl
  · intro e
    subst e
    exact ⟨_, _, rfl, rfl, (Are.ints (ns := ns)).mpr rfl⟩
theorem Are.bools {K : Fg} {H : Hp} : ∀ {ns : List Bool} {xs : List V}, Are K H xs (ns.map PyData.bool) ↔ xs = ns.map V.bl
 | [], xs => Iff.rfl
 | n :: ns, xs => by
  constructor
  · intro h
    obtain ⟨x, r, e, q, t⟩ := h
    rw [e, show x = V.bl n from q, (Are.bools (ns := ns)).mp t]; rfl
  · intro e
    subst e
    exact ⟨_, _, rfl, rfl, (Are.bools (ns := ns)).mpr rfl⟩
structure Grow (F H F' H' : Hp) : Prop where
 f : Same F F'
 s : Same F' H'
 h : Same H H'
 o : ∀ a o, H a = some o -> (∀ xs, o ≠ .tup xs) -> F a = none -> F' a = none
theorem Grow.refl {F H : Hp} (s : Same F H) : Grow F H F H := ⟨Same.refl _, s, Same.refl _, λ _ _ _ _ h => h⟩
theorem Grow.trans {F H F1 H1 F2 H2 : Hp} (a : Grow F H F1 H1) (b : Grow F1 H1 F2 H2) : Grow F H F2 H2 :=
 ⟨a.f.trans b.f, b.s, a.h.trans b.h, λ c o e t n => b.o c o (a.h c o e) t (a.o c o e t n)⟩
theorem same_upd {F H : Hp} {p : Addr} {o : HO} (s : Same F H) : Same (upd F p o) (upd H p o) := λ b u e => by
 by_cases hb : b = p
 · subst hb; rw [upd_same] at e ⊢; exact e
 · rw [upd_ne hb] at e ⊢; exact s b u e
theorem Grow.new {F H : Hp} {p : Addr} {o : HO} (s : Same F H) (hp : H p = none) : Grow F H (upd F p o) (upd H p o) :=
 ⟨same_new (s.free hp) o, same_upd s, same_new hp o, λ a u e t n => by rw [upd_ne (ne_of_none e hp)]; exact n⟩
theorem Grow.fresh {F H : Hp} {p : Addr} {o : HO} (s : Same F H) (hp : H p = none) : Grow F H F (upd H p o) :=
 ⟨Same.refl _, s.trans (same_new hp o), same_new hp o, λ _ _ _ _ n => n⟩
theorem Grow.frz {F H F' H' : Hp} {p : Addr} {o : HO} (g : Grow F H F' H') (hp : H p = none) (hf : F' p = none) (hh : H' p = some o) : Grow F H (upd F' p o) H' :=
 ⟨g.f.trans (same_new hf o), λ b u e => by
  by_cases hb : b = p
  · subst hb; rw [upd_same] at e; rw [hh]; exact e
  · rw [upd_ne hb] at e; exact g.s b u e, g.h, λ a u e t n => by rw [upd_ne (ne_of_none e hp)]; exact g.o a u e t n⟩
inductive Sl where
 | fz (d : PyData)
 | ow (ds : List PyData)
 | od (kvs : List (PyData × PyData))
noncomputable abbrev DSt := List (Option Sl)
noncomputable def lamE : Expr -> Option Pos
 | .Call _ _ [kw] _ => match kw.value with
  | .Lambda _ _ _ pos => some pos
  | _ => none
 | _ => none
noncomputable def lamS : Stmt -> Option Pos
 | .Return (some e) _ => lamE e
 | .Assign _ e _ => lamE e
 | _ => none
noncomputable def lamOf (fd : FuncData) : Option (Array Value) := match fd.body with
 | .stmts b => (b.findSome? lamS).map λ pos => #[rawInt pos.line, rawInt pos.col, .str (fd.qualname ++ ".<locals>." ++ "<lambda>") 0]
 | _ => none
def TblK (K : Fg) (a : Addr) (ps : Array Value) : Prop := ∃ (f : Addr) (oc : Value) (od : Option Addr) (fd : FuncData) (sl : Array (Option Value)) (c : Addr), K.lookup f = some ⟨oc, od, .func fd, sl⟩ /\ fd.code = .ref c /\ PySem.W.codeHdIn K c a = true /\ lamOf fd = some ps
def Tb (K : Fg) (F : Hp) : Prop := ∀ a ps, TblK K a ps -> F a = some (.tbl ps)
theorem Tb.same {K : Fg} {F F' : Hp} (t : Tb K F) (s : Same F F') : Tb K F' := λ a ps h => s _ _ (t a ps h)
def SameT (K : Fg) (F H : Hp) : Prop := Same F H /\ Tb K F
structure Rep (K : Fg) (H0 F0 F : Hp) (σ : St) (H : Hp) (δ : DSt) : Prop where
 g : Grow F0 H0 F H
 len : σ.length = δ.length
 fz : ∀ (i : Nat) (d : PyData), δ[i]? = some (some (.fz d)) -> ∃ v, σ[i]? = some (some v) /\ Is K F v d
 ow : ∀ (i : Nat) (ds : List PyData), δ[i]? = some (some (.ow ds)) -> ∃ a xs, σ[i]? = some (some (.ref a)) /\ H a = some (.lst xs) /\ F a = none /\ H0 a = none /\ Are K F xs ds
 ap : ∀ (i j : Nat) (ds es : List PyData) (a : Addr), δ[i]? = some (some (.ow ds)) -> δ[j]? = some (some (.ow es)) -> σ[i]? = some (some (.ref a)) -> σ[j]? = some (some (.ref a)) -> i = j
 od : ∀ (i : Nat) (kvs : List (PyData × PyData)), δ[i]? = some (some (.od kvs)) -> ∃ a o, σ[i]? = some (some (.ref a)) /\ H a = some o /\ F a = none /\ H0 a = none /\ DcO K F o kvs
 ad : ∀ (i j : Nat) (ds es : List (PyData × PyData)) (a : Addr), δ[i]? = some (some (.od ds)) -> δ[j]? = some (some (.od es)) -> σ[i]? = some (some (.ref a)) -> σ[j]? = some (some (.ref a)) -> i = j
 tb : Tb K F
section
variable {K : Fg} {H0 F0 F F' : Hp} {σ : St} {H H' : Hp} {δ : DSt}
theorem Rep.grow (R : Rep K H0 F0 F σ H δ) (g : Grow F H F' H') : Rep K H0 F0 F' σ H' δ where
 g := R.g.trans g
 len := R.len
 fz := λ i d e => let ⟨v, h1, h2⟩ := R.fz i d e; ⟨v, h1, h2.same g.f⟩
 ow := λ i ds e => let ⟨a, xs, h1, h2, h3, h4, h5⟩ := R.ow i ds e; ⟨a, xs, h1, g.h _ _ h2, g.o _ _ h2 (λ _ z => nomatch z) h3, h4, h5.same g.f⟩
 ap := R.ap
 od := λ i ds e => let ⟨a, m, h1, h2, h3, h4, h5⟩ := R.od i ds e; ⟨a, m, h1, g.h _ _ h2, g.o _ _ h2 h5.ntup h3, h4, h5.same g.f⟩
 ad := R.ad
 tb := R.tb.same g.f
theorem get_set {α : Type} {l : List α} {i j : Nat} {x y : α} (h : (l.set i x)[j]? = some y) : (j = i /\ y = x) \/ (j ≠ i /\ l[j]? = some y) := by
 rw [List.getElem?_set] at h
 split at h
 · rename_i e
   split at h
   · exact .inl ⟨e.symm, (zV h).symm⟩
   · cases h
 · rename_i e
   exact .inr ⟨λ z => e z.symm, h⟩
theorem set_get {α : Type} {l : List α} {i : Nat} {x : α} (h : i < l.length) : (l.set i x)[i]? = some x := by
 rw [List.getElem?_set, if_pos rfl, if_pos h]
theorem set_get_ne {α : Type} {l : List α} {i j : Nat} {x : α} (h : j ≠ i) : (l.set i x)[j]? = l[j]? := by
 rw [List.getElem?_set, if_neg (λ z => h z.symm)]
theorem lt_of_get {α : Type} {l : List α} {i : Nat} {x : α} (h : l[i]? = some x) : i < l.length := (Qe.mp h).1
theorem Rep.set (R : Rep K H0 F0 F σ H δ) {i : Nat} {v : V} {d : PyData} (h : Is K F v d) : Rep K H0 F0 F (σ.set i (some v)) H (δ.set i (some (.fz d))) where
 g := R.g
 len := by rw [Q9, Q9]; exact R.len
 fz := λ j e q => by
  have hj := lt_of_get q
  rw [Q9] at hj
  rcases get_set q with ⟨rfl, z⟩ | ⟨n, q⟩
  · injection z with z
    injection z with z
    subst z
    exact ⟨v, set_get (by rw [R.len]; exact hj), h⟩
  · rw [set_get_ne n]; exact R.fz j e q
 ow := λ j ds q => by
  rcases get_set q with ⟨rfl, z⟩ | ⟨n, q⟩
  · cases z
  · rw [set_get_ne n]; exact R.ow j ds q
 ap := λ j k ds es a q1 q2 q3 q4 => by
  rcases get_set q1 with ⟨rfl, z⟩ | ⟨n1, q1⟩
  · cases z
  · rcases get_set q2 with ⟨rfl, z⟩ | ⟨n2, q2⟩
    · cases z
    · rw [set_get_ne n1] at q3
      rw [set_get_ne n2] at q4
      exact R.ap j k ds es a q1 q2 q3 q4
 od := λ j ds q => by
  rcases get_set q with ⟨rfl, z⟩ | ⟨n, q⟩
  · cases z
  · rw [set_get_ne n]; exact R.od j ds q
 ad := λ j k ds es a q1 q2 q3 q4 => by
  rcases get_set q1 with ⟨rfl, z⟩ | ⟨n1, q1⟩
  · cases z
  · rcases get_set q2 with ⟨rfl, z⟩ | ⟨n2, q2⟩
    · cases z
    · rw [set_get_ne n1] at q3
      rw [set_get_ne n2] at q4
      exact R.ad j k ds es a q1 q2 q3 q4
 tb := R.tb
theorem Rep.setO (R : Rep K H0 F0 F σ H δ) {i : Nat} {a : Addr} {xs : List V} {ds : List PyData} (ha : H a = some (.lst xs)) (hf : F a = none) (h0 : H0 a = none) (h : Are K F xs ds)
 (hn : ∀ j es, j ≠ i -> δ[j]? = some (some (.ow es)) -> σ[j]? ≠ some (some (.ref a))) : Rep K H0 F0 F (σ.set i (some (.ref a))) H (δ.set i (some (.ow ds))) where
 g := R.g
 len := by rw [Q9, Q9]; exact R.len
 fz := λ j e q => by
  rcases get_set q with ⟨rfl, z⟩ | ⟨n, q⟩
  · cases z
  · rw [set_get_ne n]; exact R.fz j e q
 ow := λ j es q => by
  have hj := lt_of_get q
  rw [Q9] at hj
  rcases get_set q with ⟨rfl, z⟩ | ⟨n, q⟩
  · injection z with z
    injection z with z
    subst z
    exact ⟨a, xs, set_get (by rw [R.len]; exact hj), ha, hf, h0, h⟩
  · rw [set_get_ne n]; exact R.ow j es q
 ap := λ j k ds' es' b q1 q2 q3 q4 => by
  have hj := lt_of_get q1
  have hk := lt_of_get q2
  rw [Q9] at hj hk
  rcases get_set q1 with ⟨ej, z⟩ | ⟨n1, p1⟩
  · rcases get_set q2 with ⟨ek, z2⟩ | ⟨n2, p2⟩
    · rw [ej, ek]
    · rw [ej, set_get (by rw [R.len, <- ej]; exact hj)] at q3
      rw [set_get_ne n2] at q4
      cases q3
      exact absurd q4 (hn k es' n2 p2)
  · rcases get_set q2 with ⟨ek, z⟩ | ⟨n2, p2⟩
    · rw [ek, set_get (by rw [R.len, <- ek]; exact hk)] at q4
      rw [set_get_ne n1] at q3
      cases q4
      exact absurd q3 (hn j ds' n1 p1)
    · rw [set_get_ne n1] at q3
      rw [set_get_ne n2] at q4
      exact R.ap j k ds' es' b p1 p2 q3 q4
 od := λ j ds q => by
  rcases get_set q with ⟨rfl, z⟩ | ⟨n, q⟩
  · cases z
  · rw [set_get_ne n]; exact R.od j ds q
 ad := λ j k ds es a q1 q2 q3 q4 => by
  rcases get_set q1 with ⟨rfl, z⟩ | ⟨n1, q1⟩
  · cases z
  · rcases get_set q2 with ⟨rfl, z⟩ | ⟨n2, q2⟩
    · cases z
    · rw [set_get_ne n1] at q3
      rw [set_get_ne n2] at q4
      exact R.ad j k ds es a q1 q2 q3 q4
 tb := R.tb
theorem Rep.mut (R : Rep K H0 F0 F σ H δ) {i : Nat} {a : Addr} {xs : List V} {es ds : List PyData} (e : δ[i]? = some (some (.ow es))) (hs : σ[i]? = some (some (.ref a))) (hf : F a = none) (h0 : H0 a = none) (h : Are K F xs ds) :
 Rep K H0 F0 F σ (upd H a (.lst xs)) (δ.set i (some (.ow ds))) where
 g := ⟨R.g.f, λ b u q => by rw [upd_ne (ne_of_none q hf)]; exact R.g.s b u q, λ b u q => by rw [upd_ne (ne_of_none q h0)]; exact R.g.h b u q, R.g.o⟩
 len := by rw [Q9]; exact R.len
 fz := λ j d q => by
  rcases get_set q with ⟨rfl, z⟩ | ⟨n, q⟩
  · cases z
  · exact R.fz j d q
 ow := λ j us q => by
  rcases get_set q with ⟨rfl, z⟩ | ⟨n, q⟩
  · injection z with z
    injection z with z
    subst z
    exact ⟨a, xs, hs, upd_same, hf, h0, h⟩
  · obtain ⟨b, ys, q1, q2, q3, q4, q5⟩ := R.ow j us q
    have nb : b ≠ a := λ z => by subst z; exact n (R.ap j i us es b q e q1 hs)
    exact ⟨b, ys, q1, by rw [upd_ne nb]; exact q2, q3, q4, q5⟩
 ap := λ j k ds' es' b q1 q2 q3 q4 => by
  have f : ∀ {m : Nat} {us : List PyData}, (δ.set i (some (Sl.ow ds)))[m]? = some (some (Sl.ow us)) -> ∃ us' : List PyData, δ[m]? = some (some (Sl.ow us')) := λ {m us} q => by
   rcases get_set q with ⟨em, z⟩ | ⟨n, q⟩
   · exact ⟨es, by rw [em]; exact e⟩
   · exact ⟨us, q⟩
  obtain ⟨u1, p1⟩ := f q1
  obtain ⟨u2, p2⟩ := f q2
  exact R.ap j k u1 u2 b p1 p2 q3 q4
 od := λ j us q => by
  rcases get_set q with ⟨rfl, z⟩ | ⟨n, q⟩
  · cases z
  · obtain ⟨b, m, q1, q2, q3, q4, q5⟩ := R.od j us q
    have nb : b ≠ a := λ z => by
     subst z
     obtain ⟨b2, ys, w1, w2, _⟩ := R.ow i es e
     rw [hs] at w1
     cases w1
     rw [q2] at w2
     exact q5.nlst _ (zV w2)
    exact ⟨b, m, q1, by rw [upd_ne nb]; exact q2, q3, q4, q5⟩
 ad := λ j k ds' es' b q1 q2 q3 q4 => by
  rcases get_set q1 with ⟨rfl, z⟩ | ⟨n1, q1⟩
  · cases z
  · rcases get_set q2 with ⟨rfl, z⟩ | ⟨n2, q2⟩
    · cases z
    · exact R.ad j k ds' es' b q1 q2 q3 q4
 tb := R.tb
noncomputable def frz (i : Nat) (δ : DSt) : DSt := match δ[i]? with
 | some (some (.ow ds)) => δ.set i (some (.fz (.list ds)))
 | some (some (.od kvs)) => δ.set i (some (.fz (.dict kvs)))
 | _ => δ
theorem Rep.frz (R : Rep K H0 F0 F σ H δ) (i : Nat) : ∃ F', Same F F' /\ Rep K H0 F0 F' σ H (frz i δ) := by
 unfold DL.frz
 split
 · rename_i ds e
   obtain ⟨a, xs, q1, q2, q3, q4, q5⟩ := R.ow i ds e
   have g := R.g.frz (p := a) (o := .lst xs) q4 q3 q2
   have sF : Same F (upd F a (.lst xs)) := same_new q3 _
   refine ⟨upd F a (.lst xs), sF, g, by rw [Q9]; exact R.len, λ j d q => ?_, λ j us q => ?_, λ j k ds' es' b p1 p2 p3 p4 => ?_, λ j us q => ?_, λ j k ds' es' b p1 p2 p3 p4 => ?_, R.tb.same sF⟩
   · rcases get_set q with ⟨rfl, z⟩ | ⟨n, q⟩
     · injection z with z
       injection z with z
       subst z
       exact ⟨.ref a, q1, a, xs, rfl, upd_same, q5.same sF⟩
     · obtain ⟨v, h1, h2⟩ := R.fz j d q
       exact ⟨v, h1, h2.same sF⟩
   · rcases get_set q with ⟨rfl, z⟩ | ⟨n, q⟩
     · cases z
     · obtain ⟨b, ys, h1, h2, h3, h4, h5⟩ := R.ow j us q
       have nb : b ≠ a := λ z => by subst z; exact n (R.ap j i us ds b q e h1 q1)
       exact ⟨b, ys, h1, h2, by rw [upd_ne nb]; exact h3, h4, h5.same sF⟩
   · rcases get_set p1 with ⟨rfl, z⟩ | ⟨n1, p1⟩
     · cases z
     · rcases get_set p2 with ⟨rfl, z⟩ | ⟨n2, p2⟩
       · cases z
       · exact R.ap j k ds' es' b p1 p2 p3 p4
   · rcases get_set q with ⟨rfl, z⟩ | ⟨n, q⟩
     · cases z
     · obtain ⟨b, m, h1, h2, h3, h4, h5⟩ := R.od j us q
       have nb : b ≠ a := λ z => by
        subst z
        rw [q2] at h2
        exact h5.nlst _ (zV h2).symm
       exact ⟨b, m, h1, h2, by rw [upd_ne nb]; exact h3, h4, h5.same sF⟩
   · rcases get_set p1 with ⟨rfl, z⟩ | ⟨n1, p1⟩
     · cases z
     · rcases get_set p2 with ⟨rfl, z⟩ | ⟨n2, p2⟩
       · cases z
       · exact R.ad j k ds' es' b p1 p2 p3 p4
 · rename_i kvs e
   obtain ⟨a, m, q1, q2, q3, q4, q5⟩ := R.od i kvs e
   have g := R.g.frz (p := a) (o := m) q4 q3 q2
   have sF : Same F (upd F a m) := same_new q3 _
   refine ⟨upd F a m, sF, g, by rw [Q9]; exact R.len, λ j d q => ?_, λ j us q => ?_, λ j k ds' es' b p1 p2 p3 p4 => ?_, λ j us q => ?_, λ j k ds' es' b p1 p2 p3 p4 => ?_, R.tb.same sF⟩
   · rcases get_set q with ⟨rfl, z⟩ | ⟨n, q⟩
     · injection z with z
       injection z with z
       subst z
       exact ⟨.ref a, q1, (q5.same sF).is upd_same⟩
     · obtain ⟨v, h1, h2⟩ := R.fz j d q
       exact ⟨v, h1, h2.same sF⟩
   · rcases get_set q with ⟨rfl, z⟩ | ⟨n, q⟩
     · cases z
     · obtain ⟨b, ys, h1, h2, h3, h4, h5⟩ := R.ow j us q
       have nb : b ≠ a := λ z => by
        subst z
        rw [q2] at h2
        exact q5.nlst _ (zV h2)
       exact ⟨b, ys, h1, h2, by rw [upd_ne nb]; exact h3, h4, h5.same sF⟩
   · rcases get_set p1 with ⟨rfl, z⟩ | ⟨n1, p1⟩
     · cases z
     · rcases get_set p2 with ⟨rfl, z⟩ | ⟨n2, p2⟩
       · cases z
       · exact R.ap j k ds' es' b p1 p2 p3 p4
   · rcases get_set q with ⟨rfl, z⟩ | ⟨n, q⟩
     · cases z
     · obtain ⟨b, m2, h1, h2, h3, h4, h5⟩ := R.od j us q
       have nb : b ≠ a := λ z => by subst z; exact n (R.ad j i us kvs b q e h1 q1)
       exact ⟨b, m2, h1, h2, by rw [upd_ne nb]; exact h3, h4, h5.same sF⟩
   · rcases get_set p1 with ⟨rfl, z⟩ | ⟨n1, p1⟩
     · cases z
     · rcases get_set p2 with ⟨rfl, z⟩ | ⟨n2, p2⟩
       · cases z
       · exact R.ad j k ds' es' b p1 p2 p3 p4
 · exact ⟨F, Same.refl _, R⟩
theorem Rep.weak (R : Rep K H0 F0 F σ H δ) {δ' : DSt} (l : δ'.length = δ.length) (w : ∀ (i : Nat) s, δ'[i]? = some (some s) -> δ[i]? = some (some s)) : Rep K H0 F0 F σ H δ' :=
 ⟨R.g, by rw [R.len, l], λ i d e => R.fz i d (w i _ e), λ i ds e => R.ow i ds (w i _ e), λ i j ds es a q1 q2 => R.ap i j ds es a (w i _ q1) (w j _ q2), λ i ds e => R.od i ds (w i _ e), λ i j ds es a q1 q2 => R.ad i j ds es a (w i _ q1) (w j _ q2), R.tb⟩
end
section
variable (K : Fg)
def SE (te : TE) (f : DSt -> Option PyData) : Prop := ∀ (H0 F0 F : Hp) (σ : St) (H : Hp) (δ : DSt) (d : PyData) (Q : VK), Rep K H0 F0 F σ H δ -> f δ = some d -> (∀ v H' F', Grow F H F' H' -> Is K F' v d -> Q v H') -> te σ H Q
def ST (tt : TT) (f : DSt -> Option Bool) : Prop := ∀ (H0 F0 F : Hp) (σ : St) (H : Hp) (δ : DSt) (b : Bool) (Q : Bool -> Hp -> Prop), Rep K H0 F0 F σ H δ -> f δ = some b -> (∀ H' F', Grow F H F' H' -> Q b H') -> tt σ H Q
def SA (ta : TA) (f : DSt -> Option (List PyData)) : Prop := ∀ (H0 F0 F : Hp) (σ : St) (H : Hp) (δ : DSt) (ds : List PyData) (Q : List V -> Hp -> Prop), Rep K H0 F0 F σ H δ -> f δ = some ds -> (∀ vs H' F', Grow F H F' H' -> Are K F' vs ds -> Q vs H') -> ta σ H Q
def SO (te : TE) (f : DSt -> Option (List PyData)) : Prop := ∀ (H0 F0 F : Hp) (σ : St) (H : Hp) (δ : DSt) (ds : List PyData) (Q : VK), Rep K H0 F0 F σ H δ -> f δ = some ds ->
 (∀ a xs H' F', Grow F H F' H' -> H a = none -> F' a = none -> H' a = some (.lst xs) -> Are K F' xs ds -> Q (.ref a) H') -> te σ H Q
def OpD (r : R2) (g : PyData -> PyData -> Option PyData) : Prop := ∀ (F H : Hp) (x y : V) (dx dy d : PyData) (Q : VK), Same F H -> Is K F x dx -> Is K F y dy -> g dx dy = some d -> (∀ v H' F', Grow F H F' H' -> Is K F' v d -> Q v H') -> r x y H Q
def CallD (r : List V -> Hp -> VK -> Prop) (g : List PyData -> Option PyData) : Prop := ∀ (F H : Hp) (xs : List V) (ds : List PyData) (d : PyData) (Q : VK), Same F H -> Are K F xs ds -> g ds = some d -> (∀ v H' F', Grow F H F' H' -> Is K F' v d -> Q v H') -> r xs H Q
end
noncomputable def dVar (i : Nat) (δ : DSt) : Option PyData := match δ[i]? with
 | some (some (.fz d)) => some d
 | _ => none
noncomputable def dC (d : PyData) (_ : DSt) : Option PyData := some d
noncomputable def d2 (g : PyData -> PyData -> Option PyData) (fa fb : DSt -> Option PyData) (δ : DSt) : Option PyData := (fa δ).bind λ a => (fb δ).bind λ b => g a b
noncomputable def dCall (g : List PyData -> Option PyData) (fs : DSt -> Option (List PyData)) (δ : DSt) : Option PyData := (fs δ).bind g
noncomputable def dNil (_ : DSt) : Option (List PyData) := some []
noncomputable def dCons (f : DSt -> Option PyData) (fs : DSt -> Option (List PyData)) (δ : DSt) : Option (List PyData) := (f δ).bind λ d => (fs δ).bind λ ds => some (d :: ds)
theorem bind_some {α β : Type} {x : Option α} {f : α -> Option β} {b : β} (h : x.bind f = some b) : ∃ a, x = some a /\ f a = some b := by
 cases x with
 | none => cases h
 | some a => exact ⟨a, rfl, h⟩
section
variable {K : Fg} {ta tb te : TE} {fa fb f : DSt -> Option PyData}
theorem SO.se {fo : DSt -> Option (List PyData)} (h : SO K te fo) : SE K te (λ δ => (fo δ).map PyData.list) := by
 intro H0 F0 F σ H δ d Q R e k
 obtain ⟨ds, e1, e2⟩ := Q0.mp e
 subst e2
 refine h H0 F0 F σ H δ ds Q R e1 λ a xs H' F' g h0 hf ha ar => ?_
 exact k (.ref a) H' _ (g.frz h0 hf ha) ⟨a, xs, rfl, upd_same, ar.same (same_new hf _)⟩
theorem se_var (i : Nat) : SE K (tVar i) (dVar i) := by
 intro H0 F0 F σ H δ d Q R e h
 unfold dVar at e
 split at e
 · rename_i d' q
   cases e
   obtain ⟨v, hv, is⟩ := R.fz i d q
   exact ⟨v, hv, h v H F (Grow.refl R.g.s) is⟩
 · cases e
theorem se_c {v : V} {d : PyData} (h : ∀ H, Is K H v d) : SE K (tC v) (dC d) := λ H0 F0 F σ H δ d' Q R e k => by
 cases e
 exact k v H F (Grow.refl R.g.s) (h F)
theorem se_int {n : Int} : SE K (tC (.int n)) (dC (.int n)) := se_c λ _ => rfl
theorem se_bl {b : Bool} : SE K (tC (.bl b)) (dC (.bool b)) := se_c λ _ => rfl
theorem se_non : SE K (tC .non) (dC .none) := se_c λ _ => rfl
theorem se_str {x : Str} : SE K (tC (.str x)) (dC (.str x)) := se_c λ _ => rfl
theorem se_op {r : R2} {g : PyData -> PyData -> Option PyData} (o : OpD K r g) (a : SE K ta fa) (b : SE K tb fb) : SE K (tOp r ta tb) (d2 g fa fb) := by
 intro H0 F0 F σ H δ d Q R e h
 obtain ⟨dx, ex, e⟩ := bind_some e
 obtain ⟨dy, ey, e⟩ := bind_some e
 refine a H0 F0 F σ H δ dx _ R ex λ v H1 F1 g1 i1 => b H0 F0 F1 σ H1 δ dy _ (R.grow g1) ey λ w H2 F2 g2 i2 => ?_
 exact o F2 H2 v w dx dy d Q g2.s (i1.same g2.f) i2 e λ v' H3 F3 g3 i3 => h v' H3 F3 (g1.trans (g2.trans g3)) i3
theorem sa_nil : SA K tNil dNil := λ H0 F0 F σ H δ ds Q R e h => by cases e; exact h [] H F (Grow.refl R.g.s) rfl
theorem sa_cons {t : TA} {fs : DSt -> Option (List PyData)} (a : SE K te f) (b : SA K t fs) : SA K (tCons te t) (dCons f fs) := by
 intro H0 F0 F σ H δ ds Q R e h
 obtain ⟨dx, ex, e⟩ := bind_some e
 obtain ⟨dy, ey, e⟩ := bind_some e
 cases e
 refine a H0 F0 F σ H δ dx _ R ex λ v H1 F1 g1 i1 => b H0 F0 F1 σ H1 δ dy _ (R.grow g1) ey λ vs H2 F2 g2 i2 => ?_
 exact h (v :: vs) H2 F2 (g1.trans g2) ⟨v, vs, rfl, i1.same g2.f, i2⟩
theorem se_callB {r : List V -> Hp -> VK -> Prop} {g : List PyData -> Option PyData} {t : TA} {fs : DSt -> Option (List PyData)} (o : CallD K r g) (a : SA K t fs) : SE K (tCB r t) (dCall g fs) := by
 intro H0 F0 F σ H δ d Q R e h
 obtain ⟨ds, ex, e⟩ := bind_some e
 refine a H0 F0 F σ H δ ds _ R ex λ vs H1 F1 g1 i1 => ?_
 exact o F1 H1 vs ds d Q g1.s i1 e λ v H2 F2 g2 i2 => h v H2 F2 (g1.trans g2) i2
noncomputable def LIM : Nat := 100000
theorem lim_line {n : Nat} (h : n <= LIM) : n <= sizeLine := Q7 h (by decide)
theorem lim_lt {n : Nat} (h : n <= LIM) : n < sizeLine := Nat.lt_of_le_of_lt h (by decide)
noncomputable def dTup (fs : DSt -> Option (List PyData)) (δ : DSt) : Option PyData := (fs δ).bind λ ds => if ds.length <= LIM then some (.tuple ds) else none
noncomputable def dLstO (fs : DSt -> Option (List PyData)) (δ : DSt) : Option (List PyData) := (fs δ).bind λ ds => if ds.length <= LIM then some ds else none
noncomputable def dOwn (fo : DSt -> Option (List PyData)) (δ : DSt) : Option PyData := (fo δ).map PyData.list
theorem se_tup {t : TA} {fs : DSt -> Option (List PyData)} (a : SA K t fs) : SE K (tTup t) (dTup fs) := by
 intro H0 F0 F σ H δ d Q R e h
 obtain ⟨ds, ex, e⟩ := bind_some e
 split at e
 · rename_i hl
   cases e
   refine a H0 F0 F σ H δ ds _ R ex λ vs H1 F1 g1 i1 => ⟨by rw [i1.length]; exact lim_line hl, λ p hp => ?_⟩
   refine h (.ref p) _ _ (g1.trans (Grow.new g1.s hp)) ⟨p, vs, rfl, upd_same, i1.same (same_new (g1.s.free hp) _)⟩
 · cases e
theorem so_lst {t : TA} {fs : DSt -> Option (List PyData)} (a : SA K t fs) : SO K (tLst t) (dLstO fs) := by
 intro H0 F0 F σ H δ d Q R e h
 obtain ⟨ds, ex, e⟩ := bind_some e
 split at e
 · rename_i hl
   cases e
   refine a H0 F0 F σ H δ d _ R ex λ vs H1 F1 g1 i1 => ⟨by rw [i1.length]; exact lim_line hl, λ p hp => ?_⟩
   have hp0 : H p = none := g1.h.free hp
   exact h p vs _ F1 (g1.trans (Grow.fresh g1.s hp)) hp0 (g1.s.free hp) upd_same i1
 · cases e
theorem se_own {fo : DSt -> Option (List PyData)} (h : SO K te fo) : SE K te (dOwn fo) := h.se
noncomputable def dB (f : DSt -> Option PyData) (δ : DSt) : Option Bool := (f δ).bind λ d => match d with
 | .bool b => some b
 | _ => none
noncomputable def truD : PyData -> Option Bool
 | .none => some false
 | .bool b => some b
 | .int i => some (i != 0)
 | .str y => if y.length <= LIM then some ((y.length : Int) != 0) else none
 | .list ds => some (!ds.isEmpty)
 | .tuple ds => some (!ds.isEmpty)
 | .dict _ => none
noncomputable def dTru (f : DSt -> Option PyData) (δ : DSt) : Option Bool := (f δ).bind truD
noncomputable def dNotT (f : DSt -> Option Bool) (δ : DSt) : Option Bool := (f δ).map (!·)
noncomputable def dOrT (f g : DSt -> Option Bool) (δ : DSt) : Option Bool := (f δ).bind λ b => if b = true then some true else g δ
noncomputable def dAndV (f g : DSt -> Option PyData) (δ : DSt) : Option PyData := (dB f δ).bind λ b => if b = true then g δ else some (.bool false)
noncomputable def dNotV (f : DSt -> Option PyData) (δ : DSt) : Option PyData := (dB f δ).map λ b => .bool (!b)
theorem dB_some {f : DSt -> Option PyData} {δ : DSt} {b : Bool} (h : dB f δ = some b) : f δ = some (.bool b) := by
 obtain ⟨d, e, h⟩ := bind_some h
 cases d <;> simp at h
 subst h
 exact e
theorem st_test (a : SE K ta fa) : ST K (tTest ta) (dB fa) := λ H0 F0 F σ H δ b Q R e h =>
 a H0 F0 F σ H δ (.bool b) _ R (dB_some e) λ v H1 F1 g1 i1 => ⟨b, i1, h H1 F1 g1⟩
theorem isEmpty_len {α β : Type} {xs : List α} {ys : List β} (h : xs.length = ys.length) : (!xs.isEmpty) = !ys.isEmpty := by
 cases xs <;> cases ys <;> simp at h <;> rfl
theorem truV_of {F H : Hp} {v : V} {d : PyData} {b : Bool} (s : Same F H) (i : Is K F v d) (e : truD d = some b) : TruV K v H b := by
 cases d with
 | none => rw [show v = .non from i]; cases e; rfl
 | bool c => rw [show v = .bl c from i]; cases e; rfl
 | int c => rw [show v = .int c from i]; cases e; rfl
 | str c =>
  rw [show v = .str c from i]
  have e' : (if c.length <= LIM then some ((c.length : Int) != 0) else none) = some b := e
  split at e'
  · rename_i hl
    cases e'
    exact ⟨lim_line hl, rfl⟩
  · cases e'
 | list ds =>
  obtain ⟨a, xs, rfl, h1, h2⟩ := i
  cases e
  exact .inl ⟨xs, SqL.of (s _ _ h1), (isEmpty_len h2.length).symm⟩
 | tuple ds =>
  obtain ⟨a, xs, rfl, h1, h2⟩ := i
  cases e
  exact .inr (.inl ⟨xs, SqT.of (s _ _ h1), (isEmpty_len h2.length).symm⟩)
 | dict _ => cases e
theorem st_tru (a : SE K ta fa) : ST K (tTru K ta) (dTru fa) := λ H0 F0 F σ H δ b Q R e h => by
 obtain ⟨d, e1, e2⟩ := bind_some e
 exact a H0 F0 F σ H δ d _ R e1 λ v H1 F1 g1 i1 => ⟨b, truV_of g1.s i1 e2, h H1 F1 g1⟩
variable {t u : TT} {c c' : DSt -> Option Bool}
theorem st_not (a : ST K t c) : ST K (tNot t) (dNotT c) := λ H0 F0 F σ H δ b Q R e h => by
 obtain ⟨d, e1, e2⟩ := Q0.mp e
 subst e2
 exact a H0 F0 F σ H δ d _ R e1 λ H1 F1 g1 => h H1 F1 g1
theorem st_or (a : ST K t c) (b : ST K u c') : ST K (tOr t u) (dOrT c c') := λ H0 F0 F σ H δ b' Q R e h => by
 obtain ⟨d, e1, e2⟩ := bind_some e
 refine a H0 F0 F σ H δ d _ R e1 λ H1 F1 g1 => ?_
 cases d with
 | true => cases e2; exact iteT (h H1 F1 g1)
 | false => exact iteF (b H0 F0 F1 σ H1 δ b' _ (R.grow g1) e2 λ H2 F2 g2 => h H2 F2 (g1.trans g2))
theorem se_and (a : SE K ta fa) (b : SE K tb fb) : SE K (tAndV ta tb) (dAndV fa fb) := λ H0 F0 F σ H δ d Q R e h => by
 obtain ⟨b', e1, e2⟩ := bind_some e
 refine a H0 F0 F σ H δ _ _ R (dB_some e1) λ v H1 F1 g1 i1 => ⟨b', i1, ?_⟩
 cases b' with
 | true => exact iteT (b H0 F0 F1 σ H1 δ d _ (R.grow g1) e2 λ v2 H2 F2 g2 i2 => h v2 H2 F2 (g1.trans g2) i2)
 | false => cases e2; exact iteF (h _ H1 F1 g1 rfl)
theorem se_not (a : SE K ta fa) : SE K (tNotV ta) (dNotV fa) := λ H0 F0 F σ H δ d Q R e h => by
 obtain ⟨b', e1, e2⟩ := Q0.mp e
 subst e2
 exact a H0 F0 F σ H δ _ _ R (dB_some e1) λ v H1 F1 g1 i1 => ⟨b', i1, h _ H1 F1 g1 rfl⟩
end
inductive DFlow where
 | nx (δ : DSt)
 | rt (d : PyData)
 | ro (ds : List PyData)
 | bk (δ : DSt)
 | ct (δ : DSt)
noncomputable def Lands (K : Fg) (H0 F0 F : Hp) (D : Ends) : DFlow -> Prop
 | .nx δ => ∀ F' σ H, Rep K H0 F0 F' σ H δ -> Same F F' -> D.nx σ H
 | .rt d => ∀ F' v H, Grow F0 H0 F' H -> Is K F' v d -> D.rt v H
 | .ro ds => ∀ F' a xs H, Grow F0 H0 F' H -> H0 a = none -> F' a = none -> H a = some (.lst xs) -> Are K F' xs ds -> D.rt (.ref a) H
 | .bk δ => ∀ F' σ H, Rep K H0 F0 F' σ H δ -> Same F F' -> D.bk σ H
 | .ct δ => ∀ F' σ H, Rep K H0 F0 F' σ H δ -> Same F F' -> D.ct σ H
theorem Lands.up {K : Fg} {H0 F0 F F1 : Hp} {D : Ends} (s : Same F F1) : ∀ {r : DFlow}, Lands K H0 F0 F D r -> Lands K H0 F0 F1 D r
 | .nx δ, h => λ F' σ H R q => h F' σ H R (s.trans q)
 | .rt d, h => h
 | .ro ds, h => h
 | .bk δ, h => λ F' σ H R q => h F' σ H R (s.trans q)
 | .ct δ, h => λ F' σ H R q => h F' σ H R (s.trans q)
def SS (K : Fg) (ts : TS) (f : DSt -> Option DFlow) : Prop := ∀ (H0 F0 F : Hp) (σ : St) (H : Hp) (δ : DSt) (r : DFlow) (D : Ends), Rep K H0 F0 F σ H δ -> f δ = some r -> Lands K H0 F0 F D r -> ts D σ H
noncomputable def dNext (δ : DSt) : Option DFlow := some (.nx δ)
noncomputable def dSeq (f g : DSt -> Option DFlow) (δ : DSt) : Option DFlow := (f δ).bind λ r => match r with
 | .nx δ' => g δ'
 | r => some r
noncomputable def dIf (c : DSt -> Option Bool) (f g : DSt -> Option DFlow) (δ : DSt) : Option DFlow := (c δ).bind λ b => if b = true then f δ else g δ
noncomputable def dSet (i : Nat) (f : DSt -> Option PyData) (δ : DSt) : Option DFlow := (f δ).map λ d => .nx (δ.set i (some (.fz d)))
noncomputable def dSetO (i : Nat) (f : DSt -> Option (List PyData)) (δ : DSt) : Option DFlow := (f δ).map λ ds => .nx (δ.set i (some (.ow ds)))
noncomputable def dAug (i : Nat) (g : PyData -> PyData -> Option PyData) (f : DSt -> Option PyData) (δ : DSt) : Option DFlow := (dVar i δ).bind λ x => (f δ).bind λ y => (g x y).map λ z => .nx (δ.set i (some (.fz z)))
noncomputable def dRet (f : DSt -> Option PyData) (δ : DSt) : Option DFlow := (f δ).map .rt
noncomputable def dRetO (i : Nat) (δ : DSt) : Option DFlow := match δ[i]? with
 | some (some (.ow ds)) => some (.ro ds)
 | _ => none
noncomputable def dDrop (f : DSt -> Option PyData) (δ : DSt) : Option DFlow := (f δ).map λ _ => .nx δ
noncomputable def dNever (_ : DSt) : Option DFlow := none
noncomputable def dFrz (i : Nat) (f : DSt -> Option DFlow) (δ : DSt) : Option DFlow := f (frz i δ)
noncomputable def dAppend (i : Nat) (f : DSt -> Option PyData) (δ : DSt) : Option DFlow := match δ[i]? with
 | some (some (.ow ds)) => (f δ).bind λ d => if ds.length < LIM then some (.nx (δ.set i (some (.ow (ds ++ [d]))))) else none
 | _ => none
noncomputable def dExtend (i : Nat) (f : DSt -> Option PyData) (δ : DSt) : Option DFlow := match δ[i]? with
 | some (some (.ow ds)) => (f δ).bind λ d => match d with
  | .list es => if ds.length + es.length <= LIM then some (.nx (δ.set i (some (.ow (ds ++ es))))) else none
  | _ => none
 | _ => none
noncomputable def intsD : List PyData -> Option (List Int)
 | [] => some []
 | .int n :: r => (intsD r).map (n :: ·)
 | _ :: _ => none
theorem intsD_some : ∀ {ds : List PyData} {ns : List Int}, intsD ds = some ns -> ds = ns.map PyData.int
 | [], ns, h => by cases h; rfl
 | .int n :: r, ns, h => by
  obtain ⟨ms, e1, e2⟩ := Q0.mp h
  subst e2
  rw [intsD_some e1]; rfl
 | .none :: r, ns, h => by cases h
 | .bool _ :: r, ns, h => by cases h
 | .str _ :: r, ns, h => by cases h
 | .list _ :: r, ns, h => by cases h
 | .tuple _ :: r, ns, h => by cases h
 | .dict _ :: r, ns, h => by cases h
theorem intsD_map : ∀ ns : List Int, intsD (ns.map PyData.int) = some ns
 | [] => rfl
 | n :: r => by
  show (intsD (r.map PyData.int)).map (n :: ·) = _
  rw [intsD_map r]; rfl
noncomputable def dRemove (i : Nat) (f : DSt -> Option PyData) (δ : DSt) : Option DFlow := match δ[i]? with
 | some (some (.ow ds)) => (f δ).bind λ d => match d with
  | .int n => (intsD ds).bind λ ns => if n ∈ ns then some (.nx (δ.set i (some (.ow ((ns.erase n).map PyData.int))))) else none
  | _ => none
 | _ => none
section
variable {K : Fg} {t u : TS} {f g : DSt -> Option DFlow} {te ta tb : TE} {fe fa fb : DSt -> Option PyData} {c : TT} {fc : DSt -> Option Bool}
theorem ss_next : SS K tNext dNext := λ H0 F0 F σ H δ r D R e h => by cases e; exact h F σ H R (Same.refl _)
theorem ss_seq (a : SS K t f) (b : SS K u g) : SS K (tSeq t u) (dSeq f g) := by
 intro H0 F0 F σ H δ r D R e h
 obtain ⟨r1, e1, e2⟩ := bind_some e
 refine a H0 F0 F σ H δ r1 { D with nx := u D } R e1 ?_
 cases r1 with
 | nx δ1 => exact λ F' σ' H' R' s' => b H0 F0 F' σ' H' δ1 r D R' e2 (h.up s')
 | rt d => cases e2; exact h
 | ro d => cases e2; exact h
 | bk d => cases e2; exact h
 | ct d => cases e2; exact h
theorem ss_if (cc : ST K c fc) (a : SS K t f) (b : SS K u g) : SS K (tIfS c t u) (dIf fc f g) := by
 intro H0 F0 F σ H δ r D R e h
 obtain ⟨b', e1, e2⟩ := bind_some e
 refine cc H0 F0 F σ H δ b' _ R e1 λ H1 F1 g1 => ?_
 cases b' with
 | true => exact iteT (a H0 F0 F1 σ H1 δ r D (R.grow g1) e2 (h.up g1.f))
 | false => exact iteF (b H0 F0 F1 σ H1 δ r D (R.grow g1) e2 (h.up g1.f))
theorem ss_set (i : Nat) (a : SE K te fe) : SS K (tAsg te (gName i)) (dSet i fe) := by
 intro H0 F0 F σ H δ r D R e h
 obtain ⟨d, e1, e2⟩ := Q0.mp e
 subst e2
 exact a H0 F0 F σ H δ d _ R e1 λ v H1 F1 g1 i1 => h F1 _ H1 ((R.grow g1).set i1) g1.f
theorem ss_setO (i : Nat) {fo : DSt -> Option (List PyData)} (a : SO K te fo) : SS K (tAsg te (gName i)) (dSetO i fo) := by
 intro H0 F0 F σ H δ r D R e h
 obtain ⟨d, e1, e2⟩ := Q0.mp e
 subst e2
 refine a H0 F0 F σ H δ d _ R e1 λ p xs H1 F1 g1 hn hf hp ar => h F1 _ H1 ((R.grow g1).setO hp hf (R.g.h.free hn) ar λ j es nj ej => ?_) g1.f
 obtain ⟨b, ys, q1, q2, _⟩ := R.ow j es ej
 rw [q1]
 intro z
 cases z
 rw [q2] at hn
 cases hn
theorem ss_aug (i : Nat) {r : R2} {gg : PyData -> PyData -> Option PyData} (o : OpD K r gg) (a : SE K te fe) : SS K (tAug i te r) (dAug i gg fe) := by
 intro H0 F0 F σ H δ r' D R e h
 obtain ⟨x, e1, e⟩ := bind_some e
 obtain ⟨y, e2, e⟩ := bind_some e
 obtain ⟨z, e3, e4⟩ := Q0.mp e
 subst e4
 unfold dVar at e1
 split at e1
 · rename_i d' q
   cases e1
   obtain ⟨v, hv, is⟩ := R.fz i x q
   refine ⟨v, hv, a H0 F0 F σ H δ y _ R e2 λ w H1 F1 g1 i1 => o F1 H1 v w x y z _ g1.s (is.same g1.f) i1 e3 λ v2 H2 F2 g2 i2 => ?_⟩
   exact h F2 _ H2 ((R.grow (g1.trans g2)).set i2) (g1.trans g2).f
 · cases e1
theorem ss_ret (a : SE K te fe) : SS K (tRet te) (dRet fe) := by
 intro H0 F0 F σ H δ r D R e h
 obtain ⟨d, e1, e2⟩ := Q0.mp e
 subst e2
 exact a H0 F0 F σ H δ d _ R e1 λ v H1 F1 g1 i1 => h F1 v H1 (R.g.trans g1) i1
theorem ss_drop (a : SE K te fe) : SS K (tDrop te) (dDrop fe) := by
 intro H0 F0 F σ H δ r D R e h
 obtain ⟨d, e1, e2⟩ := Q0.mp e
 subst e2
 exact a H0 F0 F σ H δ d _ R e1 λ v H1 F1 g1 i1 => h F1 σ H1 (R.grow g1) g1.f
theorem ss_never : SS K tNever dNever := λ H0 F0 F σ H δ r D R e h => by cases e
theorem ss_frz (i : Nat) (a : SS K t f) : SS K t (dFrz i f) := by
 intro H0 F0 F σ H δ r D R e h
 obtain ⟨F', s, R'⟩ := R.frz i
 exact a H0 F0 F' σ H _ r D R' e (h.up s)
theorem ss_append (i : Nat) (a : SE K te fe) : SS K (tDrop (tBM K "list" rAppend (tVar i) (tCons te tNil))) (dAppend i fe) := by
 intro H0 F0 F σ H δ r D R e h
 unfold dAppend at e
 split at e
 · rename_i ds q
   obtain ⟨d, e1, e2⟩ := bind_some e
   split at e2
   · rename_i hl
     cases e2
     obtain ⟨p, xs, q1, q2, q3, q4, q5⟩ := R.ow i ds q
     refine ⟨.ref p, q1, .inl ⟨rfl, xs, SqL.of q2⟩, a H0 F0 F σ H δ d _ R e1 λ v H1 F1 g1 i1 => ⟨p, xs, v, rfl, rfl, g1.h _ _ q2, ?_, ?_⟩⟩
     · rw [q5.length]; exact lim_lt (nLe hl)
     · exact h F1 σ _ ((R.grow g1).mut q q1 (g1.o _ _ q2 (λ _ z => nomatch z) q3) q4 ((q5.same g1.f).append (Are.one i1))) g1.f
   · cases e2
 · cases e
theorem ss_extend (i : Nat) (a : SE K te fe) : SS K (tDrop (tBM K "list" rExtend (tVar i) (tCons te tNil))) (dExtend i fe) := by
 intro H0 F0 F σ H δ r D R e h
 unfold dExtend at e
 split at e
 · rename_i ds q
   obtain ⟨d, e1, e2⟩ := bind_some e
   split at e2
   · rename_i es
     split at e2
     · rename_i hl
       cases e2
       obtain ⟨p, xs, q1, q2, q3, q4, q5⟩ := R.ow i ds q
       refine ⟨.ref p, q1, .inl ⟨rfl, xs, SqL.of q2⟩, a H0 F0 F σ H δ _ _ R e1 λ v H1 F1 g1 i1 => ?_⟩
       obtain ⟨b, zs, rfl, hb, ab⟩ := i1
       refine ⟨p, b, xs, zs, rfl, rfl, g1.h _ _ q2, g1.s _ _ hb, ?_, ?_⟩
       · rw [q5.length, ab.length]; exact lim_line hl
       · exact h F1 σ _ ((R.grow g1).mut q q1 (g1.o _ _ q2 (λ _ z => nomatch z) q3) q4 ((q5.same g1.f).append ab)) g1.f
     · cases e2
   · cases e2
 · cases e
theorem ss_remove (i : Nat) (a : SE K te fe) : SS K (tDrop (tBM K "list" rRemove (tVar i) (tCons te tNil))) (dRemove i fe) := by
 intro H0 F0 F σ H δ r D R e h
 unfold dRemove at e
 split at e
 · rename_i ds q
   obtain ⟨d, e1, e2⟩ := bind_some e
   split at e2
   · rename_i n
     obtain ⟨ns, e3, e4⟩ := bind_some e2
     split at e4
     · rename_i hm
       cases e4
       obtain ⟨p, xs, q1, q2, q3, q4, q5⟩ := R.ow i ds q
       have ed := intsD_some e3
       subst ed
       have ex := Are.ints.mp q5
       subst ex
       refine ⟨.ref p, q1, .inl ⟨rfl, _, SqL.of q2⟩, a H0 F0 F σ H δ _ _ R e1 λ v H1 F1 g1 i1 => ?_⟩
       refine ⟨p, ns, n, rfl, by rw [show v = .int n from i1], g1.h _ _ q2, hm, ?_⟩
       exact h F1 σ _ ((R.grow g1).mut q q1 (g1.o _ _ q2 (λ _ z => nomatch z) q3) q4 (Are.ints.mpr rfl)) g1.f
     · cases e4
   · cases e2
 · cases e
end
structure IterD (K : Fg) (F : Hp) (J : It) (ds : List PyData) : Prop where
 go : ∀ (i : Nat) (F2 H2 : Hp), i < ds.length -> Same F F2 -> Same F2 H2 -> J.go i H2
 stop : ∀ F2 H2 : Hp, Same F F2 -> Same F2 H2 -> J.stop ds.length H2
 yld : ∀ (i : Nat) (d : PyData) (F2 H2 : Hp) (x : V) (H3 : Hp), ds[i]? = some d -> Same F F2 -> Same F2 H2 -> J.yld i H2 x H3 -> ∃ F3, Grow F2 H2 F3 H3 /\ Is K F3 x d
def SI (K : Fg) (wi : TI) (fi : DSt -> Option (List PyData)) : Prop := ∀ (H0 F0 F : Hp) (σ : St) (H : Hp) (δ : DSt) (ds : List PyData) (R : It -> Hp -> Prop), Rep K H0 F0 F σ H δ -> fi δ = some ds ->
 (∀ J H' F', Grow F H F' H' -> IterD K F' J ds -> R J H') -> wi σ H R
def SG (K : Fg) (g : TG) (fg : PyData -> DSt -> Option DSt) : Prop := ∀ (H0 F0 F : Hp) (σ : St) (H : Hp) (δ δ' : DSt) (v : V) (d : PyData) (Q : St -> Hp -> Prop), Rep K H0 F0 F σ H δ -> Is K F v d -> fg d δ = some δ' ->
 (∀ σ', Rep K H0 F0 F σ' H δ' -> Q σ' H) -> g v σ H Q
def SGs (K : Fg) (g : TGs) (fg : List PyData -> DSt -> Option DSt) : Prop := ∀ (H0 F0 F : Hp) (σ : St) (H : Hp) (δ δ' : DSt) (vs : List V) (ds : List PyData) (Q : St -> Hp -> Prop), Rep K H0 F0 F σ H δ -> Are K F vs ds -> fg ds δ = some δ' ->
 (∀ σ', Rep K H0 F0 F σ' H δ' -> Q σ' H) -> g vs σ H Q
noncomputable def gN (i : Nat) (d : PyData) (δ : DSt) : Option DSt := some (δ.set i (some (.fz d)))
noncomputable def gT (n : Nat) (fg : List PyData -> DSt -> Option DSt) (d : PyData) (δ : DSt) : Option DSt := match d with
 | .tuple ds => if ds.length = n then fg ds δ else none
 | _ => none
noncomputable def gZ (ds : List PyData) (δ : DSt) : Option DSt := match ds with
 | [] => some δ
 | _ :: _ => none
noncomputable def gC (f : PyData -> DSt -> Option DSt) (g : List PyData -> DSt -> Option DSt) (ds : List PyData) (δ : DSt) : Option DSt := match ds with
 | [] => none
 | d :: r => (f d δ).bind (g r)
section
variable {K : Fg}
theorem sg_name (i : Nat) : SG K (gName i) (gN i) := λ H0 F0 F σ H δ δ' v d Q R h e k => by cases e; exact k _ (R.set h)
theorem sgs_nil : SGs K gNil gZ := λ H0 F0 F σ H δ δ' vs ds Q R h e k => by
 cases ds with
 | nil => cases e; exact ⟨h, k σ R⟩
 | cons _ _ => cases e
theorem sgs_cons {t : TG} {u : TGs} {f : PyData -> DSt -> Option DSt} {g : List PyData -> DSt -> Option DSt} (a : SG K t f) (b : SGs K u g) : SGs K (gCons t u) (gC f g) := λ H0 F0 F σ H δ δ' vs ds Q R h e k => by
 cases ds with
 | nil => cases e
 | cons d r =>
  obtain ⟨v, vr, rfl, i1, i2⟩ := h
  obtain ⟨δ1, e1, e2⟩ := bind_some e
  exact ⟨v, vr, rfl, a H0 F0 F σ H δ δ1 v d _ R i1 e1 λ σ1 R1 => b H0 F0 F σ1 H δ1 δ' vr r Q R1 i2 e2 k⟩
theorem sg_tup {n : Nat} {t : TGs} {g : List PyData -> DSt -> Option DSt} (b : SGs K t g) : SG K (gTup K n t) (gT n g) := λ H0 F0 F σ H δ δ' v d Q R h e k => by
 unfold gT at e
 split at e
 · rename_i ds
   split at e
   · rename_i hl
     obtain ⟨a, xs, rfl, q, ar⟩ := h
     exact ⟨a, xs, rfl, SqT.of (R.g.s _ _ q), by rw [ar.length, hl], b H0 F0 F σ H δ δ' xs ds Q R ar e k⟩
   · cases e
 · cases e
noncomputable def iterD : PyData -> Option (List PyData)
 | .list ds => some ds
 | .tuple ds => some ds
 | .dict [(.none, .list ds)] => some ds
 | _ => none
noncomputable def smallI (i : Int) : Bool := decide (-1000000000 <= i) && decide (i <= 1000000000)
noncomputable def rangeD (lo : Int) (n : Nat) : List PyData := (List.range n).map λ k : Nat => PyData.int (lo + (k : Int))
noncomputable def dRng1 (fs : DSt -> Option (List PyData)) (δ : DSt) : Option (List PyData) := (fs δ).bind λ ds => match ds with
 | [.int j] => if smallI j = true then some (rangeD 0 j.toNat) else none
 | _ => none
theorem iter_rng (F : Hp) (lo : Int) (n : Nat) : IterD K F (Itr lo n) (rangeD lo n) where
 go := λ i F2 H2 h _ _ => by
  have : i < n := by simpa [rangeD] using h
  exact this
 stop := λ F2 H2 _ _ => by show n <= (rangeD lo n).length; simp [rangeD]
 yld := λ i d F2 H2 x H3 e _ s2 y => by
  obtain ⟨y1, y2⟩ := y
  subst y1 y2
  refine ⟨F2, Grow.refl s2, ?_⟩
  unfold rangeD at e
  rw [zK] at e
  obtain ⟨k, e1, e2⟩ := Q0.mp e
  have hi := lt_of_get e1
  rw [gEq hi] at e1
  have : k = i := by simpa using e1.symm
  subst this
  subst e2
  rfl
theorem si_rng1 {ta : TA} {fs : DSt -> Option (List PyData)} (a : SA K ta fs) : SI K (iRng1 ta) (dRng1 fs) := λ H0 F0 F σ H δ ds R RR e k => by
 obtain ⟨es, e1, e2⟩ := bind_some e
 split at e2
 · rename_i j
   split at e2
   · rename_i hs
     cases e2
     unfold smallI at hs
     rw [Q6, decide_eq_true_eq, decide_eq_true_eq] at hs
     refine a H0 F0 F σ H δ _ _ RR e1 λ vs H1 F1 g1 ar => ?_
     obtain ⟨x, r, rfl, hx, hr⟩ := ar
     rw [show r = [] from hr, show x = .int j from hx]
     exact ⟨j, rfl, by omega, by omega, k _ H1 F1 g1 (iter_rng F1 0 j.toNat)⟩
   · cases e2
 · cases e2
end
def iSeq (K : Fg) (tl : TE) : TI := λ σ H R => tl σ H λ x H1 => ∃ a, x = .ref a /\ (((∃ xs, SqL K H1 a xs) /\ R (Itl K a) H1) \/ ((∃ xs, SqT K H1 a xs) /\ R (Itt K a) H1))
section
variable {X : Cx} {tg : Expr}
theorem pi_seq {l : Expr} {tl : TE} (hl : PE X l tl) : PI X tg l (iSeq X.K tl) := by
 intro pins s σ H R I h
 refine thn (hl pins s σ H _ I h) λ v s1 ⟨x, H1, I1, r1, q1⟩ => ?_
 obtain ⟨a, e, q⟩ := q1
 subst e
 cases r1
 rcases q with ⟨⟨xs, hq⟩, q⟩ | ⟨⟨xs, hq⟩, q⟩
 · obtain ⟨its, rv, p, hz⟩ := I1.list hq
   refine wpAny_pyIter_list p.isList ?_
   refine ⟨s1.heap.objs.size, [s1.heap.objs.size], _, _, H1, rfl, I1.kept (t' := s1.toks) λ b o e => hPo _ e, turn_list a _, ⟨_, hPs _ rfl, rfl, rfl⟩, λ b hb => ?_, q⟩
   have e : b = s1.heap.objs.size := by simpa using hb
   subst e
   exact I1.fpOk (Q4 _) (I1.hok.fresh (Q4 _))
 · obtain ⟨its, rv, p, hz⟩ := I1.tuple hq
   refine wpAny_pyIter_tuple (show s1.heap.IsTuple a its.toArray from p) ?_
   refine ⟨s1.heap.objs.size, [s1.heap.objs.size], _, _, H1, rfl, I1.kept (t' := s1.toks) λ b o e => hPo _ e, turn_tuple a _, ⟨_, hPs _ rfl, rfl, rfl⟩, λ b hb => ?_, q⟩
   have e : b = s1.heap.objs.size := by simpa using hb
   subst e
   exact I1.fpOk (Q4 _) (I1.hok.fresh (Q4 _))
theorem kx_seq {l : Expr} {tl : TE} (K : Fg) (hl : PE X l tl) (h : X.K = K := by rfl) : PI X tg l (iSeq K tl) := h ▸ pi_seq hl
def iEn (K : Fg) (ta : TA) : TI := λ σ H R => ta σ H λ vs H1 => ∃ a, vs = [.ref a] /\ (((∃ xs, SqT K H1 a xs) /\ R (Ite λ H xs => SqT K H a xs) H1) \/ ((∃ xs, SqL K H1 a xs) /\ R (Ite λ H xs => SqL K H a xs) H1))
theorem pi_en {es : List Expr} {k1 : Nat} {tp : Pos} {a : Expr} {ta : TA} {p pos : Pos} (hg : Gl X "enumerate") (hm : X.mg "enumerate" = none) (ha : PA X [a] ta) (hs : starEach [a] X.env = [(false, eval a X.env)] := by rfl) : PI X (.Tuple es k1 tp) (.Call (.Name "enumerate" p) [a] [] pos) (iEn X.K ta) := by
 intro pins s σ H R I h
 refine Call_ (ld_blt I hg hm boot_enumerate (PyProof.Rows.callWith_type1 (thn (ha pos pins s σ H _ I h) λ us s1 ⟨vs, H1, I1, r1, q1⟩ => ?_) hs rfl))
 obtain ⟨b, e, q1⟩ := q1
 subst e
 cases r1 with
 | cons r rr =>
  cases rr
  cases r
  rcases q1 with ⟨⟨xs, hq⟩, q⟩ | ⟨⟨xs, hq⟩, q⟩
  · obtain ⟨its, rv, pt, hz⟩ := I1.tuple hq
    refine call_enT (show s1.heap.IsTuple b its.toArray from pt) λ h' he hi hz' hk => ?_
    refine wpAny_pyIter_enum he ⟨_, [_, _], _, _, H1, rfl, I1.kept (t' := s1.toks) hk, turn_enum (srcT b s1.heap.objs.size), ⟨⟨_, he⟩, hi⟩, λ c hc => ?_, q⟩
    have hc' : c = s1.heap.objs.size + 1 \/ c = s1.heap.objs.size := by simpa using hc
    have hle : s1.heap.objs.size <= c := by rcases hc' with z | z <;> rw [z]; exact Nat.le_succ _; exact Q4 _
    exact I1.fpOk hle (I1.hok.fresh hle)
  · obtain ⟨its, rv, pt, hz⟩ := I1.list hq
    refine call_enumerate_list pt.isList λ h' he hi hz' hk => ?_
    refine wpAny_pyIter_enum he ⟨_, [_, _], _, _, H1, rfl, I1.kept (t' := s1.toks) hk, turn_enum (srcL b s1.heap.objs.size), ⟨⟨_, he⟩, hi⟩, λ c hc => ?_, q⟩
    have hc' : c = s1.heap.objs.size + 1 \/ c = s1.heap.objs.size := by simpa using hc
    have hle : s1.heap.objs.size <= c := by rcases hc' with z | z <;> rw [z]; exact Nat.le_succ _; exact Q4 _
    exact I1.fpOk hle (I1.hok.fresh hle)
theorem kx_en {es : List Expr} {k1 : Nat} {tp : Pos} {a : Expr} {ta : TA} {p pos : Pos} (K : Fg) (hm : X.mg "enumerate" = none) (ha : PA X [a] ta) (h : X.K = K := by rfl) (hg : Gl X "enumerate" := by rfl) (hs : starEach [a] X.env = [(false, eval a X.env)] := by rfl) :
 PI X (.Tuple es k1 tp) (.Call (.Name "enumerate" p) [a] [] pos) (iEn K ta) := h ▸ pi_en hg hm ha hs
end
section
variable {K : Fg}
theorem iter_lst {F : Hp} {a : Addr} {xs : List V} {ds : List PyData} (h : F a = some (.lst xs)) (ar : Are K F xs ds) : IterD K F (Itl K a) ds where
 go := λ i F2 H2 hi s1 s2 => by
  obtain ⟨x, e, _⟩ := ar.get (gEq hi)
  exact ⟨xs, x, SqL.of (s2 _ _ (s1 _ _ h)), e⟩
 stop := λ F2 H2 s1 s2 => ⟨xs, SqL.of (s2 _ _ (s1 _ _ h)), Nat.le_of_eq ar.length⟩
 yld := λ i d F2 H2 x H3 e s1 s2 y => by
  obtain ⟨rfl, y⟩ := y
  have q := y xs (SqL.of (s2 _ _ (s1 _ _ h)))
  obtain ⟨x', e', i'⟩ := ar.get e
  rw [q] at e'
  cases e'
  exact ⟨F2, Grow.refl s2, i'.same s1⟩
theorem iter_tup {F : Hp} {a : Addr} {xs : List V} {ds : List PyData} (h : F a = some (.tup xs)) (ar : Are K F xs ds) : IterD K F (Itt K a) ds where
 go := λ i F2 H2 hi s1 s2 => by
  obtain ⟨x, e, _⟩ := ar.get (gEq hi)
  exact ⟨xs, x, SqT.of (s2 _ _ (s1 _ _ h)), e⟩
 stop := λ F2 H2 s1 s2 => ⟨xs, SqT.of (s2 _ _ (s1 _ _ h)), Nat.le_of_eq ar.length⟩
 yld := λ i d F2 H2 x H3 e s1 s2 y => by
  obtain ⟨rfl, y⟩ := y
  have q := y xs (SqT.of (s2 _ _ (s1 _ _ h)))
  obtain ⟨x', e', i'⟩ := ar.get e
  rw [q] at e'
  cases e'
  exact ⟨F2, Grow.refl s2, i'.same s1⟩
noncomputable def seqD : PyData -> Option (List PyData)
 | .list ds => some ds
 | .tuple ds => some ds
 | _ => none
noncomputable def dIter (f : DSt -> Option PyData) (δ : DSt) : Option (List PyData) := (f δ).bind seqD
theorem si_seq {tl : TE} {f : DSt -> Option PyData} (a : SE K tl f) : SI K (iSeq K tl) (dIter f) := λ H0 F0 F σ H δ ds R RR e k => by
 obtain ⟨d, e1, e2⟩ := bind_some e
 refine a H0 F0 F σ H δ d _ RR e1 λ v H1 F1 g1 is => ?_
 cases d with
 | list es =>
  cases e2
  obtain ⟨p, xs, rfl, q, ar⟩ := is
  exact ⟨p, rfl, .inl ⟨⟨xs, SqL.of (g1.s _ _ q)⟩, k _ H1 F1 g1 (iter_lst q ar)⟩⟩
 | tuple es =>
  cases e2
  obtain ⟨p, xs, rfl, q, ar⟩ := is
  exact ⟨p, rfl, .inr ⟨⟨xs, SqT.of (g1.s _ _ q)⟩, k _ H1 F1 g1 (iter_tup q ar)⟩⟩
 | _ => cases e2
noncomputable def enumD (ds : List PyData) : List PyData := ds.zipIdx.map λ p => PyData.tuple [.int (p.2 : Nat), p.1]
theorem enumD_get {ds : List PyData} {i : Nat} {d : PyData} (h : (enumD ds)[i]? = some d) : ∃ e, ds[i]? = some e /\ d = .tuple [.int (i : Nat), e] := by
 unfold enumD at h
 rw [zK, List.getElem?_zipIdx] at h
 obtain ⟨p, h1, h2⟩ := Q0.mp h
 obtain ⟨e, h3, h4⟩ := Q0.mp h1
 subst h4
 subst h2
 exact ⟨e, h3, by simp⟩
theorem enumD_len (ds : List PyData) : (enumD ds).length = ds.length := by simp [enumD]
theorem iter_en {F : Hp} {S : Hp -> List V -> Prop} {xs : List V} {ds : List PyData} (h : ∀ F2 H2, Same F F2 -> Same F2 H2 -> S H2 xs) (ar : Are K F xs ds) : IterD K F (Ite S) (enumD ds) where
 go := λ i F2 H2 hi s1 s2 => by
  rw [enumD_len] at hi
  obtain ⟨x, e, _⟩ := ar.get (gEq hi)
  exact ⟨xs, x, h F2 H2 s1 s2, e⟩
 stop := λ F2 H2 s1 s2 => ⟨xs, h F2 H2 s1 s2, by rw [enumD_len]; exact ar.length⟩
 yld := λ i d F2 H2 x H3 e s1 s2 y => by
  obtain ⟨p, v, hp, rfl, rfl, y⟩ := y
  have q := y xs (h F2 H2 s1 s2)
  obtain ⟨d', h1, rfl⟩ := enumD_get e
  obtain ⟨x', e', i'⟩ := ar.get h1
  rw [q] at e'
  cases e'
  exact ⟨_, Grow.new s2 hp, p, _, rfl, upd_same, .int (i : Nat), [v], rfl, rfl, v, [], rfl, (i'.same s1).same (same_new (s2.free hp) _), rfl⟩
noncomputable def dEn (fs : DSt -> Option (List PyData)) (δ : DSt) : Option (List PyData) := (fs δ).bind λ ds => match ds with
 | [d] => (seqD d).map enumD
 | _ => none
theorem si_en {ta : TA} {fs : DSt -> Option (List PyData)} (a : SA K ta fs) : SI K (iEn K ta) (dEn fs) := λ H0 F0 F σ H δ ds R RR e k => by
 obtain ⟨es, e1, e2⟩ := bind_some e
 split at e2
 · rename_i d
   obtain ⟨us, e3, e4⟩ := Q0.mp e2
   subst e4
   refine a H0 F0 F σ H δ _ _ RR e1 λ vs H1 F1 g1 ar => ?_
   obtain ⟨x, r, rfl, hx, hr⟩ := ar
   rw [show r = [] from hr]
   cases d with
   | list es =>
    cases e3
    obtain ⟨p, xs, rfl, q, ar⟩ := hx
    exact ⟨p, rfl, .inr ⟨⟨xs, SqL.of (g1.s _ _ q)⟩, k _ H1 F1 g1 (iter_en (λ F2 H2 s1 s2 => SqL.of (s2 _ _ (s1 _ _ q))) ar)⟩⟩
   | tuple es =>
    cases e3
    obtain ⟨p, xs, rfl, q, ar⟩ := hx
    exact ⟨p, rfl, .inl ⟨⟨xs, SqT.of (g1.s _ _ q)⟩, k _ H1 F1 g1 (iter_en (λ F2 H2 s1 s2 => SqT.of (s2 _ _ (s1 _ _ q))) ar)⟩⟩
   | _ => cases e3
 · cases e2
end
noncomputable def loopD (fg : PyData -> DSt -> Option DSt) (fb : DSt -> Option DFlow) : List PyData -> DSt -> Option DFlow
 | [], δ => some (.nx δ)
 | d :: r, δ => (fg d δ).bind λ δ1 => (fb δ1).bind λ fl => match fl with
  | .nx δ2 => loopD fg fb r δ2
  | .ct δ2 => loopD fg fb r δ2
  | .bk δ2 => some (.nx δ2)
  | .rt v => some (.rt v)
  | .ro v => some (.ro v)
noncomputable def dFor (fi : DSt -> Option (List PyData)) (fg : PyData -> DSt -> Option DSt) (fb : DSt -> Option DFlow) (δ : DSt) : Option DFlow := (fi δ).bind λ ds => loopD fg fb ds δ
section
variable {K : Fg}
theorem ss_for {wi : TI} {g : TG} {tb : TS} {fi : DSt -> Option (List PyData)} {fg : PyData -> DSt -> Option DSt} {fb : DSt -> Option DFlow} (hi : SI K wi fi) (hg : SG K g fg) (hb : SS K tb fb) : SS K (tFor wi g tb) (dFor fi fg fb) := by
 intro H0 F0 F σ H δ r D R e h
 obtain ⟨ds, e1, e2⟩ := bind_some e
 refine hi H0 F0 F σ H δ ds _ R e1 λ J H1 F1 g1 it => ?_
 refine ⟨λ i m σ H => m = ds.length - i /\ i <= ds.length /\ ∃ F' δ', Rep K H0 F0 F' σ H δ' /\ Same F1 F' /\ loopD fg fb (ds.drop i) δ' = some r, ⟨ds.length, by simp, zU _, F1, δ, R.grow g1, Same.refl _, e2⟩, ?_⟩
 rintro i m σ' H' ⟨rfl, hle, F', δ', R', s', e'⟩
 by_cases hlt : i < ds.length
 · refine .inr ⟨it.go i F' H' hlt s' R'.g.s, λ σ H => i + 1 <= ds.length /\ ∃ F' δ', Rep K H0 F0 F' σ H δ' /\ Same F1 F' /\ loopD fg fb (ds.drop (i + 1)) δ' = some r, λ σ2 H2 q => ⟨ds.length - (i + 1), by omega, rfl, q⟩, λ x H2 y => ?_⟩
   have hd : ds[i]? = some ds[i] := gEq hlt
   obtain ⟨F2, g2, is⟩ := it.yld i _ F' H' x H2 hd s' R'.g.s y
   rw [List.drop_eq_getElem_cons hlt] at e'
   obtain ⟨δ1, q1, q2⟩ := bind_some e'
   obtain ⟨fl, q3, q4⟩ := bind_some q2
   refine hg H0 F0 F2 σ' H2 δ' δ1 x ds[i] _ (R'.grow g2) is q1 λ σ3 R3 => ?_
   refine hb H0 F0 F2 σ3 H2 δ1 fl _ R3 q3 ?_
   have up : Same F1 F2 := s'.trans g2.f
   cases fl with
   | nx δ2 => exact λ F3 σ4 H4 R4 s4 => ⟨hlt, F3, δ2, R4, up.trans s4, q4⟩
   | ct δ2 => exact λ F3 σ4 H4 R4 s4 => ⟨hlt, F3, δ2, R4, up.trans s4, q4⟩
   | bk δ2 =>
    cases q4
    exact λ F3 σ4 H4 R4 s4 => h F3 σ4 H4 R4 (g1.f.trans (up.trans s4))
   | rt d => cases q4; exact h
   | ro d => cases q4; exact h
 · have e3 : i = ds.length := by omega
   subst e3
   rw [List.drop_length] at e'
   cases e'
   exact .inl ⟨it.stop F' H' s' R'.g.s, h F' σ' H' R' (g1.f.trans s')⟩
end
noncomputable def st0D (n : Nat) (fr : List (Str × Nat)) (δ : DSt) : DSt := List.replicate n none ++ fr.map λ p => match δ[p.2]? with
 | some (some (.fz d)) => some (.fz d)
 | _ => none
noncomputable def mapM' (f : PyData -> Option (Option PyData)) : List PyData -> Option (List PyData)
 | [] => some []
 | d :: r => (f d).bind λ o => match o with
  | some y => (mapM' f r).map (y :: ·)
  | none => mapM' f r
noncomputable def dYes (_ : DSt) : Option Bool := some true
noncomputable def dCompO (n : Nat) (fr : List (Str × Nat)) (fi : DSt -> Option (List PyData)) (fg : PyData -> DSt -> Option DSt) (fc : DSt -> Option Bool) (fe : DSt -> Option PyData) (δ : DSt) : Option (List PyData) :=
 (fi δ).bind λ ds => if ds.length <= LIM then mapM' (λ d => (fg d (st0D n fr δ)).bind λ δ1 => (fc δ1).bind λ b => if b = true then (fe δ1).map some else some none) ds else none
def Low (n : Nat) (fg : PyData -> DSt -> Option DSt) : Prop := ∀ d δ δ1, fg d δ = some δ1 -> δ1.length = δ.length /\ ∀ i, n <= i -> δ1[i]? = δ[i]?
theorem low_name {n i : Nat} (h : i < n := by decide) : Low n (gN i) := λ d δ δ1 e => by
 cases e
 exact ⟨Q9 .., λ j hj => set_get_ne (by omega)⟩
section
variable {K : Fg}
theorem rep0 {H0 F0 F : Hp} {σ : St} {H : Hp} {δ : DSt} (R : Rep K H0 F0 F σ H δ) (n : Nat) (fr : List (Str × Nat)) (H' : Hp) (F1 : Hp) (g : Grow F1 H' F H) : Rep K H' F1 F (st0 n fr σ) H (st0D n fr δ) where
 g := g
 tb := R.tb
 len := by simp [st0, st0D]
 fz := λ i d e => by
  unfold st0D at e
  unfold st0
  by_cases hi : i < n
  · rw [Q1 (by simpa using hi), Q3, if_pos hi] at e
    cases e
  · rw [Q2 (by simpa using hi), Qc, zK] at e ⊢
    cases q : fr[i - n]? with
    | none => rw [q] at e; cases e
    | some p =>
     rw [q] at e
     have e' : (match δ[p.2]? with | some (some (.fz d)) => some (Sl.fz d) | _ => none) = some (.fz d) := zV e
     split at e'
     · rename_i d' q'
       cases e'
       obtain ⟨v, h1, h2⟩ := R.fz p.2 d q'
       refine ⟨v, ?_, h2⟩
       show some ((σ[p.2]?).join) = some (some v)
       rw [h1]
       rfl
     · cases e'
 ow := λ i ds e => by
  exfalso
  unfold st0D at e
  by_cases hi : i < n
  · rw [Q1 (by simpa using hi), Q3, if_pos hi] at e
    cases e
  · rw [Q2 (by simpa using hi), Qc, zK] at e
    cases q : fr[i - n]? with
    | none => rw [q] at e; cases e
    | some p =>
     rw [q] at e
     have e' : (match δ[p.2]? with | some (some (.fz d)) => some (Sl.fz d) | _ => none) = some (.ow ds) := zV e
     split at e' <;> cases e'
 ap := λ i j ds es a e1 e2 e3 e4 => by
  exfalso
  unfold st0D at e1
  by_cases hi : i < n
  · rw [Q1 (by simpa using hi), Q3, if_pos hi] at e1
    cases e1
  · rw [Q2 (by simpa using hi), Qc, zK] at e1
    cases q : fr[i - n]? with
    | none => rw [q] at e1; cases e1
    | some p =>
     rw [q] at e1
     have e' : (match δ[p.2]? with | some (some (.fz d)) => some (Sl.fz d) | _ => none) = some (.ow ds) := zV e1
     split at e' <;> cases e'
 od := λ i ds e => by
  exfalso
  unfold st0D at e
  by_cases hi : i < n
  · rw [Q1 (by simpa using hi), Q3, if_pos hi] at e
    cases e
  · rw [Q2 (by simpa using hi), Qc, zK] at e
    cases q : fr[i - n]? with
    | none => rw [q] at e; cases e
    | some p =>
     rw [q] at e
     have e' : (match δ[p.2]? with | some (some (.fz d)) => some (Sl.fz d) | _ => none) = some (.od ds) := zV e
     split at e' <;> cases e'
 ad := λ i j ds es a e1 e2 e3 e4 => by
  exfalso
  unfold st0D at e1
  by_cases hi : i < n
  · rw [Q1 (by simpa using hi), Q3, if_pos hi] at e1
    cases e1
  · rw [Q2 (by simpa using hi), Qc, zK] at e1
    cases q : fr[i - n]? with
    | none => rw [q] at e1; cases e1
    | some p =>
     rw [q] at e1
     have e' : (match δ[p.2]? with | some (some (.fz d)) => some (Sl.fz d) | _ => none) = some (.od ds) := zV e1
     split at e' <;> cases e'
theorem st_yes : ST K tYes dYes := λ H0 F0 F σ H δ b Q R e h => by cases e; exact h H F (Grow.refl R.g.s)
theorem so_comp {n : Nat} {fr : List (Str × Nat)} {wi : TI} {g : TG} {tc : TT} {te : TE} {fi : DSt -> Option (List PyData)} {fg : PyData -> DSt -> Option DSt} {fc : DSt -> Option Bool} {fe : DSt -> Option PyData}
 (hi : SI K wi fi) (hg : SG K g fg) (hl : Low n fg) (hc : ST K tc fc) (he : SE K te fe) : SO K (tComp n fr wi g tc te) (dCompO n fr fi fg fc fe) := by
 intro H0 F0 F σ H δ rs Q R e h
 obtain ⟨ds, e1, e2⟩ := bind_some e
 split at e2
 · rename_i lim
   refine hi H0 F0 F σ H δ ds _ R e1 λ J H1 F1 g1 it acc hacc => ?_
   have hF1 : F1 acc = none := g1.s.free hacc
   have h0 : H acc = none := g1.h.free hacc
   have R1 := R.grow g1
   let f : PyData -> Option (Option PyData) := λ d => (fg d (st0D n fr δ)).bind λ δ1 => (fc δ1).bind λ b => if b = true then (fe δ1).map some else some none
   have e2' : mapM' f ds = some rs := e2
   refine ⟨λ i m σ' H' => m = ds.length - i /\ i <= ds.length /\ ∃ F' xs us vs, Rep K H1 F1 F' σ' H' (st0D n fr δ) /\ F' acc = none /\ H' acc = some (.lst xs) /\ Are K F' xs us /\ us.length <= i /\ mapM' f (ds.drop i) = some vs /\ rs = us ++ vs, ⟨ds.length, by simp, zU _, F1, [], [], rs, ?_, hF1, upd_same, rfl, Q4 _, e2', rfl⟩, ?_⟩
   · exact (rep0 R1 n fr H1 F1 (Grow.refl g1.s)).grow (Grow.fresh g1.s hacc)
   rintro i m σ' H' ⟨rfl, hle, F', xs, us, vs, R', hF', ha, ar, hu, em, er⟩
   have s' : Same F1 F' := R'.g.f
   by_cases hlt : i < ds.length
   · refine .inr ⟨it.go i F' H' hlt s' R'.g.s, λ σ' H' => i + 1 <= ds.length /\ ∃ F' xs us vs, Rep K H1 F1 F' σ' H' (st0D n fr δ) /\ F' acc = none /\ H' acc = some (.lst xs) /\ Are K F' xs us /\ us.length <= i + 1 /\ mapM' f (ds.drop (i + 1)) = some vs /\ rs = us ++ vs, λ σ2 H2 q => ⟨ds.length - (i + 1), by omega, rfl, q⟩, λ x H2 y => ?_⟩
     have hd : ds[i]? = some ds[i] := gEq hlt
     obtain ⟨F2, g2, is⟩ := it.yld i _ F' H' x H2 hd s' R'.g.s y
     rw [List.drop_eq_getElem_cons hlt] at em
     obtain ⟨o, q1, q2⟩ := bind_some em
     obtain ⟨δ1, q3, q4⟩ := bind_some q1
     obtain ⟨b, q5, q6⟩ := bind_some q4
     obtain ⟨ll, lh⟩ := hl _ _ _ q3
     have weak : ∀ {Fx : Hp} {σx : St} {Hx : Hp}, Rep K H1 F1 Fx σx Hx δ1 -> Rep K H1 F1 Fx σx Hx (st0D n fr δ) := λ {Fx σx Hx} RR => RR.weak ll.symm λ j s es => by
      by_cases hj : j < n
      · unfold st0D at es
        rw [Q1 (by simpa using hj), Q3, if_pos hj] at es
        cases es
      · rw [lh j (by omega)]; exact es
     have ha2 : H2 acc = some (.lst xs) := g2.h _ _ ha
     have hF2 : F2 acc = none := g2.o _ _ ha (λ _ z => nomatch z) hF'
     refine hg H1 F1 F2 σ' H2 _ δ1 x ds[i] _ (R'.grow g2) is q3 λ σ3 R3 => ?_
     refine hc H1 F1 F2 σ3 H2 δ1 b _ R3 q5 λ H4 F4 g4 => ?_
     have ha4 : H4 acc = some (.lst xs) := g4.h _ _ ha2
     have hF4 : F4 acc = none := g4.o _ _ ha2 (λ _ z => nomatch z) hF2
     cases b with
     | false =>
      have q6' : (some none : Option (Option PyData)) = some o := q6
      cases q6'
      refine iteF ⟨hlt, F4, xs, us, vs, weak (R3.grow g4), hF4, ha4, (ar.same g2.f).same g4.f, by omega, q2, er⟩
     | true =>
      have q6' : (fe δ1).map some = some o := q6
      obtain ⟨yd, q7, q8⟩ := Q0.mp q6'
      subst q8
      obtain ⟨ws, q9, q10⟩ := Q0.mp q2
      subst q10
      refine iteT (he H1 F1 F4 σ3 H4 δ1 yd _ (R3.grow g4) q7 λ v H5 F5 g5 i5 => ?_)
      have ha5 : H5 acc = some (.lst xs) := g5.h _ _ ha4
      have hF5 : F5 acc = none := g5.o _ _ ha4 (λ _ z => nomatch z) hF4
      have ar5 : Are K F5 xs us := ((ar.same g2.f).same g4.f).same g5.f
      refine ⟨xs, ha5, ?_, hlt, F5, xs ++ [v], us ++ [yd], ws, ?_, hF5, upd_same, ar5.append (Are.one i5), ?_, q9, by rw [er]; simp⟩
      · rw [ar5.length]
        exact lim_lt (by omega)
      · have R5 := weak ((R3.grow g4).grow g5)
        exact ⟨⟨R5.g.f, λ b u q => by rw [upd_ne (ne_of_none q hF5)]; exact R5.g.s b u q, λ b u q => by rw [upd_ne (ne_of_none q hacc)]; exact R5.g.h b u q, R5.g.o⟩, R5.len, R5.fz, λ j es q => by
         exfalso
         unfold st0D at q
         by_cases hj : j < n
         · rw [Q1 (by simpa using hj), Q3, if_pos hj] at q
           cases q
         · rw [Q2 (by simpa using hj), Qc, zK] at q
           cases z : fr[j - n]? with
           | none => rw [z] at q; cases q
           | some p =>
            rw [z] at q
            have e' : (match δ[p.2]? with | some (some (.fz d)) => some (Sl.fz d) | _ => none) = some (.ow es) := zV q
            (split at e' <;> cases e'), R5.ap, λ j es q => by
         exfalso
         unfold st0D at q
         by_cases hj : j < n
         · rw [Q1 (by simpa using hj), Q3, if_pos hj] at q
           cases q
         · rw [Q2 (by simpa using hj), Qc, zK] at q
           cases z : fr[j - n]? with
           | none => rw [z] at q; cases q
           | some p =>
            rw [z] at q
            have e' : (match δ[p.2]? with | some (some (.fz d)) => some (Sl.fz d) | _ => none) = some (.od es) := zV q
            (split at e' <;> cases e'), R5.ad, R5.tb⟩
      · rw [zQ, List.length_singleton]
        omega
   · have e3 : i = ds.length := by omega
     subst e3
     rw [List.drop_length] at em
     cases em
     rw [Qd] at er
     subst er
     refine .inl ⟨it.stop F' H' s' R'.g.s, ?_⟩
     refine h acc xs H' F' ?_ h0 hF' ha ar
     exact g1.trans R'.g
 · cases e2
end
noncomputable def resOf : DFlow -> Option PyData
 | .nx _ => some .none
 | .rt d => some d
 | .ro ds => some (.list ds)
 | _ => none
noncomputable def stD (n : Nat) (ds : List PyData) : DSt := ds.map (λ d => some (.fz d)) ++ List.replicate (n - ds.length) none
noncomputable def runD (n : Nat) (fb : DSt -> Option DFlow) (ds : List PyData) : Option PyData := (fb (stD n ds)).bind resOf
def spD (K : Fg) (n : Nat) (f : List PyData -> Option PyData) : Sp := λ vs H Q _ => ∃ F ds d, SameT K F H /\ vs.length = n /\ Are K F vs ds /\ f ds = some d /\ ∀ v H' F', Grow F H F' H' -> Is K F' v d -> Q v H'
theorem repStart {K : Fg} {F H : Hp} {N : List Str} {vs : List V} {ds : List PyData} (s : SameT K F H) (ar : Are K F vs ds) : Rep K H F F (L2.start N vs) H (stD N.length ds) where
 g := Grow.refl s.1
 tb := s.2
 len := by
  have := ar.length
  simp [L2.start, stD, this]
 fz := λ i d e => by
  have hl := ar.length
  unfold stD at e
  unfold L2.start
  by_cases hi : i < ds.length
  · rw [Q1 (by simpa using hi), zK] at e
    obtain ⟨d', e1, e2⟩ := Q0.mp e
    cases e2
    obtain ⟨x, h1, h2⟩ := ar.get e1
    refine ⟨x, ?_, h2⟩
    rw [Q1 (by rw [zJ]; omega), zK, h1]
    rfl
  · rw [Q2 (by simpa using hi), Q3] at e
    split at e <;> cases e
 ow := λ i es e => by
  exfalso
  unfold stD at e
  by_cases hi : i < ds.length
  · rw [Q1 (by simpa using hi), zK] at e
    obtain ⟨d', e1, e2⟩ := Q0.mp e
    cases e2
  · rw [Q2 (by simpa using hi), Q3] at e
    split at e <;> cases e
 ap := λ i j es us a e => by
  exfalso
  unfold stD at e
  by_cases hi : i < ds.length
  · rw [Q1 (by simpa using hi), zK] at e
    obtain ⟨d', e1, e2⟩ := Q0.mp e
    cases e2
  · rw [Q2 (by simpa using hi), Q3] at e
    split at e <;> cases e
 od := λ i es e => by
  exfalso
  unfold stD at e
  by_cases hi : i < ds.length
  · rw [Q1 (by simpa using hi), zK] at e
    obtain ⟨d', e1, e2⟩ := Q0.mp e
    cases e2
  · rw [Q2 (by simpa using hi), Q3] at e
    split at e <;> cases e
 ad := λ i j es us a e => by
  exfalso
  unfold stD at e
  by_cases hi : i < ds.length
  · rw [Q1 (by simpa using hi), zK] at e
    obtain ⟨d', e1, e2⟩ := Q0.mp e
    cases e2
  · rw [Q2 (by simpa using hi), Q3] at e
    split at e <;> cases e
section
variable {P : Program} {w : World} {K : Fg} {mg : Str -> Option Value} {base : Heap}
theorem fun_okD {x qual : Str} {st : Stmt} {f : Addr} {fd : FuncData} {N ps : List Str} {k n m : Nat} {fb : DSt -> Option DFlow} (F : Fun K x qual st f fd) (S : FnScope N ps (defScope st)) (hN : N.length = n) (hm : ps.length = m)
 (hbody : ∀ (cdv : Value) (A : Around) (outer : List Env) (s : Shared) (H : Hp) (E : XK), Room k (A.deeper (envOfC qual (defScope st) s.heap.objs.size f cdv)) ->
  ∃ t, PSs (cxOf CX0 P w K mg base N qual (defScope st) f cdv A outer s H E).nox (defBody st) t /\ SS K t fb) : FnOk P w K mg base CX0 (k + 1) f fd ps (spD K m (runD n fb)) := by
 subst hN hm
 refine F.ok S (λ vs H Q E h => ?_) (λ cdv A outer s H vs Q E hr h => ?_)
 · obtain ⟨F', ds, d, _, hl, _⟩ := h
   exact hl
 · obtain ⟨F', ds, d, sF, hl, ar, e, q⟩ := h
   obtain ⟨t, ht, hs⟩ := hbody cdv A outer s H E hr
   obtain ⟨r, e1, e2⟩ := bind_some e
   refine ⟨t, ht, hs H F' F' (L2.start N vs) H (stD N.length ds) r _ (repStart sF ar) e1 ?_⟩
   cases r with
   | nx δ => cases e2; exact λ F2 σ2 H2 R2 _ => q .non H2 F2 R2.g rfl
   | rt d' => cases e2; exact λ F2 v H2 g2 i2 => q v H2 F2 g2 i2
   | ro es =>
    cases e2
    exact λ F2 a xs H2 g2 h0 hf ha ar2 => q (.ref a) H2 _ (g2.frz h0 hf ha) ⟨a, xs, rfl, upd_same, ar2.same (same_new hf _)⟩
   | bk _ => cases e2
   | ct _ => cases e2
end
section
variable {K : Fg}
noncomputable def dOwnCall (n : Nat) (g : List PyData -> Option PyData) (fs : DSt -> Option (List PyData)) (δ : DSt) : Option PyData := (fs δ).bind λ ds => if ds.length = n then g ds else none
theorem se_call {n : Nat} {g : List PyData -> Option PyData} {t : TA} {fs : DSt -> Option (List PyData)} (a : SA K t fs) : SE K (tCall (spD K n g) [] E0 t) (dOwnCall n g fs) := by
 intro H0 F0 F σ H δ d Q R e h
 obtain ⟨ds, e1, e2⟩ := bind_some e
 split at e2
 · rename_i hl
   refine a H0 F0 F σ H δ ds _ R e1 λ vs H1 F1 g1 ar => ⟨F1, ds, d, ⟨g1.s, R.tb.same g1.f⟩, ?_, ?_, e2, λ v H2 F2 g2 i2 => h v H2 F2 (g1.trans g2) i2⟩
   · rw [Qd, ar.length, hl]
   · rw [Qd]; exact ar
 · cases e2
end
section
variable {K : Fg}
noncomputable def iiD (g : Int -> Int -> Option PyData) : PyData -> PyData -> Option PyData
 | .int a, .int b => g a b
 | _, _ => none
theorem iiD_some {g : Int -> Int -> Option PyData} {x y d : PyData} (h : iiD g x y = some d) : ∃ i j, x = .int i /\ y = .int j /\ g i j = some d := by
 unfold iiD at h
 split at h
 · exact ⟨_, _, rfl, rfl, h⟩
 · cases h
theorem od_i0 {g : Int -> Int -> V} {g' : Int -> Int -> PyData} (hg : ∀ i j H, Is K H (g i j) (g' i j)) : OpD K (rI0 g) (iiD λ i j => some (g' i j)) := λ F H x y dx dy d Q s hx hy e k => by
 obtain ⟨i, j, rfl, rfl, e⟩ := iiD_some e
 cases e
 exact ⟨i, j, hx, hy, k _ H F (Grow.refl s) (hg i j F)⟩
theorem od_i {C : Int -> Int -> Prop} {c : Int -> Int -> Bool} {g : Int -> Int -> V} {g' : Int -> Int -> PyData} (hc : ∀ i j, c i j = true -> C i j) (hg : ∀ i j H, Is K H (g i j) (g' i j)) : OpD K (rI C g) (iiD λ i j => if c i j = true then some (g' i j) else none) := λ F H x y dx dy d Q s hx hy e k => by
 obtain ⟨i, j, rfl, rfl, e1⟩ := iiD_some e
 split at e1
 · rename_i h
   cases e1
   exact ⟨i, j, hx, hy, hc i j h, k _ H F (Grow.refl s) (hg i j F)⟩
 · cases e1
noncomputable def subD := iiD λ i j => some (.int (i - j))
noncomputable def ltD := iiD λ i j => some (.bool (decide (i < j)))
noncomputable def leD := iiD λ i j => some (.bool (decide (i <= j)))
noncomputable def gtD := iiD λ i j => some (.bool (decide (j < i)))
noncomputable def iaddD := iiD λ i j => some (.int (i + j))
noncomputable def cMul (i j : Int) : Bool := (decide (-1000000000000 <= i) && decide (i <= 1000000000000)) || (decide (-1000000000000 <= j) && decide (j <= 1000000000000))
noncomputable def mulI := iiD λ i j => if cMul i j = true then some (.int (i * j)) else none
noncomputable def cMod (_ j : Int) : Bool := decide (0 < j)
noncomputable def modD := iiD λ i j => if cMod i j = true then some (.int (i % j)) else none
theorem od_sub : OpD K (rI0 λ i j => .int (i - j)) subD := od_i0 λ _ _ _ => rfl
theorem od_lt : OpD K (rI0 λ i j => .bl (decide (i < j))) ltD := od_i0 λ _ _ _ => rfl
theorem od_le : OpD K (rI0 λ i j => .bl (decide (i <= j))) leD := od_i0 λ _ _ _ => rfl
theorem od_gt : OpD K (rI0 λ i j => .bl (decide (j < i))) gtD := od_i0 λ _ _ _ => rfl
theorem od_iadd : OpD K (rI0 λ i j => .int (i + j)) iaddD := od_i0 λ _ _ _ => rfl
theorem cMul_ok {i j : Int} (h : cMul i j = true) : CMul i j := by
 unfold cMul at h
 simp only [Bool.or_eq_true, Q6, decide_eq_true_eq] at h
 unfold CMul
 omega
theorem od_mul : OpD K (rI CMul λ i j => .int (i * j)) mulI := od_i (λ _ _ h => cMul_ok h) λ _ _ _ => rfl
theorem od_mod : OpD K (rI (λ _ j => 0 < j) λ i j => .int (i % j)) modD := od_i (λ _ _ h => by simpa [cMod] using h) λ _ _ _ => rfl
def rCatD (K : Fg) : R2 := λ x y H Q => ∃ a b xs ys, x = .ref a /\ y = .ref b /\ H a = some (.tup xs) /\ H b = some (.tup ys) /\ xs.length + ys.length <= sizeLine /\ (ys = [] -> Q (.ref a) H) /\ (xs = [] -> Q (.ref b) H) /\ ∀ p, H p = none -> Q (.ref p) (upd H p (.tup (xs ++ ys)))
theorem op_catD {X : Cx} : OpR X (binaryOp .Add) (rCatD X.K) := by
 intro pins s σ H x y v u Q I rx ry h
 obtain ⟨a, b, xs, ys, rfl, rfl, ha, hb, hz, q1, q2, q3⟩ := h
 by_cases hx : xs = []
 · cases rx
   cases ry
   obtain ⟨its, r1, p1, _⟩ := I.tuple (SqT.of ha)
   obtain ⟨its2, r2, p2, _⟩ := I.tuple (SqT.of hb)
   exact cat_nil p1 p2 (r1.nil_iff.mpr hx) ⟨.ref b, H, I, rfl, q2 hx⟩
 · exact op_catT pins s σ H _ _ v u Q I rx ry ⟨a, b, xs, ys, rfl, rfl, SqT.of ha, SqT.of hb, hx, hz, q1, λ _ p hp => q3 p hp⟩
def rAddS : R2 := λ x y H Q => ∃ i j, x = .str i /\ y = .str j /\ i.length + j.length <= sizeLine /\ Q (.str (i ++ j)) H
def rAddA (K : Fg) : R2 := λ x y H Q => (rI0 λ i j => .int (i + j)) x y H Q \/ (rCatD K x y H Q \/ (rCat x y H Q \/ rAddS x y H Q))
theorem kx_add {X : Cx} (K : Fg) (h : X.K = K := by rfl) : OpR X (binaryOp .Add) (rAddA K) := op_add.or ((h ▸ op_catD).or (op_cat.or op_add_str))
noncomputable def addD : PyData -> PyData -> Option PyData
 | .int a, .int b => some (.int (a + b))
 | .tuple a, .tuple b => if a.length + b.length <= LIM then some (.tuple (a ++ b)) else none
 | .list a, .list b => if a.length + b.length <= LIM then some (.list (a ++ b)) else none
 | .str a, .str b => if a.length + b.length <= LIM then some (.str (a ++ b)) else none
 | _, _ => none
theorem od_add : OpD K (rAddA K) addD := λ F H x y dx dy d Q s hx hy e k => by
 unfold addD at e
 split at e
 · cases e
   exact .inl ⟨_, _, hx, hy, k _ H F (Grow.refl s) rfl⟩
 · rename_i a b
   split at e
   · rename_i hl
     cases e
     obtain ⟨p, xs, rfl, q, ar⟩ := hx
     obtain ⟨p', ys, rfl, q', ar'⟩ := hy
     refine .inr (.inl ⟨p, p', xs, ys, rfl, rfl, s _ _ q, s _ _ q', by rw [ar.length, ar'.length]; exact lim_line hl, λ z => ?_, λ z => ?_, λ t ht => ?_⟩)
     · refine k _ H F (Grow.refl s) ⟨p, xs, rfl, q, ?_⟩
       have := ar'.length
       rw [z] at this
       have : b = [] := List.eq_nil_of_length_eq_zero this.symm
       subst this
       rw [Qd]
       exact ar
     · refine k _ H F (Grow.refl s) ⟨p', ys, rfl, q', ?_⟩
       have := ar.length
       rw [z] at this
       have : a = [] := List.eq_nil_of_length_eq_zero this.symm
       subst this
       exact ar'
     · have sn : Same F (upd F t (.tup (xs ++ ys))) := same_new (s.free ht) _
       exact k _ _ _ (Grow.new s ht) ⟨t, _, rfl, upd_same, (ar.append ar').same sn⟩
   · cases e
 · rename_i a b
   split at e
   · rename_i hl
     cases e
     obtain ⟨p, xs, rfl, q, ar⟩ := hx
     obtain ⟨p', ys, rfl, q', ar'⟩ := hy
     refine .inr (.inr (.inl ⟨p, p', xs, ys, rfl, rfl, s _ _ q, s _ _ q', by rw [ar.length, ar'.length]; exact lim_line hl, λ t ht => ?_⟩))
     have sn : Same F (upd F t (.lst (xs ++ ys))) := same_new (s.free ht) _
     exact k _ _ _ (Grow.new s ht) ⟨t, _, rfl, upd_same, (ar.append ar').same sn⟩
   · cases e
 · rename_i a b
   split at e
   · rename_i hl
     cases e
     exact .inr (.inr (.inr ⟨a, b, hx, hy, lim_line hl, k _ H F (Grow.refl s) rfl⟩))
   · cases e
 · cases e
theorem atI_are {F : Hp} {xs : List V} {ds : List PyData} {i : Int} {d : PyData} (ar : Are K F xs ds) (e : atI ds i = some d) : ∃ v, atI xs i = some v /\ Is K F v d := by
 unfold atI at e ⊢
 rw [<- ar.length] at e
 obtain ⟨j, e1, e2⟩ := bind_some e
 rw [e1]
 exact ar.get e2
noncomputable def scrD : PyData -> Option (List Int)
 | .dict [(.none, .list ds)] => intsD ds
 | _ => none
theorem scr_of {F : Hp} {x : V} {d : PyData} {ns : List Int} (e : scrD d = some ns) (h : Is K F x d) : ∃ a, x = .ref a /\ SqL K F a (ns.map V.int) := by
 unfold scrD at e
 split at e
 · rename_i ds
   have ed := intsD_some e
   subst ed
   obtain ⟨a, rfl, h⟩ := h
   rcases h with ⟨ms, e1, q⟩ | ⟨m, _, q⟩ | ⟨nm, z, _⟩ | ⟨m, _, q⟩
   · have : ns = ms := by
      injection e1 with e1 _
      injection e1 with _ e1
      injection e1 with e1
      have := congrArg intsD e1
      rw [intsD_map, intsD_map] at this
      exact zV this
     subst this
     exact ⟨a, rfl, q⟩
   · obtain ⟨z, m', _, q, _⟩ := q
     have := q.1
     cases this
   · cases z
   · cases q.1
 · cases e
noncomputable def ixD : PyData -> PyData -> Option PyData
 | .tuple ds, .int i => atI ds i
 | .list ds, .int i => atI ds i
 | .str z, .int i => if z.length <= LIM then (atI z.cps.toList i).map λ c => .str ⟨#[c]⟩ else none
 | d, .int i => (scrD d).bind λ ns => (atI ns i).map PyData.int
 | _, _ => none
theorem kx_ix {X : Cx} (K : Fg) (h : X.K = K := by rfl) : IxR X (rIx K) := h ▸ ix_seq
theorem atI_map {α β : Type} (f : α -> β) (l : List α) (i : Int) : atI (l.map f) i = (atI l i).map f := by
 unfold atI
 rw [zJ]
 cases ixN l.length i with
 | none => rfl
 | some j => simp
theorem od_ix : OpD K (rIx K) ixD := λ F H x y dx dy d Q s hx hy e k => by
 unfold ixD at e
 split at e
 · obtain ⟨p, xs, rfl, q, ar⟩ := hx
   obtain ⟨v, e1, i1⟩ := atI_are ar e
   exact .inr (.inl ⟨p, xs, _, v, rfl, hy, SqT.of (s _ _ q), e1, k v H F (Grow.refl s) i1⟩)
 · obtain ⟨p, xs, rfl, q, ar⟩ := hx
   obtain ⟨v, e1, i1⟩ := atI_are ar e
   exact .inl ⟨p, xs, _, v, rfl, hy, SqL.of (s _ _ q), e1, k v H F (Grow.refl s) i1⟩
 · rename_i z i
   split at e
   · rename_i hl
     obtain ⟨c, e1, e2⟩ := Q0.mp e
     subst e2
     exact .inr (.inr ⟨z, i, c, hx, hy, lim_line hl, e1, k _ H F (Grow.refl s) rfl⟩)
   · cases e
 · rename_i i _ _ _
   obtain ⟨ns, e1, e2⟩ := bind_some e
   obtain ⟨n, e3, e4⟩ := Q0.mp e2
   subst e4
   obtain ⟨a, rfl, q⟩ := scr_of e1 hx
   exact .inl ⟨a, _, i, .int n, rfl, hy, s.seq q, by rw [atI_map, e3]; rfl, k _ H F (Grow.refl s) rfl⟩
 · cases e
noncomputable def lenD : PyData -> Option Nat
 | .tuple ds => some ds.length
 | .list ds => some ds.length
 | .str z => if z.length <= LIM then some z.length else none
 | d => (scrD d).map List.length
def rLenA (K : Fg) : List V -> Hp -> VK -> Prop := λ xs H Q => ∃ x n, xs = [x] /\ LenV K x H n /\ Q (.int (n : Nat)) H
theorem kx_lenA {X : Cx} (K : Fg) (h : X.K = K := by rfl) : CallR X (.builtin "len") (rLenA K) := h ▸ call_len
noncomputable def lenC : List PyData -> Option PyData
 | [d] => (lenD d).map λ n : Nat => .int (n : Nat)
 | _ => none
theorem lenV_of {F H : Hp} {x : V} {d : PyData} {n : Nat} (s : Same F H) (h : Is K F x d) (e : lenD d = some n) : LenV K x H n := by
 unfold lenD at e
 split at e
 · cases e
   obtain ⟨p, xs, rfl, q, ar⟩ := h
   exact .inr ⟨xs, SqT.of (s _ _ q), ar.length.symm⟩
 · cases e
   obtain ⟨p, xs, rfl, q, ar⟩ := h
   exact .inl ⟨xs, SqL.of (s _ _ q), ar.length.symm⟩
 · rename_i z
   split at e
   · rename_i hl
     cases e
     rw [show x = .str z from h]
     exact ⟨lim_line hl, rfl⟩
   · cases e
 · obtain ⟨ns, e1, e2⟩ := Q0.mp e
   subst e2
   obtain ⟨a, rfl, q⟩ := scr_of e1 h
   exact .inl ⟨_, s.seq q, by rw [zJ]⟩
theorem cd_len : CallD K (rLenA K) lenC := λ F H xs ds d Q s ar e k => by
 unfold lenC at e
 split at e
 · obtain ⟨n, e1, e2⟩ := Q0.mp e
   subst e2
   obtain ⟨x, r, rfl, hx, hr⟩ := ar
   rw [show r = [] from hr]
   exact ⟨x, n, rfl, lenV_of s hx e1, k _ H F (Grow.refl s) rfl⟩
 · cases e
mutual
theorem toD {H : Hp} : ∀ {x : V} (d : PyData), d.canLay0 = true -> Is K H x d -> L2.IsD K H x d
 | _, .none, _, h => h
 | _, .bool _, _, h => h
 | _, .int _, _, h => h
 | _, .str _, _, h => h
 | _, .list ds, c, h => by
  obtain ⟨a, xs, e, q, r⟩ := h
  exact ⟨a, xs, e, SqL.of q, toDs ds (by simpa [PyData.canLay0] using c) r⟩
 | _, .tuple ds, c, h => by
  obtain ⟨a, xs, e, q, r⟩ := h
  exact ⟨a, xs, e, SqT.of q, toDs ds (by simpa [PyData.canLay0] using c) r⟩
 | _, .dict _, c, h => by simp [PyData.canLay0] at c
theorem toDs {H : Hp} : ∀ {xs : List V} (ds : List PyData), PyData.canLayAll0 ds = true -> Are K H xs ds -> L2.AllD K H xs ds
 | _, [], _, h => h
 | _, d :: ds, c, h => by
  obtain ⟨x, r, e, q, t⟩ := h
  simp only [PyData.canLayAll0, Q6] at c
  exact ⟨x, r, e, toD d c.1 q, toDs ds c.2 t⟩
end
noncomputable def okD (d : PyData) : Bool := d.canLay0 && decide (d.depth <= 60)
theorem okD_cmp {d : PyData} (h : okD d = true) : cmpOk d := by
 unfold okD at h
 rw [Q6, decide_eq_true_eq] at h
 exact h
noncomputable def eqD (a b : PyData) : Option PyData := if (okD a && okD b) = true then some (.bool (PyData.eqv a b)) else none
noncomputable def neD (a b : PyData) : Option PyData := if (okD a && okD b) = true then some (.bool (!PyData.eqv a b)) else none
theorem od_eq : OpD K (rEqD K false) eqD := λ F H x y dx dy d Q s hx hy e k => by
 unfold eqD at e
 split at e
 · rename_i c
   rw [Q6] at c
   cases e
   exact ⟨dx, dy, toD dx (okD_cmp c.1).1 (hx.same s), toD dy (okD_cmp c.2).1 (hy.same s), okD_cmp c.1, okD_cmp c.2, k _ H F (Grow.refl s) rfl⟩
 · cases e
theorem od_ne : OpD K (rEqD K true) neD := λ F H x y dx dy d Q s hx hy e k => by
 unfold neD at e
 split at e
 · rename_i c
   rw [Q6] at c
   cases e
   exact ⟨dx, dy, toD dx (okD_cmp c.1).1 (hx.same s), toD dy (okD_cmp c.2).1 (hy.same s), okD_cmp c.1, okD_cmp c.2, k _ H F (Grow.refl s) rfl⟩
 · cases e
noncomputable def dChain (g g' : PyData -> PyData -> Option PyData) (fa fb fc : DSt -> Option PyData) (δ : DSt) : Option PyData := (fa δ).bind λ a => (fb δ).bind λ b => (g a b).bind λ r => match r with
 | .bool true => (fc δ).bind λ c => g' b c
 | .bool false => some (.bool false)
 | _ => none
theorem se_chain {r r' : R2} {g g' : PyData -> PyData -> Option PyData} {ta tb tc : TE} {fa fb fc : DSt -> Option PyData} (o : OpD K r g) (o' : OpD K r' g') (a : SE K ta fa) (b : SE K tb fb) (c : SE K tc fc) : SE K (tChain r r' ta tb tc) (dChain g g' fa fb fc) := λ H0 F0 F σ H δ d Q R e h => by
 obtain ⟨dx, ex, e⟩ := bind_some e
 obtain ⟨dy, ey, e⟩ := bind_some e
 obtain ⟨dz, ez, e⟩ := bind_some e
 refine a H0 F0 F σ H δ dx _ R ex λ v H1 F1 g1 i1 => b H0 F0 F1 σ H1 δ dy _ (R.grow g1) ey λ w H2 F2 g2 i2 => ?_
 refine o F2 H2 v w dx dy dz _ g2.s (i1.same g2.f) i2 ez λ v' H3 F3 g3 i3 => ?_
 split at e
 · refine ⟨true, i3, iteT ?_⟩
   obtain ⟨du, eu, e⟩ := bind_some e
   refine c H0 F0 F3 σ H3 δ du _ ((R.grow (g1.trans g2)).grow g3) eu λ u H4 F4 g4 i4 => ?_
   exact o' F4 H4 w u dy du d Q g4.s ((i2.same g3.f).same g4.f) i4 e λ v5 H5 F5 g5 i5 => h v5 H5 F5 (g1.trans (g2.trans (g3.trans (g4.trans g5)))) i5
 · cases e
   exact ⟨false, i3, iteF (h _ H3 F3 (g1.trans (g2.trans g3)) rfl)⟩
 · cases e
noncomputable def tyD : PyData -> String
 | .none => "NoneType"
 | .bool _ => "bool"
 | .int _ => "int"
 | .str _ => "str"
 | .list _ => "list"
 | .tuple _ => "tuple"
 | .dict _ => "dict"
noncomputable def isiN (d : PyData) (n : String) : Bool := tyD d == n || (tyD d == "bool" && n == "int")
def rIsiD (K : Fg) : List V -> Hp -> VK -> Prop := λ xs H Q => ∃ x n d, xs = [x, .ty n] /\ Is K H x d /\ (d matches .dict _) = false /\ n ∈ ["int", "bool", "str", "list", "tuple"] /\ Q (.bl (isiN d n)) H
end
section
variable {X : Cx}
theorem kitT {K : Fg} (d : PyData) (hd : (d matches .dict _) = false) (n : String) (hn : n ∈ ["int", "bool", "str", "list", "tuple"]) : PySem.W.kitOne K (.type (tyD d)) (.type n) = some (isiN d n) := by
 have go : ∀ t ∈ ["NoneType", "bool", "int", "str", "list", "tuple"], ∀ n ∈ ["int", "bool", "str", "list", "tuple"],
  (if (Value.type t == Value.type n) = true then some true else if PySem.W.kitMeta n = true then (fastBuiltinMro t).map (·.contains (.type n)) else none) = some (t == n || (t == "bool" && n == "int")) := by decide +kernel
 have ht : tyD d ∈ ["NoneType", "bool", "int", "str", "list", "tuple"] := by
  cases d <;> simp [tyD] at hd ⊢
 exact go _ ht n hn
theorem call_isiD : CallR X (.builtin "isinstance") (rIsiD X.K) := by
 intro pins s σ H xs us Q I rv h
 obtain ⟨x, n, d, rfl, hx, hd, hn, q⟩ := h
 obtain ⟨u, w', rfl, r1, r2⟩ := rv.two
 cases r2
 have e := kitT (K := X.K) d hd n hn
 have fin : ∀ tk, EP X pins σ Q (.bool (isiN d n)) { s with toks := tk } := λ tk => ⟨.bl _, H, I.tok tk, rfl, q⟩
 cases d with
 | none => exact isinst_ok I r1 (by rw [show x = .non from hx]; exact TyOf.non) e fin
 | bool b => exact isinst_ok I r1 (by rw [show x = .bl b from hx]; exact TyOf.bl b) e fin
 | int b => exact isinst_ok I r1 (by rw [show x = .int b from hx]; exact TyOf.int b) e fin
 | str b => exact isinst_ok I r1 (by rw [show x = .str b from hx]; exact TyOf.str b) e fin
 | list ds =>
  obtain ⟨a, ys, rfl, q', _⟩ := hx
  exact isinst_ok I r1 (TyOf.lst q') e fin
 | tuple ds =>
  obtain ⟨a, ys, rfl, q', _⟩ := hx
  exact isinst_ok I r1 (TyOf.tup q') e fin
 | dict _ => cases hd
theorem kx_isiD (K : Fg) (h : X.K = K := by rfl) : CallR X (.builtin "isinstance") (rIsiD K) := h ▸ call_isiD
end
section
variable {K : Fg}
noncomputable def dIsi (n : String) (f : DSt -> Option PyData) (δ : DSt) : Option PyData := (f δ).bind λ d => match d with
 | .dict _ => none
 | d => some (.bool (isiN d n))
theorem se_isi {te : TE} {n : String} {f : DSt -> Option PyData} (a : SE K te f) (hn : n ∈ ["int", "bool", "str", "list", "tuple"] := by decide) : SE K (tCB (rIsiD K) (tCons te (tCons (tC (.ty n)) tNil))) (dIsi n f) := λ H0 F0 F σ H δ d Q R e h => by
 obtain ⟨dx, e1, e2⟩ := bind_some e
 refine a H0 F0 F σ H δ dx _ R e1 λ v H1 F1 g1 i1 => ?_
 cases dx with
 | dict _ => cases e2
 | none => cases e2; exact ⟨v, n, _, rfl, i1.same g1.s, rfl, hn, h _ H1 F1 g1 rfl⟩
 | bool _ => cases e2; exact ⟨v, n, _, rfl, i1.same g1.s, rfl, hn, h _ H1 F1 g1 rfl⟩
 | int _ => cases e2; exact ⟨v, n, _, rfl, i1.same g1.s, rfl, hn, h _ H1 F1 g1 rfl⟩
 | str _ => cases e2; exact ⟨v, n, _, rfl, i1.same g1.s, rfl, hn, h _ H1 F1 g1 rfl⟩
 | list _ => cases e2; exact ⟨v, n, _, rfl, i1.same g1.s, rfl, hn, h _ H1 F1 g1 rfl⟩
 | tuple _ => cases e2; exact ⟨v, n, _, rfl, i1.same g1.s, rfl, hn, h _ H1 F1 g1 rfl⟩
noncomputable def boolsD : List PyData -> Option (List Bool)
 | [] => some []
 | .bool n :: r => (boolsD r).map (n :: ·)
 | _ :: _ => none
theorem boolsD_some : ∀ {ds : List PyData} {ns : List Bool}, boolsD ds = some ns -> ds = ns.map PyData.bool
 | [], ns, h => by cases h; rfl
 | .bool n :: r, ns, h => by
  obtain ⟨ms, e1, e2⟩ := Q0.mp h
  subst e2
  rw [boolsD_some e1]; rfl
 | .none :: r, ns, h => by cases h
 | .int _ :: r, ns, h => by cases h
 | .str _ :: r, ns, h => by cases h
 | .list _ :: r, ns, h => by cases h
 | .tuple _ :: r, ns, h => by cases h
 | .dict _ :: r, ns, h => by cases h
noncomputable def allC : List PyData -> Option PyData
 | [.list ds] => (boolsD ds).map λ bs => .bool (bs.all id)
 | _ => none
theorem cd_all : CallD K (rAll K) allC := λ F H xs ds d Q s ar e k => by
 unfold allC at e
 split at e
 · obtain ⟨bs, e1, e2⟩ := Q0.mp e
   subst e2
   obtain ⟨x, r, rfl, hx, hr⟩ := ar
   rw [show r = [] from hr]
   obtain ⟨p, ys, rfl, q, ar⟩ := hx
   have := boolsD_some e1
   subst this
   have := Are.bools.mp ar
   subst this
   exact ⟨p, bs, rfl, SqL.of (s _ _ q), k _ H F (Grow.refl s) rfl⟩
 · cases e
noncomputable def dListO (fs : DSt -> Option (List PyData)) (δ : DSt) : Option (List PyData) := (fs δ).bind λ ds => match ds with
 | [d] => seqD d
 | _ => none
theorem so_listOf {t : TA} {fs : DSt -> Option (List PyData)} (a : SA K t fs) : SO K (tCB (rListOf K) t) (dListO fs) := λ H0 F0 F σ H δ es Q R e h => by
 obtain ⟨ds, e1, e2⟩ := bind_some e
 refine a H0 F0 F σ H δ ds _ R e1 λ vs H1 F1 g1 ar => ?_
 split at e2
 · rename_i d
   obtain ⟨x, r, rfl, hx, hr⟩ := ar
   rw [show r = [] from hr]
   cases d with
   | list us =>
    cases e2
    obtain ⟨p, ys, rfl, q, ar⟩ := hx
    exact ⟨p, ys, rfl, .inl (SqL.of (g1.s _ _ q)), λ l hl => h l ys _ F1 (g1.trans (Grow.fresh g1.s hl)) (g1.h.free hl) (g1.s.free hl) upd_same ar⟩
   | tuple us =>
    cases e2
    obtain ⟨p, ys, rfl, q, ar⟩ := hx
    exact ⟨p, ys, rfl, .inr (SqT.of (g1.s _ _ q)), λ l hl => h l ys _ F1 (g1.trans (Grow.fresh g1.s hl)) (g1.h.free hl) (g1.s.free hl) upd_same ar⟩
   | _ => cases e2
 · cases e2
noncomputable def dInO (neg : Bool) (i : Nat) (f : DSt -> Option PyData) (δ : DSt) : Option PyData := match δ[i]? with
 | some (some (.ow ds)) => (f δ).bind λ d => match d with
  | .int n => (intsD ds).bind λ ns => some (.bool (if neg = true then !decide (n ∈ ns) else decide (n ∈ ns)))
  | _ => none
 | _ => none
theorem se_inO {te : TE} {f : DSt -> Option PyData} (neg : Bool) (i : Nat) (a : SE K te f) : SE K (tOp (rIn K neg) te (tVar i)) (dInO neg i f) := λ H0 F0 F σ H δ d Q R e h => by
 unfold dInO at e
 split at e
 · rename_i ds q
   obtain ⟨dx, e1, e2⟩ := bind_some e
   split at e2
   · rename_i n
     obtain ⟨ns, e3, e4⟩ := bind_some e2
     cases e4
     obtain ⟨p, xs, q1, q2, q3, q4, q5⟩ := R.ow i ds q
     have ed := intsD_some e3
     subst ed
     have ex := Are.ints.mp q5
     subst ex
     refine a H0 F0 F σ H δ _ _ R e1 λ v H1 F1 g1 i1 => ⟨.ref p, q1, p, _, rfl, .inl (SqL.of (g1.h _ _ q2)), ?_, flat_ints _, ?_⟩
     · rw [show v = .int n from i1]; rfl
     · rw [show v = .int n from i1, inV_int]
       exact h _ H1 F1 g1 (by cases neg <;> rfl)
   · cases e2
 · cases e
end
section
variable {X : Cx}
end
section
variable {K : Fg}
end
theorem law_spec {K : Fg} {f : List PyData -> Option PyData} {H : Hp} {a : Addr} {ns : List Int} (h : f [scr ns] = some (.bool true)) (q : SqL K H a (ns.map V.int)) (tb : Tb K H) : spD K 1 f [.ref a] H (λ v _ => v = .bl true) λ _ _ _ => False :=
 ⟨H, [scr ns], .bool true, ⟨Same.refl _, tb⟩, rfl, ⟨.ref a, [], rfl, ⟨a, rfl, .inl ⟨ns, rfl, q⟩⟩, rfl⟩, h, λ v H' F' _ i => i⟩
end DL
namespace DL
open PySem L2
noncomputable def tupI (c : List Int) : PyData := .tuple (c.map PyData.int)
mutual
noncomputable def nb : PyData -> Bool
 | .none => true
 | .bool _ => false
 | .int _ => true
 | .str _ => true
 | .list ds => nbs ds
 | .tuple ds => nbs ds
 | .dict _ => false
noncomputable def nbs : List PyData -> Bool
 | [] => true
 | d :: r => nb d && nbs r
end
def okN (n : Nat) (d : PyData) : Prop := d.canLay0 = true /\ d.depth <= n
theorem okN.ok {n : Nat} {d : PyData} (h : okN n d) (hn : n <= 60 := by decide) : okD d = true := by
 unfold okD
 rw [Q6, decide_eq_true_eq]
 exact ⟨h.1, Q7 h.2 hn⟩
theorem lt_ii (i j : Int) : ltD (.int i) (.int j) = some (.bool (decide (i < j))) := rfl
theorem mod_ii (i j : Int) : modD (.int i) (.int j) = if cMod i j = true then some (.int (i % j)) else none := rfl
theorem scrD_scr (ns : List Int) : scrD (scr ns) = some ns := intsD_map ns
theorem lenD_scr (ns : List Int) : lenD (scr ns) = some ns.length := by
 show (scrD (scr ns)).map List.length = _
 rw [scrD_scr]; rfl
theorem ixD_scr (ns : List Int) (i : Int) : ixD (scr ns) (.int i) = (atI ns i).map PyData.int := by
 show ((scrD (scr ns)).bind λ ns => (atI ns i).map PyData.int) = _
 rw [scrD_scr]; rfl
theorem atI_nat' {α : Type} {xs : List α} {j : Nat} (h : j < xs.length) : atI xs (j : Int) = some xs[j] := atI_nat (gEq h)
end DL
namespace DL
open PySem PySem.Spec PyProof.Rows L2
noncomputable def lits (f : Expr -> Option PyData) : List Expr -> Option (List PyData)
 | [] => some []
 | e :: r => (f e).bind λ d => (lits f r).map (d :: ·)
noncomputable def lit : Nat -> Expr -> Option PyData
 | 0, _ => none
 | n + 1, e => match e with
  | .Constant (.int i) _ _ => some (.int i)
  | .Constant (.bool b) _ _ => some (.bool b)
  | .Constant .none _ _ => some .none
  | .Constant (.str x) _ _ => some (.str x)
  | .Tuple es _ _ => (lits (lit n) es).map .tuple
  | .List es _ => (lits (lit n) es).map .list
  | _ => none
section
variable {X : Cx}
end
section
variable {K : Fg}
end
section
variable {X : Cx}
end
section
variable {K : Fg}
end
section
variable {X : Cx}
end
section
variable {K : Fg}
noncomputable def slD' (i : Nat) (δ : DSt) : Option PyData := match δ[i]? with
 | some (some (.fz d)) => some d
 | some (some (.ow ds)) => some (.list ds)
 | _ => none
theorem slot_at {H0 F0 F : Hp} {σ : St} {H : Hp} {δ : DSt} {i : Nat} {d : PyData} (R : Rep K H0 F0 F σ H δ) (e : slD' i δ = some d) : ∃ v, σ[i]? = some (some v) /\ (Is K F v d \/ ∃ a xs ds, d = .list ds /\ v = .ref a /\ H a = some (.lst xs) /\ Are K F xs ds) := by
 unfold slD' at e
 split at e
 · rename_i d' q
   cases e
   obtain ⟨v, h1, h2⟩ := R.fz i d q
   exact ⟨v, h1, .inl h2⟩
 · rename_i ds q
   cases e
   obtain ⟨a, xs, q1, q2, q3, q4, q5⟩ := R.ow i ds q
   exact ⟨.ref a, q1, .inr ⟨a, xs, ds, rfl, rfl, q2, q5⟩⟩
 · cases e
noncomputable def dLenE (i : Nat) (δ : DSt) : Option PyData := (slD' i δ).bind λ d => lenC [d]
theorem se_lenE (i : Nat) : SE K (tCB (rLenA K) (tCons (tVar i) tNil)) (dLenE i) := λ H0 F0 F σ H δ d Q R e h => by
 obtain ⟨d', e1, e2⟩ := bind_some e
 obtain ⟨v, hv, hd⟩ := slot_at R e1
 refine ⟨v, hv, ?_⟩
 rcases hd with hd | ⟨a, xs, ds, rfl, rfl, ha, ar⟩
 · obtain ⟨n, e3, e4⟩ := Q0.mp e2
   subst e4
   exact ⟨v, n, rfl, lenV_of R.g.s hd e3, h _ H F (Grow.refl R.g.s) rfl⟩
 · cases e2
   exact ⟨.ref a, xs.length, rfl, .inl ⟨xs, SqL.of ha, rfl⟩, h _ H F (Grow.refl R.g.s) (by rw [ar.length]; rfl)⟩
end
end DL
namespace DL
open PySem L2 PyProof.Rows
section
variable {K : Fg}
def spX (K : Fg) (n : Nat) (C : Addr) (g : List PyData -> Bool) : Sp := λ vs H _ E => ∃ F ds, SameT K F H /\ vs.length = n /\ Are K F vs ds /\ g ds = true /\ ∀ ea F' H', Grow F H F' H' -> E (.ref ea) (some C) H'
def SX (K : Fg) (E : XK) (C : Addr) (ts : TS) (fx : DSt -> Bool) : Prop := ∀ (H0 F0 F : Hp) (σ : St) (H : Hp) (δ : DSt) (D : Ends), Rep K H0 F0 F σ H δ -> fx δ = true -> (∀ ea F' H', Grow F0 H0 F' H' -> E (.ref ea) (some C) H') -> ts D σ H
def SXE (K : Fg) (E : XK) (C : Addr) (te : TE) (fx : DSt -> Bool) : Prop := ∀ (H0 F0 F : Hp) (σ : St) (H : Hp) (δ : DSt) (Q : VK), Rep K H0 F0 F σ H δ -> fx δ = true -> (∀ ea F' H', Grow F H F' H' -> E (.ref ea) (some C) H') -> te σ H Q
variable {E : XK} {C : Addr}
noncomputable def xRaise (fs : DSt -> Option (List PyData)) (δ : DSt) : Bool := match fs δ with
 | some ds => decide (ds.length <= 1000)
 | none => false
theorem are_len {F : Hp} : ∀ {xs : List V} {ds : List PyData}, Are K F xs ds -> xs.length = ds.length
 | _, [], h => by cases h; rfl
 | _, d :: ds, h => by
  obtain ⟨x, r, rfl, _, h⟩ := h
  rw [zC, zC, are_len h]
theorem sx_raise {ta : TA} {fs : DSt -> Option (List PyData)} (a : SA K ta fs) : SX K E C (tRaise C E ta) (xRaise fs) := λ H0 F0 F σ H δ D R e k => by
 unfold xRaise at e
 split at e
 · rename_i ds q
   exact a H0 F0 F σ H δ ds _ R q λ vs H' F' g ar => ⟨by rw [are_len ar]; exact small (of_decide_eq_true e), λ ea => k ea F' H' (R.g.trans g)⟩
 · cases e
noncomputable def xIf (c : DSt -> Option Bool) (fx : DSt -> Bool) (δ : DSt) : Bool := match c δ with
 | some true => fx δ
 | _ => false
theorem sx_seq1 {t u : TS} {fx : DSt -> Bool} (b : SX K E C t fx) : SX K E C (tSeq t u) fx := λ H0 F0 F σ H δ D R e k => b H0 F0 F σ H δ _ R e k
noncomputable def xCall (n : Nat) (g : List PyData -> Bool) (fs : DSt -> Option (List PyData)) (δ : DSt) : Bool := match fs δ with
 | some ds => decide (ds.length = n) && g ds
 | none => false
theorem sxe_call {n : Nat} {g : List PyData -> Bool} {t : TA} {fs : DSt -> Option (List PyData)} (a : SA K t fs) : SXE K E C (tCall (spX K n C g) [] E t) (xCall n g fs) := λ H0 F0 F σ H δ Q R e k => by
 unfold xCall at e
 split at e
 · rename_i ds q
   obtain ⟨e1, e2⟩ := Bool.and_eq_true_iff.mp e
   refine a H0 F0 F σ H δ ds _ R q λ vs H' F' g' ar => ?_
   show spX K n C g (vs ++ []) H' Q E
   rw [Qd]
   exact ⟨F', ds, ⟨g'.s, R.tb.same g'.f⟩, by rw [are_len ar]; exact of_decide_eq_true e1, ar, e2, λ ea F2 H2 g2 => k ea F2 H2 (g'.trans g2)⟩
 · cases e
theorem sx_asg {te : TE} {g : TG} {fx : DSt -> Bool} (a : SXE K E C te fx) : SX K E C (tAsg te g) fx := λ H0 F0 F σ H δ D R e k => a H0 F0 F σ H δ _ R e λ ea F' H' g' => k ea F' H' (R.g.trans g')
theorem sx_ret {te : TE} {fx : DSt -> Bool} (a : SXE K E C te fx) : SX K E C (tRet te) fx := λ H0 F0 F σ H δ D R e k => a H0 F0 F σ H δ _ R e λ ea F' H' g' => k ea F' H' (R.g.trans g')
end
section
variable {P : Program} {w : World} {K : Fg} {mg : Str -> Option Value} {base : Heap}
noncomputable def runX (n : Nat) (fx : DSt -> Bool) (ds : List PyData) : Bool := fx (stD n ds)
theorem fun_okX {x qual : Str} {st : Stmt} {f : Addr} {fd : FuncData} {N ps : List Str} {k n m : Nat} {C : Addr} {fx : DSt -> Bool} (F : Fun K x qual st f fd) (S : FnScope N ps (defScope st)) (hN : N.length = n) (hm : ps.length = m)
 (hbody : ∀ (cdv : Value) (A : Around) (outer : List Env) (s : Shared) (H : Hp) (E : XK), Room k (A.deeper (envOfC qual (defScope st) s.heap.objs.size f cdv)) ->
  ∃ t, PSs (cxOf (CXF P w) P w K mg base N qual (defScope st) f cdv A outer s H E) (defBody st) t /\ SX K E C t fx) : FnOk P w K mg base (CXF P w) (k + 1) f fd ps (spX K m C (runX n fx)) := by
 subst hN hm
 obtain ⟨oc, od, kV, doc, pm, an, cdv, ct, osl, rfl, lk, hcd⟩ := F.ex
 refine fn_of lk hcd S (λ vs H Q E h => ?_) (λ A outer s H vs Q E hr h => ?_)
 · obtain ⟨F', ds, _, hl, _⟩ := h
   exact hl
 · obtain ⟨F', ds, sF, hl, ar, e, q⟩ := h
   obtain ⟨t, ht, hs⟩ := hbody cdv A outer s H E hr
   exact ⟨t, ht, hs H F' F' (L2.start N vs) H (stD N.length ds) _ (repStart sF ar) e q⟩
end
section
variable {K : Fg}
noncomputable def xSeq (f : DSt -> Option DFlow) (fx : DSt -> Bool) (δ : DSt) : Bool := match f δ with
 | some (.nx δ') => fx δ'
 | _ => false
theorem sx_seq2 {E : XK} {C : Addr} {t u : TS} {f : DSt -> Option DFlow} {fx : DSt -> Bool} (a : SS K t f) (b : SX K E C u fx) : SX K E C (tSeq t u) (xSeq f fx) := λ H0 F0 F σ H δ D R e k => by
 unfold xSeq at e
 split at e
 · rename_i δ' q
   exact a H0 F0 F σ H δ (.nx δ') _ R q λ F' σ' H' R' _ => b H0 F0 F' σ' H' δ' D R' e k
 · cases e
theorem sx_drop {E : XK} {C : Addr} {te : TE} {fx : DSt -> Bool} (a : SXE K E C te fx) : SX K E C (tDrop te) fx := λ H0 F0 F σ H δ D R e k => a H0 F0 F σ H δ _ R e λ ea F' H' g' => k ea F' H' (R.g.trans g')
def SXA (K : Fg) (E : XK) (C : Addr) (ta : TA) (fx : DSt -> Bool) : Prop := ∀ (H0 F0 F : Hp) (σ : St) (H : Hp) (δ : DSt) (Q : List V -> Hp -> Prop), Rep K H0 F0 F σ H δ -> fx δ = true -> (∀ ea F' H', Grow F H F' H' -> E (.ref ea) (some C) H') -> ta σ H Q
theorem sxa_here {E : XK} {C : Addr} {te : TE} {tr : TA} {fx : DSt -> Bool} (a : SXE K E C te fx) : SXA K E C (tCons te tr) fx := λ H0 F0 F σ H δ Q R e k => a H0 F0 F σ H δ _ R e k
noncomputable def xNext (f : DSt -> Option PyData) (fx : DSt -> Bool) (δ : DSt) : Bool := (f δ).isSome && fx δ
theorem sxa_next {E : XK} {C : Addr} {te : TE} {tr : TA} {f : DSt -> Option PyData} {fx : DSt -> Bool} (a : SE K te f) (b : SXA K E C tr fx) : SXA K E C (tCons te tr) (xNext f fx) := λ H0 F0 F σ H δ Q R e k => by
 obtain ⟨e1, e2⟩ := Bool.and_eq_true_iff.mp e
 obtain ⟨d, e1⟩ := Option.isSome_iff_exists.mp e1
 exact a H0 F0 F σ H δ d _ R e1 λ v H' F' g _ => b H0 F0 F' σ H' δ _ (R.grow g) e2 λ ea F2 H2 g2 => k ea F2 H2 (g.trans g2)
theorem sxe_arg {E E' : XK} {C : Addr} {sp : Sp} {dvs : List V} {ta : TA} {fx : DSt -> Bool} (a : SXA K E C ta fx) : SXE K E C (tCall sp dvs E' ta) fx := λ H0 F0 F σ H δ Q R e k => a H0 F0 F σ H δ _ R e k
end
structure OwnX (P : Program) (w : World) (K : Fg) (mg : Str -> Option Value) (base : Heap) (k : Nat) (x : Str) (ps : List Str) (sp : Sp) : Prop where
 ex : ∃ (f : Addr) (fd : FuncData), FnOk P w K mg base (CXF P w) k f fd ps sp /\ mg x = some (.ref f) /\ PySem.W.keepIn K (.ref f) = true /\ Binds K fd ps []
section
variable {X : Cx}
theorem pe_ownX {k n : Nat} {x : Str} {ps : List Str} {sp : Sp} {p pos : Pos} {e : Expr} {es : List Expr} {t : TA} {E : XK} (O : OwnX X.prog X.w X.K X.mg X.base k x ps sp) (hr : Room n X.A) (hx : Passes (CXF X.prog X.w) X E) (ha : PA X (e :: es) t) (hkn : k <= n := by decide) (hg : Gl X x := by rfl)
 (hdb : (x == ("__debug__" : Str)) = false := by decide) (he : starEach (e :: es) X.env = (false, eval e X.env) :: starEach es X.env := by rfl) (hpl : (backTo pos (starEach es X.env)).any (·.1) = false := by rfl) :
 PE X (.Call (.Name x p) (e :: es) [] pos) (tCall sp [] E t) := by
 obtain ⟨f, fd, F, m, kp, b⟩ := O.ex
 exact pe_call F (hr.mono hkn) hg m kp b .nil hx ha hdb he hpl
end
end DL
namespace DL
open PySem PySem.Spec PyProof.Rows L2
noncomputable def fnD (nm : Str) : PyData := .dict [(.bool true, .str nm)]
structure OwnN (P : Program) (w : World) (K : Fg) (mg : Str -> Option Value) (base : Heap) (k : Nat) (x : Str) (ps : List Str) (sp : Sp) : Prop where
 ex : ∃ (f : Addr) (fd : FuncData), FnOk P w K mg base CX0 k f fd ps sp /\ PySem.W.nsIn K mainGlobals x = some (some (.ref f)) /\ PySem.W.keepIn K (.ref f) = true /\ Binds K fd ps []
def tCallV (K : Fg) (i : Nat) (nm : Str) (sp : Sp) (t : TA) : TE := λ σ H Q => ∃ f, σ[i]? = some (some (.ref f)) /\ PySem.W.nsIn K mainGlobals nm = some (some (.ref f)) /\ t σ H λ vs H1 => sp (vs ++ []) H1 Q E0
theorem pe_ownV {X : Cx} {k n i : Nat} {x nm : Str} {ps : List Str} {sp : Sp} {p pos : Pos} {e : Expr} {es : List Expr} {t : TA} (O : OwnN X.prog X.w X.K X.mg X.base k nm ps sp) (hr : Room n X.A) (hv : PE X (.Name x p) (tVar i)) (ha : PA X (e :: es) t) (hkn : k <= n := by decide)
 (he : starEach (e :: es) X.env = (false, eval e X.env) :: starEach es X.env := by rfl) (hpl : (backTo pos (starEach es X.env)).any (·.1) = false := by rfl) :
 PE X (.Call (.Name x p) (e :: es) [] pos) (tCallV X.K i nm sp t) := by
 intro pins s σ H Q I h
 obtain ⟨f, hs, hn, h⟩ := h
 obtain ⟨f', fd, F, m, kp, b⟩ := O.ex
 rw [hn] at m
 cases m
 refine wpAny_Call_Name_kw (thn (hv pins s σ H (λ v H1 => v = .ref f /\ H1 = H) I ⟨_, hs, rfl, rfl⟩) λ u s1 ⟨v, H1, I1, r, q⟩ => ?_)
 obtain ⟨rfl, rfl⟩ := q
 obtain rfl : u = .ref f := r
 refine PySem.W.callWith_K (h₀ := X.base) I1.ok.mod.kin kp (thn (ha pos pins s1 σ _ _ I1 h) λ us s2 ⟨vs, H2, I2, r2, q2⟩ => ⟨I2.kIn, ?_⟩) he hpl
 exact run_fn F (hr.mono hkn) b .nil pass0 I2 r2 q2
theorem pe_either {X : Cx} {e : Expr} {t u : TE} (a : PE X e t) (b : PE X e u) : PE X e (λ σ H Q => t σ H Q \/ u σ H Q) := λ pins s σ H Q I h => h.elim (a pins s σ H Q I) (b pins s σ H Q I)
section
variable {K : Fg}
theorem se_fn {a : Addr} {nm : Str} (h : PySem.W.nsIn K mainGlobals nm = some (some (.ref a))) : SE K (tC (.ref a)) (dC (fnD nm)) := by
 intro H0 F0 F σ H δ d Q R e k
 cases e
 exact k (.ref a) H F (Grow.refl R.g.s) ⟨a, rfl, .inr (.inr (.inl ⟨nm, rfl, h⟩))⟩
noncomputable def isFn (nm : Str) : PyData -> Bool
 | .dict [(.bool true, .str x)] => x == nm
 | _ => false
noncomputable def dCallV (i : Nat) (nm : Str) (n : Nat) (g : List PyData -> Option PyData) (fs : DSt -> Option (List PyData)) (δ : DSt) : Option PyData := (dVar i δ).bind λ d => if isFn nm d = true then dOwnCall n g fs δ else none
theorem se_callV {i n : Nat} {nm : Str} {g : List PyData -> Option PyData} {t : TA} {fs : DSt -> Option (List PyData)} (a : SA K t fs) : SE K (tCallV K i nm (spD K n g) t) (dCallV i nm n g fs) := by
 intro H0 F0 F σ H δ d Q R e h
 obtain ⟨d0, e1, e2⟩ := bind_some e
 split at e2
 · rename_i hd
   have hf : d0 = fnD nm := by
    unfold isFn at hd
    split at hd
    · rw [show _ = nm from eq_of_beq hd]; rfl
    · cases hd
   subst hf
   unfold dVar at e1
   split at e1
   · rename_i d1 e0
     cases e1
     obtain ⟨v, hv, a0, rfl, hh⟩ := R.fz i _ e0
     rcases hh with ⟨ns, z, _⟩ | ⟨m, z, kv⟩ | ⟨nm', z, hn⟩ | ⟨m, z, kv⟩
     · cases z
     · obtain ⟨q, m', _, q2, _⟩ := kv
       cases q2.1
     · cases z
       exact ⟨a0, hv, hn, se_call (K := K) a H0 F0 F σ H δ d Q R e2 h⟩
     · cases kv.1
   · cases e1
 · cases e2
end
end DL
namespace SRT
open PySem PySem.W PyProof.Rows
noncomputable def g (p : Array Nat) (i : Nat) : Nat := (p[i]?).getD 0
structure Ord (lt : Nat -> Nat -> Bool) (n : Nat) : Prop where
 tr : ∀ a b c, lt a b = true -> lt b c = true -> lt a c = true
 to : ∀ a b, a < n -> b < n -> a ≠ b -> lt a b = false -> lt b a = true
section
variable {lt : Nat -> Nat -> Bool} {n : Nat} (O : Ord lt n)
include O
end
end SRT
namespace L2
open PySem PySem.Spec PyProof.Rows PySem.W Att
section
variable {prog : Program} {w : World} {A : Around} {E : Value -> Shared -> Prop} {s : Shared} {b : Bool} {Q : Bool -> Shared -> Prop}
end
section
variable {prog : Program} {w : World} {A : Around} {E : Value -> Shared -> Prop} {s : Shared}
end
end L2
namespace L2
open PySem PySem.Spec PyProof.Rows PySem.W
def Raw (h : Heap) (d : Addr) (es : Array DictEntry) (ep : Nat) : Prop := ∃ ob, h.get? d = some ob /\ ob.ExactDict /\ ob.data = .dict es ep
theorem Raw.lt {h : Heap} {d : Addr} {es : Array DictEntry} {ep : Nat} (x : Raw h d es ep) : d < h.objs.size := let ⟨_, e, _⟩ := x; hLs e
section
variable {prog : Program} {w : World} {A : Around} {E : Value -> Shared -> Prop} {s : Shared} {d it : Addr} {es : Array DictEntry} {ep : Nat}
end
end L2
namespace L2
open PySem PySem.Spec PyProof.Rows PySem.W Att
end L2
namespace DL
open PySem L2
section
variable {K : Fg}
theorem Grow.tups {F H : Hp} (s : Same F H) (bs : List Addr) (hb : ∀ b ∈ bs, ∃ xs, H b = some (.tup xs)) : ∃ F', Grow F H F' H /\ ∀ b ∈ bs, F' b = H b := by
 refine ⟨λ b => if b ∈ bs then H b else F b, ⟨λ b u e => ?_, λ b u e => ?_, Same.refl _, λ b u e t n => ?_⟩, λ b hb => if_pos hb⟩
 · show (if b ∈ bs then H b else F b) = some u
   split
   · exact s b u e
   · exact e
 · have e : (if b ∈ bs then H b else F b) = some u := e
   split at e
   · exact e
   · exact s b u e
 · show (if b ∈ bs then H b else F b) = none
   split
   · rename_i hm
     obtain ⟨xs, z⟩ := hb b hm
     rw [z] at e
     cases e
     exact absurd rfl (t xs)
   · exact n
end
end DL
namespace L2
open PySem
section
variable {prog : Program} {w : World} {K : Type} [DecidableEq K] {knd : HeapKind prog w K} {A : Around} {E : Value -> Shared -> Prop} {s : Shared} {d a : Addr} {xs : List (K × Addr × Value)} {k : K} {v : Value} {o : Obj} {es : Array DictEntry} {ep : Nat}
end
end L2
namespace L2
open PySem PySem.Spec PyProof.Rows
section
variable {κ : Type} [DecidableEq κ]
noncomputable def valV (kvs : List (κ × V)) (k : κ) : Option V := (kvs.find? λ kv => decide (kv.1 = k)).map (·.2)
noncomputable def putK (kvs : List (κ × V)) (k : κ) (v : V) : List (κ × V) :=
 if (kvs.any λ kv => decide (kv.1 = k)) = true then kvs.map (λ kv => if kv.1 = k then (kv.1, v) else kv) else kvs ++ [(k, v)]
theorem RelO.getD {o : Option V} {u : Option Value} {d : V} {d' : Value} (r : RelO o u) (rd : RelV d d') : RelV (o.getD d) (u.getD d') := by
 cases o with
 | none => cases u with
  | none => exact rd
  | some _ => exact (show False from r).elim
 | some _ => cases u with
  | none => exact (show False from r).elim
  | some _ => exact r
theorem KV.any {kvs : List (κ × V)} {vs : List (κ × Value)} (r : KV kvs vs) (k : κ) : (kvs.any λ kv => decide (kv.1 = k)) = vs.any λ kv => decide (kv.1 = k) := by
 unfold KV at r
 induction r with
 | nil => rfl
 | cons h t ih => rw [List.any_cons, List.any_cons, ih, h.1]
theorem KV.length {kvs : List (κ × V)} {vs : List (κ × Value)} (r : KV kvs vs) : kvs.length = vs.length := Paired.length r
end
section
variable {P : Program} {w : World} {H : Hp} {h : Heap} {a : Addr}
end
def DGet (H : Hp) (a : Addr) (y : V) (r : Option V) : Prop :=
 (∃ kvs k, Rd H a (.dK kvs) /\ y = kV k /\ r = valV kvs k) \/ ∃ kvs k b, Rd H a (.dT kvs) /\ y = .ref b /\ H b = some (.tup (k.map kV)) /\ r = valV kvs k
def DPut (H : Hp) (a : Addr) (y v : V) (H' : Hp) : Prop :=
 (∃ kvs k, H a = some (.dK kvs) /\ y = kV k /\ kvs.length < sizeLine /\ H' = upd H a (.dK (putK kvs k v))) \/
 ∃ kvs k b, H a = some (.dT kvs) /\ y = .ref b /\ H b = some (.tup (k.map kV)) /\ kvs.length < sizeLine /\ H' = upd H a (.dT (putK kvs k v))
theorem DGet.k {H : Hp} {a : Addr} {kvs : List (Key × V)} {k : Key} (e : H a = some (.dK kvs)) : DGet H a (kV k) (valV kvs k) := .inl ⟨kvs, k, .inl e, rfl, rfl⟩
theorem DGet.t {H : Hp} {a b : Addr} {kvs : List (List Key × V)} {k : List Key} (e : H a = some (.dT kvs)) (eb : H b = some (.tup (k.map kV))) : DGet H a (.ref b) (valV kvs k) := .inr ⟨kvs, k, b, .inl e, rfl, eb, rfl⟩
theorem DPut.t {H : Hp} {a b : Addr} {kvs : List (List Key × V)} {k : List Key} {v : V} (e : H a = some (.dT kvs)) (eb : H b = some (.tup (k.map kV))) (hl : kvs.length < sizeLine) :
 DPut H a (.ref b) v (upd H a (.dT (putK kvs k v))) := .inr ⟨kvs, k, b, e, rfl, eb, hl, rfl⟩
section
variable {X : Cx} {pins : List (Addr × Obj)} {σ : St} {H : Hp} {s : Shared} {a : Addr} {y v : V} {u r : Value} {o : Option V} {A : Around} {E : Value -> Shared -> Prop}
end
section
variable {X : Cx} {pins : List (Addr × Obj)} {σ : St} {H : Hp} {s : Shared} {a : Addr} {kvs : List (Key × V)} {k : Key} {u : Value} {A : Around} {E : Value -> Shared -> Prop}
end
section
variable {X : Cx} {o i e value : Expr} {pos pos' tpos : Pos} {td ty tv : TE}
end
section
variable {X : Cx} {pos : Pos}
end
section
variable {X : Cx} {pins : List (Addr × Obj)} {σ : St} {H : Hp} {s : Shared} {a : Addr} {y d : V} {u r : Value} {o : Option V} {A : Around} {E : Value -> Shared -> Prop}
end
section
variable {X : Cx} {o e f : Expr} {apos cpos : Pos} {td ty tx : TE}
end
section
variable {X : Cx} {pins : List (Addr × Obj)} {σ : St} {H : Hp} {s : Shared} {a : Addr} {kvs : List (Key × V)} {A : Around} {E : Value -> Shared -> Prop}
end
section
variable {X : Cx} {pins : List (Addr × Obj)} {σ : St} {H : Hp} {s : Shared} {a : Addr} {y : V} {u : Value} {A : Around} {E : Value -> Shared -> Prop}
end
end L2
namespace DL
open PySem L2
section
variable {K : Fg} {H0 F0 F : Hp} {σ : St} {H : Hp} {δ : DSt}
end
section
variable {K : Fg}
end
section
variable {K : Fg}
end
end DL
namespace L2
open PySem PySem.Spec PyProof.Rows
mutual
noncomputable def ltD : PyData -> PyData -> Option Bool
 | .int i, .int j => some (decide (i < j))
 | .bool p, .bool q => some (decide (b2i p < b2i q))
 | .tuple xs, .tuple ys => ltL xs ys
 | _, _ => none
noncomputable def ltL : List PyData -> List PyData -> Option Bool
 | [], [] => some false
 | [], _ :: _ => some true
 | _ :: _, [] => some false
 | x :: xs, y :: ys => if PyData.eqv x y = true then ltL xs ys else ltD x y
end
section
open PySem.SeqAt
open PySem.AutoSeq1 (wpAny_loadPart')
open PySem.MeetsSeq PySem.MeetsSeq2 PySem.MeetsSeq3
end
open PySem.SeqAt (room_here room_in room_head room_tail)
end L2
namespace DL
open PySem L2
section
variable {K : Fg}
end
end DL
namespace L2
open PySem PySem.Spec PyProof.Rows
section
variable {X : Cx} {pins : List (Addr × Obj)} {σ : St} {S I l : Addr} {xs : List V} {F H0 : Hp} {lt : Nat -> Nat -> Bool} {R : Result -> Shared -> Prop}
end
end L2
namespace DL
open PySem L2
section
variable {K : Fg}
end
end DL
namespace L2
open PySem PySem.Spec PyProof.Rows
section
variable {X : Cx}
end
section
variable {prog : Program} {w : World} {A : Around} {E : Value -> Shared -> Prop} {s : Shared}
end
section
variable {X : Cx}
end
end L2
namespace DL
open PySem L2
section
variable {K : Fg}
end
section
variable {X : Cx}
end
end DL
namespace L2
open PySem PySem.Spec PyProof.Rows PySem.W PySem.Calls PySem.Builtin PySem.Builtin.ObjectAttr PySem.Builtin.Getset_descriptor
section
variable {pr : Program} {wd : World} {Ar : Around} {Ex : Value -> Shared -> Prop} {t : Shared} {K : Frag} {x C : Addr}
theorem xc_find {M : Model} {h : Heap} {nm : Str} {a g : Value} (kin : K.In h) (ha : findIn K (.ref C) nm = some (some a)) (hg : specialIn K a "__get__" = some (some g)) (ht : takesIn K a = some true) : Looks M h (find (.ref x) (.ref C) nm) (.bind g a) :=
 (looks_findIn kin ha).andThen ((show Looks M h (getOf (some a)) (some g) from looks_specialIn kin hg).andThen ((show Looks M h (dataDescriptor? (some a) (some g)) (some (g, a)) from (looks_takesIn kin ht).andThen .now).andThen (Looks.tag .now)))
theorem xc_get {R : Result -> Shared -> Prop} {tp : Value} (kin : K.In t.heap) (ty : ∀ M, Looks M t.heap (typeOf (.ref x)) (.ref C)) (om : mroIn K C (.type "object") = some true)
 (fin : R (.ok (.ret (.ref C))) t) : codeAny (model pr wd) Ar (.call (.builtin "getset_descriptor.__get__") ⟨[.builtin "object.__class__", .ref x, tp], []⟩) R t := by
 obtain ⟨hp, gs, dn, tk, ops⟩ := t
 have T0 := ty (model pr wd)
 have T1 := looks_mroIn (M := model pr wd) kin om
 refine codeAny_call_builtin KF.slot_gs.plain KF.entry_gs (KF.slot_gs.check _ _ _ _ _ _ _ _ KF.type_class (KF.args_gs _ _ _) ?go)
 case go =>
  unfold Builtin.«getset_descriptor.__get__» descrGet; rw [dga_obj]
  refine wB (wP ?go2)
  case go2 =>
   unfold descrGetter descrCheckInstance descrNameAndClass isInstance; simp only [KF.owner_class]
   (repeat lk)
   refine ⟨Code.quiet_builtin _ (by decide +kernel), codeAny_builtin KF.entry_class ?go3⟩
   case go3 =>
    unfold Builtin.«object.__class__» shownTypeOf; (repeat lk)
    exact fin
theorem xd_entry {Q : Fin -> Shared -> Prop} {tn : Tok} (kin : K.In t.heap) (ty : ∀ M, Looks M t.heap (typeOf (.ref x)) (.ref C)) (ha : findIn K (.ref C) "__class__" = some (some (.builtin "object.__class__")))
 (hn : specialIn K (.builtin "object.__class__") "__get__" = some (some (.builtin "getset_descriptor.__get__"))) (htk : takesIn K (.builtin "object.__class__") = some true) (om : mroIn K C (.type "object") = some true)
 (fin : Q (.done (.ret (.ref C))) t) : wpAny (model pr wd) Ar (Builtin.«object.__getattribute__» ⟨[.ref x, .str "__class__" tn], []⟩) Q Ex t := by
 obtain ⟨hp, gs, dn, tk, ops⟩ := t
 have T0 := ty (model pr wd)
 have T2 := xc_find (M := model pr wd) (x := x) kin ha hn htk
 unfold Builtin.«object.__getattribute__»
 refine wB (wpAny_of_eq (show slotArgs "__getattribute__" 1 ⟨[.ref x, .str "__class__" tn], []⟩ = pure (.ref x, [.str "__class__" tn]) from rfl) ?go)
 case go =>
  refine wB (wpAny_of_eq (show attrName (.str "__class__" tn) = pure "__class__" from rfl) ?go1)
  case go1 =>
   refine wB (T0.at (wB (T2.at ?go2)))
   case go2 =>
    show wpAny _ _ (bindTo (.builtin "getset_descriptor.__get__") (.builtin "object.__class__") (.ref x) (.ref C)) _ _ _
    show wpAny _ _ (holding [.builtin "object.__class__"] (call (.builtin "getset_descriptor.__get__") [.builtin "object.__class__", .ref x, .ref C]) >>= ret) _ _ _
    refine wB (wpAny_holding (wpAny_mono (wpAny_call (xc_get (t := ⟨hp, gs, dn, tk, ops⟩) kin ty om (R := λ r u => match r with | .ok (.ret v) => v = .ref C /\ u = ⟨hp, gs, dn, tk, ops⟩ | .ok _ => False | .error _ => False) ⟨rfl, rfl⟩)) (λ v u z => ?go3) λ _ _ z => z.elim))
    case go3 =>
     obtain ⟨rfl, rfl⟩ := z
     exact wP fin
theorem xd_check {M : Model} {Q : Unit -> Shared -> Prop} {nv : Value} (kin : K.In t.heap) (ty : ∀ M, Looks M t.heap (typeOf (.ref x)) (.ref C)) (ob : mroIn K C (.type "BaseException") = some true) (fin : Q () t) :
 wpAny M Ar (checkBuiltinCall "BaseException.__getattribute__" ⟨[.ref x, nv], []⟩) Q Ex t := by
 have hk : builtinKind "BaseException.__getattribute__" = some .slot := by decide +kernel
 have hsplit : splitId "BaseException.__getattribute__" = some ("BaseException", "__getattribute__") := by decide +kernel
 have ha := PySem.F.args_bexc_ga (.ref x) nv
 have T : Looks M t.heap (isInstance (.ref x) (.type "BaseException")) true := (ty M).andThen (looks_mroIn kin ob)
 simp only [checkBuiltinCall, hk, hsplit]
 refine wB (T.here ?_)
 repeat (first | exact fin | wp_step)
theorem xd_class {Q : Option Value -> Shared -> Prop} (kin : K.In t.heap) (ty : ∀ M, Looks M t.heap (typeOf (.ref x)) (.ref C)) (g1 : findIn K (.ref C) "__getattribute__" = some (some (.builtin "BaseException.__getattribute__"))) (g2 : findIn K (.ref C) "__getattr__" = some none)
 (ha : findIn K (.ref C) "__class__" = some (some (.builtin "object.__class__")))
 (hn : specialIn K (.builtin "object.__class__") "__get__" = some (some (.builtin "getset_descriptor.__get__"))) (htk : takesIn K (.builtin "object.__class__") = some true) (om : mroIn K C (.type "object") = some true) (ob : mroIn K C (.type "BaseException") = some true)
 (fin : Q (some (.ref C)) { t with toks := t.toks + 1 }) : wpAny (model pr wd) Ar (getAttr? (.ref x) "__class__") Q Ex t := by
 obtain ⟨hp, gs, dn, tk, ops⟩ := t
 have T0 := ty (model pr wd)
 have T1 := looks_findIn (M := model pr wd) kin g1
 have T3 := looks_findIn (M := model pr wd) kin g2
 have bs : bindSpecial (.builtin "BaseException.__getattribute__") (.ref x) = pure (.builtin "BaseException.__getattribute__", [.ref x]) := (PySem.F.attrBase_ValueError.ga).bind (.ref x)
 unfold getAttr? getAttrBy? getAttrBy
 refine wB (wpAny_mkText (wB (wpAny_attempt (wpAny_holding (wB (T0.at (wB (T1.at ?go))))))))
 case go =>
  show wpAny _ _ (getAttrByItsOwn (.ref x) (.str "__class__" tk) (.ref C) (.builtin "BaseException.__getattribute__") false false) _ _ _
  unfold getAttrByItsOwn
  refine wB (show wpAny _ _ (typeLookup (.ref C) "__getattr__") _ _ _ from T3.at ?go1)
  case go1 =>
   refine wB (wpAny_attempt (wpAny_holding ?go2))
   case go2 =>
    show wpAny _ _ (boundAndCalled (.builtin "BaseException.__getattribute__") (.ref x) (.str "__class__" tk)) _ _ _
    unfold boundAndCalled
    refine wB (wpAny_of_eq bs ?go3)
    case go3 =>
     show wpAny _ _ (call (.builtin "BaseException.__getattribute__") [.ref x, .str "__class__" tk]) _ _ _
     refine wpAny_mono (wpAny_call (E := λ _ _ => False) (Q := λ v u => v = .ref C /\ u = ⟨hp, gs, dn, tk + 1, ops⟩) (codeAny_call_builtin (PySem.F.attrBase_ValueError.ga).plain PySem.F.entry_bexc_ga (xd_check (t := ⟨hp, gs, dn, tk + 1, ops⟩) kin ty ob (xd_entry (t := ⟨hp, gs, dn, tk + 1, ops⟩) kin ty ha hn htk om ?go4)))) (λ v u z => ?go5) λ _ _ z => z.elim
     case go4 => exact ⟨rfl, rfl⟩
     case go5 =>
      obtain ⟨rfl, rfl⟩ := z
      exact handed_on rfl (wP fin)
end
structure ExcCls (K : Frag) (C : Addr) : Prop where
 g1 : findIn K (.ref C) "__getattribute__" = some (some (.builtin "BaseException.__getattribute__"))
 g2 : findIn K (.ref C) "__getattr__" = some none
 ha : findIn K (.ref C) "__class__" = some (some (.builtin "object.__class__"))
 hn : specialIn K (.builtin "object.__class__") "__get__" = some (some (.builtin "getset_descriptor.__get__"))
 htk : takesIn K (.builtin "object.__class__") = some true
 om : mroIn K C (.type "object") = some true
 ob : mroIn K C (.type "BaseException") = some true
theorem ExcCls.isT {K : Frag} {C : Addr} (X : ExcCls K C) {M : Model} {h : Heap} (kin : K.In h) : Looks M h (isType (.ref C)) true := by
 have e := X.om
 unfold mroIn at e
 obtain ⟨cd, hc, _⟩ := Option.bind_eq_some_iff.mp e
 unfold clsIn at hc
 split at hc
 · rename_i c' d' cd' sl' ho
   intro A' Q' E' s' k q
   unfold isType loadHead
   exact wB (wpAny_loadPart (k _ _ (kin _ _ ho)) (wP q))
 · cases hc
theorem isi_noX {prog : Program} {w : World} {A : Around} {E : Value -> Shared -> Prop} {s : Shared} {K : Frag} {ea C : Addr} {c : Value} {ob : Obj} {Q : Value -> Shared -> Prop} (kin : K.In s.heap) (at_ : s.heap.get? ea = some ob) (cl : ob.cls = .ref C) (X : ExcCls K C)
 (no : kitOne K (.ref C) c = some false) (k : ∀ tk, Q (.bool false) { s with toks := tk }) : wpAny (model prog w) A (call (.builtin "isinstance") [.ref ea, c]) Q E s := by
 refine call_isinstance (S := λ _ R t => (K.In t.heap /\ t.heap.get? ea = some ob) /\ ∀ tk, R (.ok (.ret (.bool false))) { t with toks := tk }) (λ pr w2 A2 R t ht => isinstance_outer ?_ (by intro q; cases q)) ⟨⟨kin, at_⟩, k⟩
 obtain ⟨hh, g, d, tt, os⟩ := t
 obtain ⟨⟨ki, here⟩, fin⟩ := ht
 have ty : ∀ M, Looks M hh (typeOf (.ref ea)) (.ref C) := λ M => cl ▸ (Looks.ld here).andThen .now
 have tyM := ty (model pr w2)
 unfold Builtin.«isinstance.nested»
 refine wB (tyM.at ?_)
 unfold kitOne at no
 by_cases q : (Value.ref C == c) = true
 · rw [if_pos q] at no
   cases no
 · rw [if_neg q] at no
   rw [if_neg q]
   obtain ⟨a1, a2, a3⟩ := kit_cls (M := model pr w2) ki no
   have both : Looks (model pr w2) hh (isInstance (.ref ea) c) false := tyM.andThen a3
   refine wB (a1.at ?_)
   rw [if_pos (by decide)]
   k_delta "plainIsInstance"
   refine wB (wB (a2.at ?_))
   simp only [Bool.not_true, zN, if_false]
   refine wB (both.at ?_)
   simp only [zN, if_false]
   refine wB (xd_class (t := ⟨hh, g, d, tt, os⟩) ki ty X.g1 X.g2 X.ha X.hn X.htk X.om X.ob ?_)
   refine wB ((X.isT ki).at ?_)
   simp only [Bool.not_true, zN, if_false]
   refine wB (wpAny_rule ?_)
   refine a3.at ?_
   first
    | exact wP (fin _)
    | exact wP (wP (fin _))
    | exact wB (wP (wP (fin _)))
def rIsiB (K : Frag) : List V -> Hp -> VK -> Prop := λ xs H Q => ∃ ea C y c b, xs = [.ref ea, y] /\ ((∃ D, y = .ref D /\ c = .ref D) \/ ∃ n, y = .ty n /\ c = .type n) /\ H ea = some (XO ea C) /\ kitOne K (.ref C) c = some b /\ ExcCls K C /\ Q (.bl b) H
theorem call_isiB {X : Cx} : CallR X (.builtin "isinstance") (rIsiB X.K) := by
 intro pins s σ H xs us Q I rv h
 obtain ⟨ea, C, y, c, b, rfl, hy, tr, ans, xc, q⟩ := h
 obtain ⟨u, w', rfl, r1, r2⟩ := rv.two
 cases (show u = Value.ref ea from r1)
 have ec : w' = c := by
  rcases hy with ⟨D, rfl, rfl⟩ | ⟨n, rfl, rfl⟩
  · exact r2
  · exact r2
 subst ec
 obtain ⟨⟨ob, e, cl⟩, _⟩ := (show ObjOk X.prog X.w H s.heap ea (XO ea C) from I.hok ea _ tr)
 cases b with
 | true => exact isi_flown I.kIn e cl ans λ tk => ⟨.bl true, H, I.tok tk, rfl, q⟩
 | false => exact isi_noX I.kIn e cl xc ans λ tk => ⟨.bl false, H, I.tok tk, rfl, q⟩
end L2
namespace DL
open PySem L2 PyProof.Rows
section
variable {X : Cx}
def tNoS : TS := λ _ _ _ => False
def tNoA : TA := λ _ _ _ => False
theorem pss_any {sts : List Stmt} : PSs X sts tNoS := λ _ _ _ _ _ _ h => h.elim
theorem pa_any {es : List Expr} : PA X es tNoA := λ _ _ _ _ _ _ _ h => h.elim
theorem pss_either {sts : List Stmt} {t u : TS} (a : PSs X sts t) (b : PSs X sts u) : PSs X sts (λ D σ H => t D σ H \/ u D σ H) := λ pins s σ H D I h => h.elim (a pins s σ H D I) (b pins s σ H D I)
end
section
variable {K : Fg} {E : XK} {C : Addr}
theorem ss_any : SS K tNoS dNever := λ H0 F0 F σ H δ r D R e h => nomatch e
noncomputable def xNo (_ : DSt) : Bool := false
theorem sx_no {t : TS} : SX K E C t xNo := λ H0 F0 F σ H δ D R e k => nomatch e
noncomputable def xEither (f g : DSt -> Bool) (δ : DSt) : Bool := f δ || g δ
theorem sx_either {t u : TS} {f g : DSt -> Bool} (a : SX K E C t f) (b : SX K E C u g) : SX K E C (λ D σ H => t D σ H \/ u D σ H) (xEither f g) := λ H0 F0 F σ H δ D R e k => by
 rcases Bool.or_eq_true_iff.mp e with e | e
 · exact .inl (a H0 F0 F σ H δ D R e k)
 · exact .inr (b H0 F0 F σ H δ D R e k)
theorem sxe_either {t u : TE} {f g : DSt -> Bool} (a : SXE K E C t f) (b : SXE K E C u g) : SXE K E C (λ σ H Q => t σ H Q \/ u σ H Q) (xEither f g) := λ H0 F0 F σ H δ Q R e k => by
 rcases Bool.or_eq_true_iff.mp e with e | e
 · exact .inl (a H0 F0 F σ H δ Q R e k)
 · exact .inr (b H0 F0 F σ H δ Q R e k)
noncomputable def xIf2 (c : DSt -> Option Bool) (f g : DSt -> Bool) (δ : DSt) : Bool := match c δ with
 | some true => f δ
 | some false => g δ
 | none => false
theorem sx_if {c : TT} {fc : DSt -> Option Bool} {t u : TS} {f g : DSt -> Bool} (a : ST K c fc) (b : SX K E C t f) (d : SX K E C u g) : SX K E C (tIfS c t u) (xIf2 fc f g) := λ H0 F0 F σ H δ D R e k => by
 unfold xIf2 at e
 split at e
 · rename_i q
   exact a H0 F0 F σ H δ true _ R q λ H' F' g' => iteT (b H0 F0 F' σ H' δ D (R.grow g') e k)
 · rename_i q
   exact a H0 F0 F σ H δ false _ R q λ H' F' g' => iteF (d H0 F0 F' σ H' δ D (R.grow g') e k)
 · cases e
def Ans (K : Fg) (C : Addr) (y : V) (b : Bool) : Prop := ∃ c, ((∃ D, y = .ref D /\ c = .ref D) \/ ∃ n, y = .ty n /\ c = .type n) /\ PySem.W.kitOne K (.ref C) c = some b
theorem Ans.cls {D : Addr} {b : Bool} (h : PySem.W.kitOne K (.ref C) (.ref D) = some b) : Ans K C (.ref D) b := ⟨_, .inl ⟨D, rfl, rfl⟩, h⟩
def tIs (K : Fg) (i : Nat) (y : V) : TE := tCB (rIsiB K) (tCons (tVar i) (tCons (tC y) tNil))
end
end DL
namespace L2
open PySem PySem.Spec PyProof.Rows
section
variable {X : Cx} {pins : List (Addr × Obj)} {σ : St} {S I l : Addr} {xs : List V} {F H0 : Hp} {lt : Nat -> Nat -> Bool} {R : Result -> Shared -> Prop}
end
end L2
namespace DL
open PySem L2
section
variable {K : Fg}
end
section
variable {K : Fg}
end
end DL
namespace L2
open PySem PySem.Spec PyProof.Rows PySem.W
end L2
namespace DL
open PySem L2
section
variable {K : Fg}
end
end DL
namespace L2
open PySem PySem.Spec PyProof.Rows PySem.W
section
variable {X : Cx} {pins : List (Addr × Obj)} {σ : St} {H : Hp} {s : Shared}
end
end L2
namespace DL
open PySem PySem.Spec PyProof.Rows L2 PySem.W
section
variable {K : Fg}
end
section
variable {X : Cx} {pins : List (Addr × Obj)} {σ : St} {S I l f : Addr} {xs : List V} {ds ks : List PyData} {Fa Ha : Hp} {R : Result -> Shared -> Prop}
def Turn (X : Cx) (σ : St) (f : Addr) (xs : List V) (ks : List PyData) (Fa Ha : Hp) : Prop := ∀ (i : Nat) (x : V), xs[i]? = some x -> ∀ (pins' : List (Addr × Obj)) (F H : Hp) (s : Shared) (u : Value), Inv X pins' σ H s -> Grow Fa Ha F H -> RelV x u ->
 wpAny (model X.prog X.w) X.A.in1 (call (.ref f) [u]) (λ r s' => ∃ v H' F', Inv X pins' σ H' s' /\ RelV v r /\ Grow F H F' H' /\ Is X.K F' v (ks.getD i .none)) (λ _ _ => False) s
end
section
variable {X : Cx}
end
end DL
namespace L2
open PySem PySem.Spec PyProof.Rows PySem.W
section
variable {prog : Program} {w : World} {A : Around} {E : Value -> Shared -> Prop} {s : Shared} {d it r : Addr} {es : Array DictEntry} {ep : Nat}
end
section
variable {X : Cx} {pins : List (Addr × Obj)} {σ : St} {S I d : Addr} {ns : List Int} {es : Array DictEntry} {ep : Nat} {H0 : Hp} {R : Result -> Shared -> Prop}
end
section
variable {X : Cx} {pins : List (Addr × Obj)} {σ : St} {H : Hp} {s : Shared}
end
end L2
namespace DL
open PySem L2
section
variable {X : Cx} {K : Fg}
end
end DL
namespace L2
open PySem PySem.Spec PyProof.Rows PySem.W Att
def ItSt (h : Heap) (it d S : Addr) (i n ep : Nat) : Prop := ∃ x0 f ok ov, h.get? it = some { cls := .type "dict_itemiterator", dict := none, data := .fields #[x0, .bool f, .ref d, .int i 0, .int n 0, .int ep 0, ok, ov], slots := #[] } /\
 (x0 = .none \/ ∃ (a : Addr) (oa : Obj), x0 = rawInt a /\ h.get? a = some oa /\ a ≠ it /\ a ≠ S)
theorem ItSt.keep {h h' : Heap} {it d S : Addr} {i n ep : Nat} (x : ItSt h it d S i n ep) (k : ∀ b o, b ≠ S -> h.get? b = some o -> h'.get? b = some o) (n1 : it ≠ S) : ItSt h' it d S i n ep := by
 obtain ⟨x0, f, ok, ov, e, r⟩ := x
 refine ⟨x0, f, ok, ov, k _ _ n1 e, r.imp id λ ⟨a, oa, r1, r2, r3, r4⟩ => ⟨a, oa, r1, k _ _ r4 r2, r3, r4⟩⟩
section
variable {prog : Program} {w : World} {A : Around} {E : Value -> Shared -> Prop} {s : Shared} {d it r S : Addr} {es : Array DictEntry} {ep : Nat}
end
section
variable {prog : Program} {w : World} {A : Around} {s : Shared} {R : Result -> Shared -> Prop} {es : Array DictEntry} {ep : Nat}
end
section
variable {prog : Program} {w : World} {A : Around} {E : Value -> Shared -> Prop} {s : Shared} {r d : Addr} {es : Array DictEntry} {ep : Nat}
end
section
variable {prog : Program} {w : World} {A : Around} {E : Value -> Shared -> Prop} {s : Shared}
end
end L2
namespace L2
open PySem PySem.Spec PyProof.Rows PySem.W
end L2
namespace DL
open PySem L2
section
variable {X : Cx} {K : Fg}
end
end DL
namespace DL
open PySem PySem.Spec PyProof.Rows L2 PySem.W
noncomputable def tabOf (K : Frag) (q : Addr × Obj) : Option (Addr × Array Value) := match q.2.data with
 | .func fd => (lamOf fd).bind λ ps => match fd.code with
  | .ref c => match K.lookup c with
   | some ⟨_, _, .fields vs, _⟩ => match (vs[11]? : Option Value) with
    | some (.ref P) => if codeHdIn K c P = true then some (P, ps) else none
    | _ => none
   | _ => none
  | _ => none
 | _ => none
noncomputable def tblsOf (K : Frag) : List (Addr × Array Value) := K.filterMap (tabOf K)
theorem codeHdIn_at {K : Frag} {c P : Addr} (h : codeHdIn K c P = true) : ∃ a b d vs, K.lookup c = some ⟨a, b, .fields vs, d⟩ /\ vs[11]? = some (Value.ref P) := by
 unfold codeHdIn at h
 split at h
 · rename_i b vs d hk
   simp only [Q6] at h
   have e1 := h.1.1.1.1.1
   split at e1
   · rename_i P' h11
     exact ⟨_, b, d, vs, hk, by rw [h11, beq_iff_eq.mp e1]⟩
   · cases e1
 · cases h
theorem lk_mem {α : Type} : ∀ {l : List (Addr × α)} {a : Addr} {o : α}, l.lookup a = some o -> (a, o) ∈ l
 | [], _, _, h => by cases h
 | (b, u) :: r, a, o, h => by
  rw [Q5] at h
  split at h
  · rename_i z
    cases h
    rw [eq_of_beq z]
    exact lMs
  · exact lMc _ (lk_mem h)
theorem mem_tbls {K : Frag} {P : Addr} {ps : Array Value} (t : TblK K P ps) : (P, ps) ∈ tblsOf K := by
 obtain ⟨f, oc, od, fd, sl, c, h1, h2, h3, h4⟩ := t
 obtain ⟨a, b, d, vs, k1, k2⟩ := codeHdIn_at h3
 refine List.mem_filterMap.mpr ⟨(f, ⟨oc, od, .func fd, sl⟩), lk_mem h1, ?_⟩
 unfold tabOf
 simp only [h4, zD, h2, k1, k2, h3, if_true]
theorem of_tbls {K : Frag} {q : Addr × Array Value} (m : q ∈ tblsOf K) : ∃ c, codeHdIn K c q.1 = true := by
 obtain ⟨⟨f, o⟩, _, e⟩ := List.mem_filterMap.mp m
 unfold tabOf at e
 split at e
 · obtain ⟨ps, _, e⟩ := bind_some e
   split at e
   · split at e
     · split at e
       · split at e
         · rename_i hc
           cases e
           exact ⟨_, hc⟩
         · cases e
       · cases e
     · cases e
   · cases e
 · cases e
structure Tabs (K : Frag) (h : Heap) : Prop where
 one : (tblsOf K).length <= 1
 out : (tblsOf K).all (λ q => (K.lookup q.1).isNone) = true
 at_ : ∀ q ∈ tblsOf K, h.get? q.1 = some (tabObj #[])
theorem list_one {α : Type} {l : List α} (h : l.length <= 1) {x y : α} (hx : x ∈ l) (hy : y ∈ l) : x = y := by
 match l, h with
 | [], _ => cases hx
 | [z], _ => rw [List.mem_singleton.mp hx, List.mem_singleton.mp hy]
noncomputable def tabH (K : Frag) : Hp := λ b => ((tblsOf K).find? λ q => q.1 == b).map λ q => .tbl q.2
theorem tabH_some {K : Frag} {b : Addr} {o : HO} (e : tabH K b = some o) : ∃ ps, (b, ps) ∈ tblsOf K /\ o = .tbl ps := by
 unfold tabH at e
 obtain ⟨q, e1, e2⟩ := Q0.mp e
 have m := zR e1
 have z : q.1 = b := by
  have y := List.find?_some e1
  exact beq_iff_eq.mp y
 exact ⟨q.2, by rw [<- z]; exact m, e2.symm⟩
theorem tabH_at {K : Frag} (h1 : (tblsOf K).length <= 1) {b : Addr} {ps : Array Value} (m : (b, ps) ∈ tblsOf K) : tabH K b = some (.tbl ps) := by
 unfold tabH
 cases z : (tblsOf K).find? λ q => q.1 == b with
 | none => exact absurd (beq_self_eq_true b) (by have := List.find?_eq_none.mp z _ m; simpa using this)
 | some q => rw [list_one h1 (zR z) m]; rfl
structure BMdB (base : Heap) (mg : Str -> Option Value) : Prop where
 ex : ∃ (bm : Addr) (o : Obj), mg "__builtins__" = some (.ref bm) /\ bm ≠ builtinsNs /\ bm ≠ mainGlobals /\ base.get? bm = some o /\ o.cls = .type "module" /\ o.dict = some builtinsNs /\ o.data = .plain
noncomputable def lawH (K : Frag) (a : Addr) (o : Option HO) : Hp := λ b => if b = a then o else tabH K b
theorem law_callT {P : Program} {w : World} {K : Frag} {mg mb : Str -> Option Value} {CX : CXT} {k : Nat} {fa a : Addr} {fd : FuncData} {x : Str} {sp : Sp} {s₁ : Shared} {vs : List Value} {ns : List Int}
 (KX : K.In s₁.heap) (TB : Tabs K s₁.heap) (hns : s₁.heap.Ns mainGlobals mg) (hb : s₁.heap.Ns builtinsNs mb) (hbb : ∀ x : Str, x ≠ "__name__" -> mb x = bootBuiltins x) (hlim : s₁.heap.NoLimit) (hbm : ∃ bm ob, mg "__builtins__" = some (.ref bm) /\ bm ≠ builtinsNs /\ s₁.heap.get? bm = some ob /\ ob.cls = .type "module" /\ ob.dict = some builtinsNs /\ ob.data = .plain) (hg : s₁.gens = #[])
 (ha : s₁.heap.get? a = some { cls := .type "list", data := .seq vs.toArray }) (hi : IntsAre vs ns) (hl : ns.length <= sizeLine) (hr : Room k callerA)
 (F : ∀ base : Heap, K.In base -> base.Ns mainGlobals mg -> BMdB base mg -> FnOk P w K mg base CX k fa fd [x] sp) (hbind : ∀ (s : Shared) (u : Value), BindsTo s fd ⟨[u], []⟩ [(x, u)])
 (hsp : ∀ H : Hp, Tb K H -> SqL K H a (ns.map V.int) -> sp [.ref a] H (λ v _ => v = .bl true) λ _ _ _ => False)
 (hCX : ∀ H e s', CX [] H s₁ (λ _ _ _ => False) e s' -> False) :
 codeAny (model P w) callerA (.call (.ref fa) ⟨[.ref a], []⟩) (λ r s' => r = .ok (.ret (.bool true)) /\ OldK s₁.heap s'.heap /\ s'.os = s₁.os /\ AllBare s'.gens) s₁ := by
 have rv := vals_ints hi
 have lenV := hi.length
 have atT : ∀ {b ps}, (b, ps) ∈ tblsOf K -> s₁.heap.get? b = some (tabObj #[]) := λ {b ps} m => TB.at_ _ m
 have naT : ∀ {ps}, (a, ps) ∉ tblsOf K := λ {ps} m => by
  have e := atT m
  rw [ha] at e
  cases e
 have core : ∀ o : Option HO, (o = none \/ ∃ ob xs, o = some (.frz ob (.lst xs))) -> SqL K (lawH K a o) a (ns.map V.int) -> (∀ u, o = some u -> ObjOk P w (lawH K a o) s₁.heap a u) -> (o ≠ none -> K.lookup a = none) ->
  codeAny (model P w) callerA (.call (.ref fa) ⟨[.ref a], []⟩) (λ r s' => r = .ok (.ret (.bool true)) /\ OldK s₁.heap s'.heap /\ s'.os = s₁.os /\ AllBare s'.gens) s₁ := by
  intro o hO hS hok0 hK
  have cases3 : ∀ b u, lawH K a o b = some u -> (b = a /\ o = some u) \/ ∃ ps, (b, ps) ∈ tblsOf K /\ u = .tbl ps := λ b u e => by
   unfold lawH at e
   split at e
   · exact .inl ⟨by assumption, e⟩
   · exact .inr (tabH_some e)
  have hok : HOk P w (lawH K a o) s₁.heap := λ b u e => by
   rcases cases3 b u e with ⟨rfl, z⟩ | ⟨ps, m, rfl⟩
   · exact hok0 u z
   · exact Or.inl (atT m)
  have noA : ∀ {b : Addr} {ob : Obj} {es : Array DictEntry} {ep : Nat}, s₁.heap.get? b = some ob -> ob.data = .dict es ep -> lawH K a o b = none := λ {b ob es ep} e d => by
   cases q : lawH K a o b with
   | none => rfl
   | some u =>
    rcases cases3 b u q with ⟨rfl, z⟩ | ⟨ps, m, rfl⟩
    · rw [ha] at e; cases e; cases d
    · rw [atT m] at e; cases e; cases d
  have nsK : ∀ {b : Addr} {m : Str -> Option Value}, s₁.heap.Ns b m -> (hidT s₁.heap (lawH K a o)).Ns b m := λ {b m} ⟨ob, es, ep, e, d, r⟩ => ⟨ob, es, ep, hidT_get e (noA e d), d, r⟩
  have hKb : K.In (hidT s₁.heap (lawH K a o)) := λ b ob e => hidT_get (KX b ob e) (by
   cases q : lawH K a o b with
   | none => rfl
   | some u =>
    rcases cases3 b u q with ⟨rfl, z⟩ | ⟨ps, m, rfl⟩
    · rw [hK (by rw [z]; exact λ y => nomatch y)] at e; cases e
    · have z := Qf.mp TB.out _ m
      rw [e] at z
      cases z)
  have hB : BMdB (hidT s₁.heap (lawH K a o)) mg := by
   obtain ⟨bm, ob, m1, m2, m3, m4, m5, m6⟩ := hbm
   refine ⟨bm, ob, m1, m2, λ z => ?_, hidT_get m3 ?_, m4, m5, m6⟩
   · obtain ⟨og, es, ep, g1, g2, _⟩ := hns
     rw [<- z, m3] at g1
     cases g1
     rw [m6] at g2
     cases g2
   · cases q : lawH K a o bm with
     | none => rfl
     | some u =>
      rcases cases3 bm u q with ⟨rfl, z⟩ | ⟨ps, m, rfl⟩
      · rw [ha] at m3; cases m3; cases m6
      · rw [atT m] at m3; cases m3; cases m6
  have hM : Mod K mg (hidT s₁.heap (lawH K a o)) := ⟨hKb, nsK hns, ⟨mb, nsK hb, hbb⟩, let ⟨mc, h1, h2⟩ := hlim; ⟨mc, nsK h1, h2⟩⟩
  have e0 : Env0 P w K mg (hidT s₁.heap (lawH K a o)) callerA [] s₁ (lawH K a o) := ⟨rfl, hM, λ b o e => of_hidT e, Nat.le_of_eq (hidT_size _ _), trivial, (λ b hb => absurd (show b ∈ ([] : List Addr) from hb) (by simp)), hok, .of_eq hg⟩
  have tb : Tb K (lawH K a o) := λ b ps t => by
   have m := mem_tbls t
   unfold lawH
   rw [if_neg (λ z => naT (z ▸ m))]
   exact tabH_at TB.one m
  refine codeAny_mono ((F _ hKb (nsK hns) hB).run callerA [] s₁ (lawH K a o) ⟨[.ref a], []⟩ [.ref a] [.ref a] _ _ hr e0 (hbind s₁ (.ref a)) (.cons rfl .nil) (hsp _ tb hS)) λ r s' h => ?_
  cases r with
  | error e => exact (hCX _ e s' h).elim
  | ok fl =>
   cases fl with
   | next => exact False.elim h
   | brk => exact False.elim h
   | cont => exact False.elim h
   | ret u =>
    obtain ⟨v, H', os, bare, un, hok', r', q⟩ := h
    have q' : v = .bl true := q
    subst q'
    obtain rfl : u = Value.bool true := r'
    have key : ∀ b ob, s₁.heap.get? b = some ob -> s'.heap.get? b = some ob \/ (∃ arr, isCodeTable s₁.heap b /\ ob = tabObj #[] /\ s'.heap.get? b = some (tabObj arr)) := λ b ob e => by
     cases q : lawH K a o b with
     | none => exact .inl (un.keep b ob e q (by intro z; exact absurd (show b ∈ ([] : List Addr) from z) (by simp)) (by simp))
     | some u =>
      rcases cases3 b u q with ⟨rfl, z⟩ | ⟨ps, m, rfl⟩
      · rcases hO with y | ⟨oo, xs, y⟩
        · rw [y] at z; cases z
        · rw [y] at z
          cases z
          have z2 := un.frzs b oo _ q
          obtain ⟨e1, _⟩ := hok b _ q
          obtain ⟨e2, _⟩ := hok' b _ z2
          rw [e] at e1; cases e1
          exact .inl e2
      · obtain ⟨more, z2⟩ := un.tbls b _ q
        obtain ⟨c, hc⟩ := of_tbls m
        have ct := ((codeHd_of_K KX hc).tab (atT m)).isCodeTable
        have eo := atT m
        rw [e] at eo
        cases eo
        rcases (show ObjOk P w H' s'.heap b (.tbl _) from hok' b _ z2) with y | ⟨c', oo, uu, l, cc, q0, t0, t2, vs', _, y, _⟩
        · exact .inr ⟨#[], ct, rfl, y⟩
        · exact .inr ⟨_, ct, rfl, y⟩
    refine ⟨rfl, ⟨λ b ob e => ?_, λ b ob e => ?_⟩, os, bare⟩
    · rcases key b ob e with z | ⟨arr, z1, z2, z3⟩
      · exact .inl z
      · subst z2
        exact .inr (.inl ⟨z1, rfl, #[], arr, rfl, by rw [Array.empty_append]; exact z3⟩)
    · rcases key b ob e with z | ⟨arr, _, _, z3⟩
      · exact ⟨_, z⟩
      · exact ⟨_, z3⟩
 cases hk : K.lookup a with
 | some o =>
  have e := KX a o hk
  rw [ha] at e
  cases e
  exact core none (.inl rfl) (.inr ⟨_, vs.toArray, _, hk, rfl, rfl, rfl, by rw [zM, lenV]; exact hl, by simpa using rv⟩) (λ u z => nomatch z) λ z => absurd rfl z
 | none =>
  refine core (some (.frz { cls := .type "list", data := .seq vs.toArray } (.lst (ns.map V.int)))) (.inr ⟨_, _, rfl⟩) (.inl (.inr ⟨{ cls := .type "list", data := .seq vs.toArray }, if_pos rfl⟩)) (λ u z => ?_) λ _ => hk
  cases z
  exact ⟨ha, by rw [zJ]; exact hl, vs, _, rv, ha⟩
theorem walk_ofT {l : OpenLaw} {n k : Nat} {q : Program} {loose : List Str} {XP : (Str -> Option Value) -> Heap -> Prop} {YP : World -> Heap -> Prop} {d : DefRec} {K : Params -> Frag} {CX : World -> CXT} {sp : World -> Sp} {x : Str}
 (hn : l.most = some n) (hn2 : n <= sizeLine) (hdf : d.params.defaults = []) (hr : Room k callerA)
 (hY : ∀ (w : World) (h : Heap), YP w h -> (K w.params).In h /\ Tabs (K w.params) h)
 (F : ∀ (w : World) (mg : Str -> Option Value) (fa : Addr) (h : Heap), (K w.params).In h -> h.Ns mainGlobals mg -> mg d.name = some (.ref fa) ->
  ∃ fd : FuncData, (∀ (s : Shared) (u : Value), BindsTo s fd ⟨[u], []⟩ [(x, u)]) /\ ∀ base : Heap, (K w.params).In base -> base.Ns mainGlobals mg -> BMdB base mg -> FnOk l.prog w (K w.params) mg base (CX w) k fa fd [x] (sp w))
 (hsp : ∀ (w : World) (H : Hp) (a : Addr) (ns : List Int), ns.length <= n -> Tb (K w.params) H -> SqL (K w.params) H a (ns.map V.int) -> sp w [.ref a] H (λ v _ => v = .bl true) λ _ _ _ => False)
 (hCX : ∀ (w : World) (H : Hp) (s : Shared) (e : Value) (s' : Shared), CX w [] H s (λ _ _ _ => False) e s' -> False) :
 WalkO q loose XP YP l.row.toRowW d [] (λ f vs => PySem.call f vs) := by
 refine Att.attach_call hn hdf λ w s₀ s₁ mg mb fa o pm cd doc a vs ns G Y ho hd hcd hmg hobj hints hlen hg => ?_
 obtain ⟨KX, TB⟩ := hY w _ Y
 obtain ⟨fd, hb, hF⟩ := F w mg fa _ KX G.T.g hmg
 exact law_callT KX TB G.T.g G.T.b G.T.builtins G.T.nolimit G.T.bmain hg hobj hints (Q7 hlen hn2) hr hF hb (λ H hO hS => hsp w H a ns hlen hO hS) λ H e s' => hCX w H s₁ e s'
theorem tabs_of {K : Frag} {h : Heap} {ts : List Addr} (hT : ∀ P ∈ ts, h.get? P = some (tabObj #[])) (e : (tblsOf K).map (·.1) = ts) (h1 : ts.length <= 1) (h2 : (tblsOf K).all (λ q => (K.lookup q.1).isNone) = true) : Tabs K h :=
 ⟨by rw [<- zJ (f := λ q : Addr × Array Value => q.1), e]; exact h1, h2, λ q m => hT _ (e ▸ zP m)⟩
section
variable {P : Program} {w : World} {K : Frag} {mg : Str -> Option Value} {base : Heap}
end
end DL
namespace DL
open PySem L2
noncomputable abbrev Cl := List (List Int × List PyData)
noncomputable abbrev Es := List (List Int × Addr × List V)
noncomputable def encL (c : Cl) : List (PyData × PyData) := c.map λ p => (tupI p.1, .list p.2)
noncomputable def mOf (es : Es) : List (List Key × V) := es.map λ e => (e.1.map Sum.inl, V.ref e.2.1)
noncomputable def ads (es : Es) : List Addr := es.map λ e => e.2.1
noncomputable def fzOnly (δ : DSt) : Bool := δ.all λ s => match s with
 | some (.ow _) => false
 | some (.od _) => false
 | _ => true
theorem fzOnly_set {δ : DSt} (h : fzOnly δ = true) (j : Nat) (d : PyData) : fzOnly (δ.set j (some (.fz d))) = true := by
 unfold fzOnly
 rw [Qf]
 intro s hs
 rcases List.mem_or_eq_of_mem_set hs with z | z
 · exact Qf.mp h s z
 · rw [z]
section
variable {K : Fg} {H0 F0 F F' : Hp} {σ : St} {H H' : Hp} {δ : DSt}
noncomputable def Ent (K : Fg) (H0 F H : Hp) : Es -> Cl -> Prop
 | [], [] => True
 | e :: es, p :: ps => (e.1 = p.1 /\ H e.2.1 = some (.lst e.2.2) /\ F e.2.1 = none /\ H0 e.2.1 = none /\ Are K F e.2.2 p.2) /\ Ent K H0 F H es ps
 | _, _ => False
theorem Ent.len {es : Es} {ps : Cl} (h : Ent K H0 F H es ps) : es.length = ps.length := by
 induction es generalizing ps with
 | nil =>
  cases ps with
  | nil => rfl
  | cons _ _ => exact h.elim
 | cons e es ih =>
  cases ps with
  | nil => exact h.elim
  | cons p ps =>
   rw [zC, zC, ih h.2]
theorem Ent.kvs {es : Es} {ps : Cl} (h : Ent K H0 F H es ps) (s : Same F F') (q : ∀ e ∈ es, F' e.2.1 = H e.2.1) : Kvs K F' (mOf es) (encL ps) := by
 induction es generalizing ps with
 | nil =>
  cases ps with
  | nil => rfl
  | cons _ _ => exact h.elim
 | cons e es ih =>
  cases ps with
  | nil => exact h.elim
  | cons p ps =>
   obtain ⟨⟨h1, h2, h3, h4, h5⟩, r⟩ := h
   refine ⟨(e.1.map Sum.inl, V.ref e.2.1), mOf es, rfl, ⟨?_, ?_⟩, ih r λ x hx => q x (lMc _ hx)⟩
   · rw [h1]
     show tupI p.1 = .tuple ((p.1.map Sum.inl).map kD)
     unfold tupI
     rw [zO]
     rfl
   · exact ⟨e.2.1, e.2.2, rfl, (q e lMs).trans h2, h5.same s⟩
structure PI (K : Fg) (H0 F0 F : Hp) (σ : St) (H : Hp) (δ : DSt) (i N : Nat) (kls : Cl) : Prop where
 R : Rep K H0 F0 F σ H δ
 z : fzOnly δ = true
 ln : δ.length = N
 ex : ∃ a es, σ[i]? = some (some (.ref a)) /\ H a = some (.dT (mOf es)) /\ F a = none /\ H0 a = none /\ Ent K H0 F H es kls /\ (a :: ads es).Nodup
theorem PI.set {i j N : Nat} {kls : Cl} {v : V} {d : PyData} (P : PI K H0 F0 F σ H δ i N kls) (n : j ≠ i) (h : Is K F v d) : PI K H0 F0 F (σ.set j (some v)) H (δ.set j (some (.fz d))) i N kls := by
 obtain ⟨a, es, h1, r⟩ := P.ex
 exact ⟨P.R.set h, fzOnly_set P.z j d, by rw [Q9]; exact P.ln, a, es, by rw [Q10 n]; exact h1, r⟩
end
section
variable {K : Fg}
end
end DL
namespace L2
open PySem PySem.Spec PyProof.Rows PySem.W
end L2
namespace DL
open PySem L2
section
variable {K : Fg}
end
end DL
namespace L2
open PySem PySem.Spec PyProof.Rows PySem.W
section
variable {prog : Program} {w : World} {A : Around} {E : Value -> Shared -> Prop} {s : Shared} {a b : Addr} {es : Array DictEntry} {ep ep2 : Nat}
end
end L2
namespace DL
open PySem L2
section
variable {K : Fg}
end
theorem us1 {P : List Value -> Prop} (h : ∀ a, P [a]) : ∀ us : List Value, us.length = 1 -> P us := λ us e => by
 rcases us with _ | ⟨a, _ | ⟨b, r⟩⟩
 · cases e
 · exact h a
 · exact absurd e (by simp)
theorem us2 {P : List Value -> Prop} (h : ∀ a b, P [a, b]) : ∀ us : List Value, us.length = 2 -> P us := λ us e => by
 rcases us with _ | ⟨a, r⟩
 · cases e
 · exact us1 (P := λ r => P (a :: r)) (h a) r (Nat.succ.inj e)
theorem us3 {P : List Value -> Prop} (h : ∀ a b c, P [a, b, c]) : ∀ us : List Value, us.length = 3 -> P us := λ us e => by
 rcases us with _ | ⟨a, r⟩
 · cases e
 · exact us2 (P := λ r => P (a :: r)) (h a) r (Nat.succ.inj e)
end DL
namespace L2
open PySem
theorem ps_setL {X : Cx} {pos : Pos} {i : Nat} {x : Str} {e : Expr} {te : TE} {pos' : Pos} (hN : X.N.Nodup) (he : PE X e te) (hi : X.N[i]? = some x := by rfl) (hx : Loc X.env.scope x := by first | exact Or.inl rfl | exact Or.inr rfl) (hs : swapsWith e (some (.Name x pos')) pos.line X.env = pure false := by rfl)
 (hf : X.fn x = true \/ X.env.scope.names.lookup x = some .local := by first | exact .inl rfl | exact .inr rfl | assumption) : PS X (.Assign [.Name x pos'] e pos) (tAsg te (gName i)) := ps_set hN hi hx he hs hf
theorem fsc {N P : List Str} {sc : Scope} (a : sc.kind = .function := by rfl) (b : sc.isCoroutine = false := by rfl) (c : sc.isGenerator = false := by rfl) (d : N.Nodup := by decide +kernel) (e : N.take P.length = P := by rfl)
 (f : ∀ x ∈ P, sc.names.lookup x = some .local \/ sc.names.lookup x = some .cell := by decide +kernel) (g : ∀ y ∈ sc.names, y.2 ≠ .free := by decide +kernel) : FnScope N P sc := ⟨a, b, c, d, e, f, g⟩
end L2
namespace L2
open PySem PySem.Spec PyProof.Rows PySem.W
section
variable {X : Cx}
theorem vals_strs (l : List (Str × Tok)) : Vals ((l.map (·.1)).map V.str) (strValues l) := by
 induction l with
 | nil => exact .nil
 | cons a r ih => exact .cons ⟨a.2, rfl⟩ ih
theorem split_lays {prog : Program} {w : World} {A : Around} {E : Value -> Shared -> Prop} {s : Shared} {z y : Str} {t u : Tok} {Q : Value -> Shared -> Prop} (h0 : (y.length == 0) = false) (hz : z.length <= sizeLine)
 (h2 : (Txt.split z y).length <= sizeLine)
 (q : ∀ (l : List (Str × Tok)) (k : Nat), l.map (·.1) = Txt.split z y -> Q (.ref s.heap.objs.size) { s with heap := s.heap.push { cls := .type "list", data := .seq (strValues l).toArray }, toks := k }) :
 wpAny (model prog w) A (call (.builtin "str.split") [.str z t, .str y u]) Q E s := by
 cases c1 : (decide (z.length < y.length) || decide (Builtin.Str.strKind z < Builtin.Str.strKind y)) with
 | true =>
  exact call_meets F.slot_str_split (typeIs_str _ _ _) F.entry_str_split (F.args_str_split_2 _ _) (meets_str_split_cannot_occur z y t u c1) (q [(z, t)] s.toks (by unfold Txt.split; rw [if_pos c1]; rfl))
 | false =>
  cases c2 : (Builtin.Str.occurrences z y 0 z.length (z.length + 1)).isEmpty with
  | true =>
   exact call_meets F.slot_str_split (typeIs_str _ _ _) F.entry_str_split (F.args_str_split_2 _ _) (meets_str_split_not_found z y t u c1 h0 c2) (q [(z, t)] s.toks (by unfold Txt.split; rw [if_neg (ne_true_of_eq_false c1), if_pos c2]; rfl))
  | false =>
   have e2 : Txt.split z y = Builtin.Str.partsBetween z (Builtin.Str.occurrences z y 0 z.length (z.length + 1)) y.length := by unfold Txt.split; rw [if_neg (ne_true_of_eq_false c1), if_neg (ne_true_of_eq_false c2)]
   rw [e2] at h2
   refine call_meets F.slot_str_split (typeIs_str _ _ _) F.entry_str_split (F.args_str_split_2 _ _) (meets_str_split_sep z y t u c1 h0 c2 hz h2) ?_
   show wants Q E _ { s with toks := _, heap := s.heap.push { cls := .type "list", data := .seq (strsFrom s.toks (Builtin.Str.partsBetween z (Builtin.Str.occurrences z y 0 z.length (z.length + 1)) y.length)).toArray } }
   rw [strsFrom_eq]
   exact q (numbered s.toks _) _ ((numbered_texts _ _).trans e2.symm)
def rSplit : V -> List V -> Hp -> VK -> Prop := λ x vs H Q => ∃ z y : Str, x = .str z /\ vs = [.str y] /\ (y.length == 0) = false /\ z.length <= sizeLine /\ (Txt.split z y).length <= sizeLine /\
 ∀ l, H l = none -> Q (.ref l) (upd H l (.lst ((Txt.split z y).map V.str)))
theorem mt_split : MtR X "str.split" rSplit := by
 intro pins s σ H x vs v us Q I rx rv h
 obtain ⟨z, y, rfl, rfl, h0, h1, h3, q⟩ := h
 obtain ⟨t, rfl⟩ := rx
 obtain ⟨u, rfl, ru⟩ := rv.one
 obtain ⟨t', rfl⟩ := ru
 refine split_lays h0 h1 h3 λ l k e => ?_
 refine ⟨.ref s.heap.objs.size, _, I.lnew (its := strValues l) (t' := k) (by rw [<- e]; exact vals_strs l) (by rw [zJ]; exact h3), rfl, q _ I.fresh⟩
noncomputable abbrev TJ := Str -> St -> Hp -> (Str -> Hp -> Prop) -> Prop
def PJ (X : Cx) (es : List Expr) (t : TJ) : Prop :=
 ∀ (acc : Str) (pins : List (Addr × Obj)) (s : Shared) (σ : St) (H : Hp) (Q : Str -> Hp -> Prop), Inv X pins σ H s -> t acc σ H Q ->
  Joins (model X.prog X.w) X.A X.xe (evalEach es X.env) acc (λ out s1 => ∃ H1, Inv X pins σ H1 s1 /\ Q out H1) s
noncomputable def tjNil : TJ := λ acc _ H Q => Q acc H
noncomputable def tjCons (te : TE) (tj : TJ) : TJ := λ acc σ H Q => te σ H λ x H1 => ∃ y : Str, x = .str y /\ (acc ++ y).length <= sizeLine /\ tj (acc ++ y) σ H1 Q
theorem pj_nil : PJ X [] tjNil := λ acc pins s σ H Q I h => ⟨H, I, h⟩
theorem pj_cons {e : Expr} {es : List Expr} {te : TE} {tj : TJ} (a : PE X e te) (b : PJ X es tj) : PJ X (e :: es) (tjCons te tj) := λ acc pins s σ H Q I h => by
 show wpAny (model X.prog X.w) X.A (eval e X.env) _ X.xe s
 refine thn (a pins s σ H _ I h) λ v s1 q_ => ?_
 obtain ⟨x, H1, I1, r1, y, e1, hl, q⟩ := q_
 subst e1
 obtain ⟨t, rfl⟩ := r1
 exact ⟨y, t, rfl, hl, b (acc ++ y) pins s1 σ H1 Q I1 q⟩
def tJoined (tj : TJ) : TE := λ σ H Q => tj Str.empty σ H λ out H1 => out.length <= sizeLine /\ Q (.str out) H1
theorem joins_mono {M : Model} {A : Around} {E : Value -> Shared -> Prop} : ∀ (ps : List (Sem Value)) (acc : Str) {Q R : Str -> Shared -> Prop} {s : Shared}, Joins M A E ps acc Q s -> (∀ o s, Q o s -> R o s) -> Joins M A E ps acc R s
 | [], acc, Q, R, s, h, k => k _ _ h
 | x :: r, acc, Q, R, s, h, k => thn h λ v s1 q_ => by
  obtain ⟨y, t, e, hl, q⟩ := q_
  exact ⟨y, t, e, hl, joins_mono r (acc ++ y) q k⟩
theorem pe_joined {e1 e2 : Expr} {es : List Expr} {tj : TJ} {pos : Pos} (a : PJ X (e1 :: e2 :: es) tj) : PE X (.JoinedStr (e1 :: e2 :: es) pos) (tJoined tj) := λ pins s σ H Q I h => by
 refine wpAny_JoinedStr (joins_mono _ _ (a Str.empty pins s σ H _ I h) λ o s1 q_ => ?_)
 obtain ⟨H1, I1, hl, q⟩ := q_
 exact ⟨hl, .str o, H1, I1.tok _, ⟨_, rfl⟩, q⟩
end
end L2
namespace DL
open PySem PySem.Spec PyProof.Rows L2
noncomputable def strsD : List PyData -> Option (List Str)
 | [] => some []
 | d :: r => match d with
  | .str z => (strsD r).map (z :: ·)
  | _ => none
section
variable {K : Fg}
theorem Are.strs {H : Hp} : ∀ {l : List Str} {xs : List V}, Are K H xs (l.map PyData.str) ↔ xs = l.map V.str := by
 intro l
 induction l with
 | nil => intro xs; exact Iff.rfl
 | cons z r ih =>
  intro xs
  constructor
  · intro h
    obtain ⟨x, s, rfl, hx, hr⟩ := h
    rw [show x = .str z from hx, ih.mp hr]
    rfl
  · intro h
    subst h
    exact ⟨.str z, _, rfl, rfl, ih.mpr rfl⟩
noncomputable def splitD (a b : PyData) : Option (List PyData) := match a with
 | .str z => (match b with
  | .str y => if (y.length == 0) = false /\ z.length <= LIM /\ (Txt.split z y).length <= LIM then some ((Txt.split z y).map .str) else none
  | _ => none)
 | _ => none
noncomputable def dSplitO (fo fe : DSt -> Option PyData) (δ : DSt) : Option (List PyData) := (fo δ).bind λ a => (fe δ).bind λ b => splitD a b
theorem so_split {to te : TE} {fo fe : DSt -> Option PyData} (a : SE K to fo) (b : SE K te fe) : SO K (tBM K "str" rSplit to (tCons te tNil)) (dSplitO fo fe) := by
 intro H0 F0 F σ H δ ds Q R e h
 obtain ⟨dx, ex, e⟩ := bind_some e
 obtain ⟨dy, ey, e⟩ := bind_some e
 cases dx with
 | str z =>
  cases dy with
  | str y =>
   have e3 : (if (y.length == 0) = false /\ z.length <= LIM /\ (Txt.split z y).length <= LIM then some ((Txt.split z y).map PyData.str) else none) = some ds := e
   by_cases hc : (y.length == 0) = false /\ z.length <= LIM /\ (Txt.split z y).length <= LIM
   · rw [if_pos hc] at e3
     cases e3
     refine a H0 F0 F σ H δ _ _ R ex λ v H1 F1 g1 i1 => ⟨by rw [show v = .str z from i1]; rfl, b H0 F0 F1 σ H1 δ _ _ (R.grow g1) ey λ w H2 F2 g2 i2 => ?_⟩
     refine ⟨z, y, i1, by rw [show w = .str y from i2], hc.1, lim_line hc.2.1, lim_line hc.2.2, λ p hp => ?_⟩
     have g := g1.trans g2
     exact h p _ _ F2 (g.trans (Grow.fresh g2.s hp)) (g.h.free hp) (g2.s.free hp) upd_same (Are.strs.mpr rfl)
   · rw [if_neg hc] at e3
     cases e3
  | _ => cases e
 | _ => cases e
noncomputable def dPop (i j : Nat) (δ : DSt) : Option DFlow := match δ[j]? with
 | some (some (.ow ds)) => (ds[ds.length - 1]?).map λ d => .nx ((δ.set j (some (.ow ds.dropLast))).set i (some (.fz d)))
 | _ => none
theorem Are.dropLast {F : Hp} {xs : List V} {ds : List PyData} (h : Are K F xs ds) : Are K F xs.dropLast ds.dropLast := by
 rw [List.dropLast_eq_take, List.dropLast_eq_take, h.length]
 exact h.take _
theorem ss_pop (i j : Nat) : SS K (tAsg (tBM0 K "list" rPop (tVar j)) (gName i)) (dPop i j) := by
 intro H0 F0 F σ H δ r D R e h
 unfold dPop at e
 split at e
 · rename_i ds q
   obtain ⟨d, e1, e2⟩ := Q0.mp e
   subst e2
   obtain ⟨p, xs, q1, q2, q3, q4, q5⟩ := R.ow j ds q
   obtain ⟨y, hy, iy⟩ := q5.get e1
   refine ⟨.ref p, q1, .inl ⟨rfl, xs, SqL.of q2⟩, ⟨p, xs, y, rfl, rfl, q2, by rw [q5.length]; exact hy, ?_⟩⟩
   exact h F _ _ ((R.mut q q1 q3 q4 q5.dropLast).set iy) (Same.refl _)
 · cases e
end
end DL
namespace L2
open PySem PySem.Spec PyProof.Rows PySem.W
section
variable {prog : Program} {w : World} {A : Around} {E : Value -> Shared -> Prop} {hp : Heap} {gs : Array GenState} {dr : Drawn} {tk : Nat} {ost : OsState}
variable {n1 n2 : Str} {C NS : Addr} {b1 b2 b3 : List Value} {f1 : Bool} {ss : List Str} {vs : List Value} {f2 : Bool} {f3 : Option Bool} {od : Option Addr} {z0 z1 z2 z3 z5 : Option Value} {B nid iid : String}
theorem exc_tcall (F : ExcBaseFacts B nid iid b3) (T : OwnTail hp b3 b2) {mN : Str -> Option Value} {as : List Value} {fI : Addr} {oI : Obj} {Q : Fin -> Shared -> Prop}
 (hC : hp.get? C = some (excClassObj n1 n2 C NS b1 b2 f1 ss vs f2 f3 od z0 z1 z2 z3 z5 nid)) (hn : hp.Ns NS mN) (hi : mN "__init__" = some (.ref fI)) (hfI : hp.get? fI = some oI) (hfc : oI.cls = .type "function") (hl : as.length <= sizeLine)
 (hq : ∀ h' e, Heap.MadeExcOf hp h' e (.ref C) as -> hp.objs.size <= e -> wpAny (model prog w) A (call (.ref fI) (.ref e :: as)) (λ r s' => r = .none /\ Q (.done (.ret (.ref e))) s') E ⟨h', gs, dr, tk, ost⟩) :
 wpAny (model prog w) A (Builtin.«type.__call__» ⟨.ref C :: as, []⟩) Q E ⟨hp, gs, dr, tk, ost⟩ := by
 repeat (first | with_reducible refine wpAny_loadPart_at hC ?_ | with_reducible refine wpAny_madeBy_exc hC ?_ | wp_step)
 refine codeAny_call_builtin_code (Code.quiet_builtin _ F.quiet) (wpAny_check_new_subT F T hC (codeAny_exc_new_subT F T hC ?_ hl))
 show wpAny _ _ _ _ _ _
 generalize hh : (hp.push { cls := .type "tuple", data := .seq as.toArray }).push { cls := .ref C, data := .fields #[.ref hp.objs.size, .none, .none, .none, .bool false, .none] } = h2
 have kp : ∀ b o, hp.get? b = some o -> h2.get? b = some o := λ b o e => by rw [<- hh]; exact hPo _ (hPo _ e)
 have at1 : h2.get? (hp.objs.size + 1) = some { cls := .ref C, data := .fields #[.ref hp.objs.size, .none, .none, .none, .bool false, .none] } := by rw [<- hh]; heap_get
 have at0 : h2.get? hp.objs.size = some { cls := .type "tuple", data := .seq as.toArray } := by rw [<- hh]; exact hPo _ (Heap.get?_push_at rfl rfl)
 have c1 := kp _ _ hC
 have c2 := kp _ _ hfI
 have c3 := hn.keeps kp
 have c4 := T.keeps kp
 have c5 : (Value.ref C :: b2).contains (.ref C) = true := by simp
 unfold isInstance
 repeat (first | with_reducible refine wpAny_loadPart_at at1 ?_ | (with_reducible refine wpAny_isSubtype_exc c1 ?_; rw [c5]) | wp_step)
 show wpAny _ _ (typeLookup (.ref C) _) _ _ _
 refine wpAny_typeLookup_tail c1 c3 c4 F.mroIs F.init.lookup ?_
 rw [hi]
 refine wpAny_holding (wB ?_)
 unfold bindSpecial
 refine wB (wpAny_typeOf (T := "function") ⟨_, c2, hfc⟩ ?_)
 rw [if_pos (by decide)]
 refine wP (wB (wpAny_mono (hq _ (hp.objs.size + 1) ⟨kp, Heap.get?_none_of_le (Nat.le_succ _), hp.objs.size, at1, Heap.get?_none_of_le (Q4 _), at0⟩ (Nat.le_succ _)) (λ r s' hr => ?_) λ _ _ x => x))
 obtain ⟨rfl, hQ⟩ := hr
 wp_walk
 exact hQ
theorem exc_call (F : ExcBaseFacts B nid iid b3) (T : OwnTail hp b3 b2) {mN : Str -> Option Value} {as : List Value} {fI : Addr} {oI : Obj} {Q : Value -> Shared -> Prop}
 (hC : hp.get? C = some (excClassObj n1 n2 C NS b1 b2 f1 ss vs f2 f3 od z0 z1 z2 z3 z5 nid)) (hn : hp.Ns NS mN) (hi : mN "__init__" = some (.ref fI)) (hfI : hp.get? fI = some oI) (hfc : oI.cls = .type "function") (hl : as.length <= sizeLine)
 (hq : ∀ h' e, Heap.MadeExcOf hp h' e (.ref C) as -> hp.objs.size <= e -> wpAny (model prog w) (A.under (.builtin "type.__call__" ⟨.ref C :: as, []⟩)) (call (.ref fI) (.ref e :: as)) (λ r s' => r = .none /\ Q (.ref e) s') E ⟨h', gs, dr, tk, ost⟩) :
 wpAny (model prog w) A (call (.ref C) as) Q E ⟨hp, gs, dr, tk, ost⟩ := by
 have e1 := tc_lookup
 have e2 := tc_bind (.ref C)
 have e3 : (⟨hp, gs, dr, tk, ost⟩ : Shared).TypeIs (.ref C) "type" := ⟨_, hC, rfl⟩
 refine wpAny_call (codeAny_of_tree (show wpAny _ _ (callAny (.ref C) _) _ _ _ from ?_))
 repeat (any_goals (first | assumption | with_reducible refine wpAny_loadPart_at hC ?_ | wp_step))
 exact ⟨rfl, codeAny_call_builtin_at (Code.quiet_builtin _ (by decide +kernel)) entry_typeCall (wpAny_check_type_call_sub hC (exc_tcall F T hC hn hi hfI hfc hl hq))⟩
theorem raise_any {M : Model} {env : Env} {s : Shared} {x : Sem Value} {Q : Flow -> Shared -> Prop} (hb : b2.contains (.type "BaseException") = true) (hh : A.handled = none)
 (h : wpAny M A x (λ v s1 => ∃ e oe us, v = .ref e /\ s1.heap.get? C = some (excClassObj n1 n2 C NS b1 b2 f1 ss vs f2 f3 od z0 z1 z2 z3 z5 nid) /\ s1.heap.get? e = some oe /\ oe.cls = .ref C /\ oe.data = .fields us /\ us[1]? = some .none /\ E (.ref e) s1) E s) :
 wpAny M A (raiseStmt env (some x) none) Q E s := by
 have c : (Value.ref C :: b2).contains (.type "BaseException") = true := by rw [List.contains_cons, hb, Bool.or_true]
 unfold raiseStmt
 refine wB (wpAny_mono h (λ v s1 q_ => ?_) λ _ _ x => x)
 obtain ⟨e, oe, us, rfl, hC, he, hc, hd, h1, hE⟩ := q_
 obtain ⟨h0, g0, d0, t0, o0⟩ := s1
 obtain ⟨oc, odd, oda, osl⟩ := oe
 cases hc
 cases hd
 unfold setFlight
 repeat (first | with_reducible refine wpAny_loadPart_at he ?_ | with_reducible refine wpAny_loadPart_at hC ?_ | (with_reducible refine wpAny_isSubtype_exc hC ?_; rw [c]) | (with_reducible refine wpAny_field he rfl h1 ?_) | wp_step)
 exact wpAny_raiseNew_none hh hE
theorem tail_passes {self : Value} {nmx : Str} {l : List Value} (T : OwnTail hp b3 l) (h : refuseLoop self nmx b3 = pure ()) : refuseLoop self nmx l = pure () := by
 induction T with
 | base => exact h
 | own _ _ _ _ ih => rw [refuseLoop_ref]; exact ih
theorem exc_put {x : Addr} {ox : Obj} {name : Str} {tkn : Tok} {v : Value} {Q : Fin -> Shared -> Prop} (SF : StoreFacts B b3 "object.__setattr__" "object") (T : OwnTail hp b3 b2)
 (hC : hp.get? C = some (excClassObj n1 n2 C NS b1 b2 true ss vs f2 f3 od z0 z1 z2 z3 z5 nid)) (hx : hp.get? x = some ox) (hc : ox.cls = .ref C) (hdn : ox.dict = none) (hnc : ∀ c, ox.data ≠ .cls c)
 (lk : ∀ M A E (Q : Option Value -> Shared -> Prop) tk', Q none ⟨hp, gs, dr, tk', ost⟩ -> wpAny M A (typeLookup (.ref C) name) Q E ⟨hp, gs, dr, tk', ost⟩)
 (hq : ∀ (h' : Heap) (dx : Addr) (tk' : Nat), hp.objs.size <= dx -> h'.get? x = some { ox with dict := some dx } -> h'.Ns1 dx (λ y => if y = name then some v else none) -> (∀ b o, b ≠ x -> hp.get? b = some o -> h'.get? b = some o) -> Q (.done (.ret .none)) ⟨h', gs, dr, tk', ost⟩) :
 wpAny (model prog w) A (Builtin.«object.__setattr__» ⟨[.ref x, .str name tkn, v], []⟩) Q E ⟨hp, gs, dr, tk, ost⟩ := by
 have pass := tail_passes T (SF.passes (.ref x))
 unfold Builtin.«object.__setattr__»
 repeat (first | rw [refuse_eq] | (rw [refuseLoop_ref, pass]) | (with_reducible refine wpAny_loadPart_at hx ?_; rw [hc]) | with_reducible refine wpAny_mroOf_exc hC ?_ | with_reducible refine lk _ _ _ _ _ ?_ | wp_step)
 have ne : x ≠ hp.objs.size := nNl (hLs hx)
 have hx1 : (hp.push { cls := .type "dict", data := .dict #[] }).get? x = some ox := hPo _ hx
 have alive : ∀ dx : Option Addr, ({ ox with dict := dx } : Obj).isFreed = false := λ dx => by
  have fr := (Heap.get?_some_iff.mp hx).2
  obtain ⟨a1, a2, a3, a4⟩ := ox
  cases a3 <;> first | rfl | exact fr
 have go : wpAny (model prog w) A (do
  let d <- alloc { cls := Value.type "dict", data := Data.dict #[] }
  update x λ o => { cls := o.cls, dict := some d, data := o.data, slots := o.slots }
  dictMade (Value.ref C) x d) (λ a s' => wpAny (model prog w) A (match a with
   | some d => Builtin.ObjectAttr.storeInDict d (Value.str name tkn) name v
   | none => Builtin.ObjectAttr.noDictFor (Value.ref x) (Value.ref C) name (none : Option Value).isSome) Q E s') E ⟨hp, gs, dr, tk, ost⟩ := by
  refine wB (wpAny_alloc' (wB (wpAny_update' hx1 (wP ?_))))
  generalize hG : ((hp.push { cls := .type "dict", data := .dict #[] }).update x λ o => { cls := o.cls, dict := some hp.objs.size, data := o.data, slots := o.slots }) = G
  have gd : G.get? hp.objs.size = some { cls := .type "dict", data := .dict #[] } := by rw [<- hG]; exact (Heap.get?_update_ne _ _ _ _ ne.symm).trans (Heap.get?_push_at rfl rfl)
  have gx : G.get? x = some { ox with dict := some hp.objs.size } := by rw [<- hG]; exact hUs _ hx1 (alive _)
  have gb : ∀ b o, b ≠ x -> hp.get? b = some o -> G.get? b = some o := λ b o n e => by rw [<- hG]; exact (Heap.get?_update_ne _ _ _ _ n).trans (hPo _ e)
  have gn : G.Ns hp.objs.size (λ _ => none) := ⟨_, #[], _, gd, rfl, λ e he => absurd he (by simp), λ _ => rfl⟩
  show wpAny _ _ (Builtin.ObjectAttr.storeInDict hp.objs.size (.str name tkn) name v) _ _ _
  unfold Builtin.ObjectAttr.storeInDict Builtin.ObjectAttr.newKeyGuard
  refine wB (wP (wB (wpAny_nsSet1 (Heap.Ns1.of_empty gn) λ h' hn' hs => ?_)))
  obtain ⟨oD, esD, epD, w1, w2, w3⟩ := hn'.count (Within.cons name v Within.nil)
  refine wB (wpAny_lookBehind w1 (by rw [w2]; exact pastItsLine_dict (Q7 w3 (by rw [zC, zH, sizeLine_eq]; omega))) ?_)
  wp_walk
  exact hq h' hp.objs.size _ (Q4 _) ((hs.2 x ne).trans gx) hn' λ b o n e => (hs.2 b (nNl (hLs e))).trans (gb b o n e)
 rw [hdn, if_neg (by simp [typeHasDict])]
 cases hdat : ox.data <;> first | exact absurd hdat (hnc _) | exact go
theorem exc_set {x : Addr} {ox : Obj} {name : Str} {v : Value} {Q : Unit -> Shared -> Prop} (SF : StoreFacts B b3 "object.__setattr__" "object") (T : OwnTail hp b3 b2)
 (hC : hp.get? C = some (excClassObj n1 n2 C NS b1 b2 true ss vs f2 f3 od z0 z1 z2 z3 z5 nid)) (hx : hp.get? x = some ox) (hc : ox.cls = .ref C) (hdn : ox.dict = none) (hnc : ∀ c, ox.data ≠ .cls c)
 (lk : ∀ M A E (Q : Option Value -> Shared -> Prop) tk', Q none ⟨hp, gs, dr, tk', ost⟩ -> wpAny M A (typeLookup (.ref C) name) Q E ⟨hp, gs, dr, tk', ost⟩)
 (lks : ∀ M A E (Q : Option Value -> Shared -> Prop) tk', Q (some (.builtin "object.__setattr__")) ⟨hp, gs, dr, tk', ost⟩ -> wpAny M A (typeLookup (.ref C) "__setattr__") Q E ⟨hp, gs, dr, tk', ost⟩)
 (hq : ∀ (h' : Heap) (dx : Addr) (tk' : Nat), hp.objs.size <= dx -> h'.get? x = some { ox with dict := some dx } -> h'.Ns1 dx (λ y => if y = name then some v else none) -> (∀ b o, b ≠ x -> hp.get? b = some o -> h'.get? b = some o) -> Q () ⟨h', gs, dr, tk', ost⟩) :
 wpAny (model prog w) A (setAttr (.ref x) name v) Q E ⟨hp, gs, dr, tk, ost⟩ := by
 have fb := SF.slot.bind (.ref x)
 have cO : (Value.ref C :: b2).contains (.type "object") = true := by rw [List.contains_cons, T.hasType SF.hasOwner, Bool.or_true]
 unfold setAttr callSpecial? specialOf
 repeat (any_goals (first | assumption | (with_reducible refine wpAny_loadPart_at hx ?_; rw [hc]) | with_reducible refine lks _ _ _ _ _ ?_ | wp_step))
 show codeAny (model prog w) A (Code.call (Value.builtin "object.__setattr__") ⟨[Value.ref x, Value.str name tk, v], []⟩) _ _
 refine codeAny_call_builtin SF.slot.plain SF.entry ?_
 have chk : ∀ (Q : Unit -> Shared -> Prop) (E : Value -> Shared -> Prop) (A : Around) tk', Q () ⟨hp, gs, dr, tk', ost⟩ -> wpAny (model prog w) A (checkBuiltinCall "object.__setattr__" ⟨[.ref x, .str name tk, v], []⟩) Q E ⟨hp, gs, dr, tk', ost⟩ := λ Q E A tk' q => by
  simp only [checkBuiltinCall, SF.kind, SF.split]
  refine wB ?_
  unfold isInstance
  repeat (first | (with_reducible refine wpAny_loadPart_at hx ?_; rw [hc]) | (with_reducible refine wpAny_isSubtype_exc hC ?_; rw [cO]) | wp_step)
  exact q
 refine chk _ _ _ _ (exc_put SF T hC hx hc hdn hnc lk λ h' dx tk' d1 d2 d3 d4 => ?_)
 exact wP (wP (hq h' dx tk' d1 d2 d3 d4))
end
theorem ns_some {K : Frag} {h : Heap} {N : Addr} {m : Str -> Option Value} {n : Str} {v : Value} (kin : K.In h) (G : h.Ns N m) (e : nsIn K N n = some (some v)) : m n = some v := by
 obtain ⟨o, es, ep, ho, hd, _, hf⟩ := G
 unfold nsIn at e
 split at e
 · rename_i q
   have z := kin _ _ q
   rw [ho] at z
   cases z
   cases hd
   split at e
   · rename_i en he
     cases e
     rw [<- hf]
     unfold nsFind findBy
     rw [<- Array.find?_toList, he]
     rfl
   · split at e <;> cases e
 · cases e
noncomputable def excInI (K : Frag) (C fI : Addr) (bl : List Value) (nid : String) : Bool := match K.lookup C with
 | some ⟨.type "type", _, .cls cd, sl⟩ => (match cd.mro, sl.toList with
  | .ref C' :: bm, [_, _, _, _, some (.builtin n), _] => C' == C && n == nid && !cd.hasDel && cd.hasDict && tailIn K bl bm && nsOkIn K cd.ns && nsIn K cd.ns "__init__" == some (some (.ref fI))
  | _, _ => false)
 | _ => false
structure OwnI (C fI : Addr) (bl : List Value) (nid : String) (h : Heap) : Prop where
 obj : ∃ (tl : List Value) (NN : Addr) (nm qn : Str) (bs : List Value) (sn : List Str) (sub : List Value) (ab : Bool) (col : Option Bool) (dd : Option Addr) (k0 k1 k2 k3 k5 : Option Value) (mN : Str -> Option Value),
  h.get? C = some (excClassObj nm qn C NN bs tl true sn sub ab col dd k0 k1 k2 k3 k5 nid) /\ h.Ns NN mN /\ mN "__init__" = some (.ref fI) /\ OwnTail h bl tl
theorem owni {K : Frag} {h : Heap} {C fI : Addr} {bl : List Value} {nid : String} (kin : K.In h) (ok : excInI K C fI bl nid = true) : OwnI C fI bl nid h := by
 unfold excInI at ok
 cases hL : K.lookup C with
 | none => rw [hL] at ok; cases ok
 | some ob =>
  rw [hL] at ok
  have at_ := kin _ _ hL
  split at ok
  · rename_i e1
    split at ok
    · rename_i cx ds sls lsx w1 w2 w3 w4 w5 w6 w7 w8 e2 e3
      cases e1
      simp only [Q6, beq_iff_eq, Bool.not_eq_true'] at ok
      obtain ⟨⟨⟨⟨⟨⟨q1, q2⟩, q3⟩, q4⟩, q5⟩, q6⟩, q7⟩ := ok
      subst q1 q2
      obtain ⟨c1, c2, c3, c4, c5, c6, c7, c8, c9, c10, c11⟩ := cx
      obtain rfl : c3 = _ := e2
      obtain rfl : c11 = _ := q3
      obtain rfl : c6 = _ := q4
      obtain ⟨sll⟩ := ds
      obtain rfl : sll = _ := e3
      have G : h.Ns c4 _ := .of_isNs (isNs_of_in kin q6)
      exact ⟨_, _, _, _, _, _, _, _, _, _, _, _, _, _, _, _, at_, G, ns_some kin G q7, tail_of_in kin q5⟩
    · cases ok
  · cases ok
def XE (e C : Addr) (d : Bool) : HO := .ext λ h => ∃ (ob : Obj) (us : Array Value), h.get? e = some ob /\ ob.cls = .ref C /\ (d = true -> ob.dict = none) /\ ob.data = .fields us /\ us[1]? = some .none /\ 0 < us.size
theorem xe_ok {P : Program} {w : World} {H : Hp} {h : Heap} {e C : Addr} {d : Bool} {ob : Obj} {us : Array Value} (a : h.get? e = some ob) (b : ob.cls = .ref C) (c : d = true -> ob.dict = none) (f : ob.data = .fields us) (g : us[1]? = some .none) (k : 0 < us.size) : ObjOk P w H h e (XE e C d) :=
 ⟨⟨ob, us, a, b, c, f, g, k⟩, ⟨ob, a⟩, λ h1 h2 p q => by
  obtain ⟨o, u, a1, r⟩ := p
  exact ⟨o, u, q o a1, r⟩⟩
theorem Inv.xe {X : Cx} {pins : List (Addr × Obj)} {σ : St} {H : Hp} {s : Shared} {e C : Addr} {d : Bool} (I : Inv X pins σ H s) (h : H e = some (XE e C d)) : ∃ (ob : Obj) (us : Array Value), s.heap.get? e = some ob /\ ob.cls = .ref C /\ (d = true -> ob.dict = none) /\ ob.data = .fields us /\ us[1]? = some .none /\ 0 < us.size := (I.hok e _ h).1
section
variable {X : Cx}
noncomputable def okAt (n : Int) : Bool := decide (n.natAbs.log2 < 1920) && decide ((Str.ofString (toString n)).length <= 1000)
def tFmtI (te : TE) : TE := λ σ H Q => te σ H λ x H1 => ∃ n : Int, x = .int n /\ okAt n = true /\ Q (.str (Str.ofString (toString n))) H1
theorem pe_fmtI {e : Expr} {te : TE} {pos : Pos} (a : PE X e te) : PE X (.FormattedValue e (-1) none pos) (tFmtI te) := λ pins s σ H Q I h => by
 refine wpAny_FormattedValue_plain (thn (a pins s σ H _ I h) λ v s1 q_ => ?_)
 obtain ⟨x, H1, I1, r1, n, e1, ok, q⟩ := q_
 subst e1
 obtain ⟨t, rfl⟩ := r1
 unfold okAt at ok
 rw [Q6, decide_eq_true_eq, decide_eq_true_eq] at ok
 exact wpAny_formatField_int ok.1 ⟨.str (Str.ofString (toString n)), H1, I1.tok _, ⟨_, rfl⟩, q⟩
structure BaseI (K : Frag) (G : Addr) : Prop where
 m1 : specialIn K (.ref G) "__getattribute__" = some (some (.builtin "type.__getattribute__"))
 m2 : readsIn K G (.type "type") = true
 m3 : findCls K (.ref G) (.type "type") "__init__" = some (.val (.builtin "ValueError.__init__"))
noncomputable abbrev vmro : List Value := [.type "ValueError", .type "Exception", .type "BaseException", .type "object"]
def tInit (C : Addr) (t : TA) : TE := λ σ H Q => t σ H λ vs H1 => ∃ e z, vs = [.ref e, .str z] /\ H1 e = some (XE e C true) /\ Q .non (upd H1 e (XE e C true))
theorem pe_init {g : Str} {G C fI : Addr} {a1 a2 : Expr} {np apos pos : Pos} {t : TA} (hm : X.mg g = some (.ref G)) (bi : BaseI X.K G) (ic : excInI X.K C fI vmro "ValueError.__new__" = true) (ha : PA X [a1, a2] t) {pl : Sem Bool} (hg : Gl X g := by rfl) (hd : (g == ("__debug__" : Str)) = false := by decide)
 (hst : starEach [a1, a2] X.env = (false, eval a1 X.env) :: starEach [a2] X.env := by rfl) (hpl : (backTo pos (starEach [a2] X.env)).any (·.1) = false := by rfl)
 (ht : eval (.Call (.Attribute (.Name g np) "__init__" apos) [a1, a2] [] pos) X.env = (do
  let ov <- eval (.Name g np) X.env
  standAt apos.atName
  let (f, first) <- holding [ov] (getMethod ov "__init__" pl)
  callWith pos f first (backTo pos (starEach [a1, a2] X.env)) (backToKw pos (keywordEach [] X.env))) := by rfl) :
 PE X (.Call (.Attribute (.Name g np) "__init__" apos) [a1, a2] [] pos) (tInit C t) := by
 intro pins s σ H Q I h
 refine methodCall_KW (pl := pl) (ld_glob I hg hm ?_ hd) ht
 refine method_cls I.kIn bi.m1 (cls_value I.kIn bi.m2 bi.m3 rfl ?_)
 have I0 := I.tok (s.toks + 1)
 have hA := ha pos pins _ σ H _ I0 h
 rw [hst] at hA ⊢
 refine Calls.callWith_builtin (by show (false || (backTo pos (starEach [a2] X.env)).any (·.1)) = false; rw [hpl] <;> rfl) (Calls.evalArgs_plain ?_)
 refine thn hA λ us s2 q_ => ?_
 obtain ⟨vs, H2, I2, r, e, z, e1, e2, q⟩ := q_
 subst e1
 obtain ⟨u1, u2, rfl, ru1, ru2⟩ := r.two
 cases ru1
 obtain ⟨t2, rfl⟩ := ru2
 obtain ⟨tl, NN, nm, qn, bs, sn, sub, ab, col, dd, k0, k1, k2, k3, k5, mN, hC, hN, hi, T⟩ := (owni I2.kIn ic).obj
 obtain ⟨ob, us, o1, o2, o3, o4, o5, o6⟩ := I2.xe e2
 obtain ⟨hp, gs, dr, tk, ost⟩ := s2
 obtain ⟨oc, od, oda, osl⟩ := ob
 cases o2
 cases o4
 show wpAny (model X.prog X.w) X.A (call (.builtin "ValueError.__init__") [.ref e, .str z t2]) _ _ _
 refine wpAny_call (codeAny_call_builtin PySem.F.excBase_ValueError.init.plain PySem.F.excBase_ValueError.initEntry (wpAny_check_init_subT PySem.F.excBase_ValueError T hC o1 rfl ?_))
 wp_walk
 have h0 : us[0]? = some us[0] := Array.getElem?_eq_getElem o6
 rw [h0]
 refine wP ?_
 have o1' := hPo { cls := .type "tuple", data := .seq [Value.str z t2].toArray } o1
 refine wB (wpAny_setField o1' rfl o6 ?_)
 have fin : EP X pins σ Q .none ⟨(hp.push { cls := .type "tuple", data := .seq [Value.str z t2].toArray }).update e (Obj.mapFields (·.setIfInBounds 0 (Value.ref hp.objs.size))), gs, dr, tk, ost⟩ := by
  have g1 := hUs (Obj.mapFields (·.setIfInBounds 0 (Value.ref hp.objs.size))) o1' (Obj.isFreed_of_fields (Obj.data_mapFields rfl _))
  refine ⟨.non, _, I2.write (x := e) (e := e) (t' := tk) (by rw [e2]; exact trivial) (.inl rfl) (λ b u nb hb => (hUo _ _ (Ne.symm nb)).trans (hPo _ hb)) ⟨_, g1⟩ (xe_ok g1 (Obj.cls_mapFields _ _) (λ z => o3 rfl) (Obj.data_mapFields rfl _) ?_ ?_), rfl, q⟩
  · rw [Array.getElem?_setIfInBounds_ne (by decide)]; exact o5
  · rw [Array.size_setIfInBounds]; exact o6
 cases hv : us[0] <;> first | exact wpAny_letGo (wP fin) | exact wP (wP fin)
def tPut (C : Addr) (ta tv : TE) : TS := λ D σ H => tv σ H λ y H1 => ta σ H1 λ x H2 => ∃ e, x = .ref e /\ H2 e = some (XE e C true) /\ D.nx σ (upd H2 e (XE e C false))
theorem ps_put {o value : Expr} {f : Str} {pos pos' : Pos} {C fI : Addr} {ta tv : TE} (ic : excInI X.K C fI vmro "ValueError.__new__" = true) (l1 : findIn X.K (.ref C) f = some none) (l2 : findIn X.K (.ref C) "__setattr__" = some (some (.builtin "object.__setattr__"))) (ha : PE X o ta) (hv : PE X value tv)
 (hs : swapsWith value (some (.Attribute o f pos')) pos.line X.env = pure false := by rfl) : PS X (.Assign [.Attribute o f pos'] value pos) (tPut C ta tv) := by
 intro pins s σ H D I h
 refine plainObj_wpAny_Assign_Attribute (thn (hv pins s σ H _ I h) λ u s1 q_ => ?_) hs
 obtain ⟨y, H1, I1, ry, q⟩ := q_
 refine thn (ha pins s1 σ H1 _ I1 q) λ ov s2 q_ => ?_
 obtain ⟨x, H2, I2, rx, e, e1, e2, q⟩ := q_
 subst e1
 cases rx
 obtain ⟨tl, NN, nm, qn, bs, sn, sub, ab, col, dd, k0, k1, k2, k3, k5, mN, hC, hN, hi, T⟩ := (owni I2.kIn ic).obj
 obtain ⟨ob, us, o1, o2, o3, o4, o5, o6⟩ := I2.xe e2
 have kin := I2.kIn
 obtain ⟨hp, gs, dr, tk, ost⟩ := s2
 refine exc_set PySem.F.store_ValueError T hC o1 o2 (o3 rfl) (λ c z => by rw [o4] at z; cases z) (λ M A E Q tk' q => Looks.here (s := ⟨hp, gs, dr, tk', ost⟩) (looks_findIn (h := hp) kin l1) q) (λ M A E Q tk' q => Looks.here (s := ⟨hp, gs, dr, tk', ost⟩) (looks_findIn (h := hp) kin l2) q) λ h' dx tk' d1 d2 d3 d4 => ?_
 refine ⟨σ, _, I2.write (o := XE e C false) (x := e) (e := e) (t' := tk') (by rw [e2]; exact trivial) (.inl rfl) d4 ⟨_, d2⟩ (xe_ok d2 o2 (λ z => nomatch z) o4 o5 o6), q⟩
end
def spI (C : Addr) : Sp := λ vs H Q _ => ∃ e n, vs = [.ref e, .int n] /\ okAt n = true /\ H e = some (XE e C true) /\ Q .non (upd H e (XE e C false))
section
variable {X : Cx} {pins : List (Addr × Obj)} {σ : St} {H : Hp} {s : Shared}
theorem run_exc {k : Nat} {C fI : Addr} {fd : FuncData} {n : Int} {us : List Value} {E : Value -> Shared -> Prop} (ic : excInI X.K C fI vmro "ValueError.__new__" = true) (F : FnOk X.prog X.w X.K X.mg X.base CX0 k fI fd ["self", "at"] (spI C)) (fn : (X.K.lookup fI).map (·.cls) = some (.type "function"))
 (hr : Room (k + 1) X.A) (hb : Binds X.K fd ["self", "at"] []) (I : Inv X pins σ H s) (r : Vals [.int n] us) (ok : okAt n = true) :
 wpAny (model X.prog X.w) X.A (call (.ref C) us) (λ v s' => ∃ e, v = .ref e /\ H e = none /\ s.heap.get? e = none /\ Inv X pins σ (upd H e (XE e C false)) s') E s := by
 obtain ⟨tl, NN, nm, qn, bs, sn, sub, ab, col, dd, k0, k1, k2, k3, k5, mN, hC, hN, hi, T⟩ := (owni I.kIn ic).obj
 obtain ⟨oI, f1, f2⟩ := Q0.mp fn
 have lu : us.length = 1 := r.length.symm
 have sI := I
 obtain ⟨hp, gs, dr, tk, ost⟩ := s
 refine exc_call PySem.F.excBase_ValueError T hC hN hi (I.kIn _ _ f1) f2 (by rw [lu]; decide) λ h' e mk le => ?_
 obtain ⟨t, x1, x2, x3⟩ := mk.there
 have new : hp.get? e = none := mk.new
 have hn : H e = none := by
  cases q : H e with
  | none => rfl
  | some u =>
   obtain ⟨ob, z⟩ := (I.hok _ _ q).there
   rw [new] at z
   cases z
 have I2 : Inv X pins σ (upd H e (XE e C true)) ⟨h', gs, dr, tk, ost⟩ := I.laid mk.keeps le (xe_ok x1 rfl (λ _ => rfl) rfl rfl (by show 0 < 6; decide))
 have r2 : Vals (V.ref e :: [.int n]) (Value.ref e :: us ++ []) := by rw [Qd]; exact .cons rfl r
 refine wpAny_call (codeAny_mono (F.run _ X.stack _ _ ⟨Value.ref e :: us, []⟩ (Value.ref e :: us ++ []) _ (λ v H' => v = .non /\ H' = upd (upd H e (XE e C true)) e (XE e C false)) (λ _ _ _ => False) (hr.make C us []) (I2.env0.make C us []) (hb _ (Value.ref e :: us) I2.kIn (by rw [Qd, zC, lu]; rfl)) r2 ⟨e, n, rfl, ok, upd_same, rfl, rfl⟩) λ r s' q => ?_)
 cases r with
 | error x => exact False.elim q
 | ok fl =>
  cases fl with
  | ret u =>
   obtain ⟨v, H', I3, rv, ev, eh⟩ := I2.after q
   subst ev eh
   rw [upd_upd] at I3
   exact ⟨rv, e, rfl, hn, new, I3⟩
  | next => exact False.elim q
  | brk => exact False.elim q
  | cont => exact False.elim q
theorem flown_exc {E : XK} {E' : Value -> Shared -> Prop} {e C : Addr} (hstk : X.stack = X.env :: X.outer) (hf : X.env.frame = some X.env.locals) (hex : X.ex = []) (hn : H e = none) (new : X.s₀.heap.get? e = none)
 (I : Inv X pins σ (upd H e (XE e C false)) s) (hE : E (.ref e) (some C) H) :
 wpAny (model X.prog X.w) X.A (leaving X.env (.ref e)) (λ _ s'' => CXF X.prog X.w X.outer X.H₀ X.s₀ E (.ref e) s'') E' s := by
 obtain ⟨ob, us, o1, o2, o3, o4, o5, o6⟩ := I.xe upd_same
 have hin : ∀ env ∈ X.stack, ∀ b, env.frame = some b -> b ∈ e :: frs X.stack := λ env he b hb => lMc _ (List.mem_filterMap.mpr ⟨env, he, hb⟩)
 have nx : ∀ b, b ∉ X.ex := λ b z => by rw [hex] at z; cases z
 have keepB : ∀ b o, s.heap.get? b = some o -> b ≠ e -> b ∉ frs X.stack -> (hideAll s.heap (e :: frs X.stack)).get? b = some o := λ b o q n hb => hideAll_get _ q (λ z => by
  rcases Qb.mp z with z | z
  · exact n z
  · exact hb z)
 have ne0 : ∀ b o, X.s₀.heap.get? b = some o -> b ≠ e := λ b o q z => by
  subst z
  rw [new] at q
  cases q
 have off : ∀ b u, upd H e (XE e C false) b = some u -> u ≠ XE e C false -> H b = some u := λ b u q n => by
  by_cases z : b = e
  · subst z
    rw [upd_same] at q
    exact absurd (zV q).symm n
  · rw [upd_ne z] at q
    exact q
 have on : ∀ b u, H b = some u -> b ≠ e := λ b u q z => by
  subst z
  rw [hn] at q
  cases q
 have hokB : HOk X.prog X.w H (hideAll s.heap (e :: frs X.stack)) := λ b u q => by
  have nb := on b u q
  refine (I.hok b u (by rw [upd_ne nb]; exact q)).stay (λ c v hc z => keepB c v z (λ z => ?_) λ z => ?_) (λ c z => off c _ z (by intro y; cases y)) (λ c xs z => off c _ z (by intro y; cases y)) λ c o xs z => off c _ z (by intro y; cases y)
  · subst z
    rcases hc with z | z
    · exact nb z.symm
    · rw [upd_same] at z; cases z
  · have z := I.stkFree c z
    rcases hc with rfl | hc
    · rw [upd_ne nb, q] at z; cases z
    · rw [hc] at z; cases z
 have cov : ∀ b o, X.s₀.heap.get? b = some o -> X.H₀ b = none -> b ∉ frs X.outer -> (hideAll s.heap (e :: frs X.stack)).get? b = some o := λ b o q n hb =>
  keepB b o (I.base.keep b o q n hb (nx b)) (ne0 b o q) (I.notStk q hb)
 have thr : ∀ b o, X.s₀.heap.get? b = some o -> b ∈ frs X.outer \/ ∃ o', (hideAll s.heap (e :: frs X.stack)).get? b = some o' := λ b o q => by
  by_cases hb : b ∈ frs X.outer
  · exact .inl hb
  · obtain ⟨o', q'⟩ := I.base.there b o q (nx b)
    exact .inr ⟨o', keepB b o' q' (ne0 b o q) (I.notStk q hb)⟩
 have fr := I.ok.frames
 have stk := I.stack
 have ub : Un (frs X.outer) [] X.H₀ H X.s₀.heap s.heap := by
  have b := I.base
  rw [hex] at b
  exact {
   keep := b.keep
   slot := b.slot
   there := b.there
   free := λ c o q1 q2 q3 => by
    have z := b.free c o q1 q2 q3
    rw [upd_ne (ne0 c o q1)] at z
    exact z
   tups := λ c xs q => off c _ (b.tups c xs q) (by intro y; cases y)
   frzs := λ c o xs q => off c _ (b.frzs c o xs q) (by intro y; cases y)
   tbls := λ c ps q => by
    obtain ⟨more, z⟩ := b.tbls c ps q
    exact ⟨more, off c _ z (by intro y; cases y)⟩ }
 generalize hB : hideAll s.heap (e :: frs X.stack) = B at *
 have ffB : s.heap.FunFrames B (X.env :: X.outer) := by
  rw [<- hB, <- hstk]
  exact funFrames_hide stk hin
 rw [hstk] at fr
 have hen : B.get? e = none := by rw [<- hB]; exact hideAll_none _ (.head _)
 obtain ⟨a0, h0⟩ : ∃ a0, us[0]? = some a0 := ⟨us[0], Array.getElem?_eq_getElem o6⟩
 refine wpAny_leaving_firstW (base := B) (a0 := a0) fr ffB hf o1 (λ b o q => by rw [<- hB] at q; exact of_hideAll _ q) hen o4 o5 h0 λ h' hL => ?_
 obtain ⟨k1, ⟨y1, y2, k2⟩, k3, k4⟩ := hL
 refine ⟨e, C, a0, B, H, rfl, ⟨I.os, I.bare, hokB, ⟨k1, hen, k2, by rw [<- o2]; exact k3⟩, cov, thr, un_out I.ok.funs I.ok.frf k1 k2 cov thr ub k4⟩, hE⟩
end
section
variable {P : Program} {w : World} {K : Frag} {mg : Str -> Option Value} {base : Heap} {N : List Str} {qual : Str} {scope : Scope} {f : Addr} {cd : Value} {A : Around} {outer : List Env} {s₀ : Shared} {H₀ : Hp} {E : XK}
def tRaiseI (C : Addr) (E : XK) (ta : TA) : TS := λ _ σ H => ta σ H λ vs H1 => ∃ n : Int, vs = [.int n] /\ okAt n = true /\ ∀ ea, E (.ref ea) (some C) H1
theorem ps_raiseI {x : Str} {C fI : Addr} {fd : FuncData} {k n : Nat} {np cpos pos : Pos} {e₀ : Expr} {ta : TA} (hm : mg x = some (.ref C)) (ic : excInI K C fI vmro "ValueError.__new__" = true) (F : FnOk P w K mg base CX0 k fI fd ["self", "at"] (spI C)) (fn : (K.lookup fI).map (·.cls) = some (.type "function")) (hb : Binds K fd ["self", "at"] [])
 (kp : keepIn K (.ref C) = true) (hr : Room n (cxOf (CXF P w) P w K mg base N qual scope f cd A outer s₀ H₀ E).A) (ha : PA (cxOf (CXF P w) P w K mg base N qual scope f cd A outer s₀ H₀ E) [e₀] ta) (hkn : k + 1 <= n := by decide) (hg : Gl (cxOf (CXF P w) P w K mg base N qual scope f cd A outer s₀ H₀ E) x := by rfl)
 (hd : (x == ("__debug__" : Str)) = false := by decide)
 (he : starEach [e₀] (envOfC qual scope s₀.heap.objs.size f cd) = (false, eval e₀ (envOfC qual scope s₀.heap.objs.size f cd)) :: starEach [] (envOfC qual scope s₀.heap.objs.size f cd) := by rfl) :
 PS (cxOf (CXF P w) P w K mg base N qual scope f cd A outer s₀ H₀ E) (.Raise (some (.Call (.Name x np) [e₀] [] cpos)) none pos) (tRaiseI C E ta) := by
 intro pins s σ H D I h
 obtain ⟨tl, NN, nm, qn, bs, sn, sub, ab, col, dd, k0, k1, k2, k3, k5, mN, hC, hN, hi, T⟩ := (owni I.mod.kin ic).obj
 rw [arm_exec_Raise]
 refine wB (wpAny_standAt ?_)
 refine raise_any (C := C) (n1 := nm) (n2 := qn) (NS := NN) (b1 := bs) (b2 := tl) (f1 := true) (ss := sn) (vs := sub) (f2 := ab) (f3 := col) (od := dd) (z0 := k0) (z1 := k1) (z2 := k2) (z3 := k3) (z5 := k5) (nid := "ValueError.__new__") (T.hasType PySem.F.excBase_ValueError.hasBase) (I.ok.hd rfl) ?_
 refine wB (wpAny_mono (Q := λ v s1 => ∃ e oe us, v = .ref e /\ s1.heap.get? C = some (excClassObj nm qn C NN bs tl true sn sub ab col dd k0 k1 k2 k3 k5 "ValueError.__new__") /\ s1.heap.get? e = some oe /\ oe.cls = .ref C /\ oe.data = .fields us /\ us[1]? = some .none /\ (cxOf (CXF P w) P w K mg base N qual scope f cd A outer s₀ H₀ E).xe (.ref e) s1) (wpAny_Call_Name_kw (ld_glob I hg hm ?_ hd)) (λ v s1 q => wB (wpAny_standAt (wP q))) λ _ _ z => z)
 refine callWith_K (h₀ := base) I.ok.mod.kin kp (thn (ha cpos pins s σ H _ I h) λ us s1 q_ => ?_) he (by rfl)
 obtain ⟨vs, H1, I1, r, m, e1, ok, hE⟩ := q_
 subst e1
 refine ⟨I1.kIn, ?_⟩
 refine thn (run_exc ic F fn (hr.mono hkn) hb I1 r ok) λ v s2 q_ => ?_
 obtain ⟨e, rfl, hn, new, I2⟩ := q_
 obtain ⟨ob, us, o1, o2, o3, o4, o5, o6⟩ := I2.xe upd_same
 have n0 : s₀.heap.get? e = none := by
  cases q : s₀.heap.get? e with
  | none => rfl
  | some o =>
   obtain ⟨o', z⟩ := I1.base.there e o q (by intro z; cases z)
   rw [new] at z
   cases z
 exact ⟨e, ob, us, rfl, I2.bk _ _ hC, o1, o2, o4, o5, flown_exc (X := cxOf (CXF P w) P w K mg base N qual scope f cd A outer s₀ H₀ E) rfl rfl rfl hn n0 I2 (hE e)⟩
end
end L2
namespace DL
open PySem L2 PyProof.Rows
section
variable {K : Fg} {E : XK} {C : Addr}
noncomputable def xRaiseI (fs : DSt -> Option (List PyData)) (δ : DSt) : Bool := match fs δ with
 | some ds => (match ds with
  | d :: r => (match d with
   | .int n => r.isEmpty && okAt n
   | _ => false)
  | [] => false)
 | none => false
theorem sx_raiseI {ta : TA} {fs : DSt -> Option (List PyData)} (a : SA K ta fs) : SX K E C (tRaiseI C E ta) (xRaiseI fs) := λ H0 F0 F σ H δ D R e k => by
 unfold xRaiseI at e
 cases q : fs δ with
 | none => rw [q] at e; cases e
 | some ds =>
  rw [q] at e
  cases ds with
  | nil => cases e
  | cons d r =>
   cases d with
   | int n =>
    have e' : (r.isEmpty && okAt n) = true := e
    rw [Q6, List.isEmpty_iff] at e'
    obtain ⟨e1, e2⟩ := e'
    subst e1
    refine a H0 F0 F σ H δ _ _ R q λ vs H' F' g ar => ?_
    obtain ⟨x, s, rfl, hx, hs⟩ := ar
    exact ⟨n, by rw [show s = [] from hs, show x = .int n from hx], e2, λ ea => k ea F' H' (R.g.trans g)⟩
   | _ => cases e
noncomputable def tQ (K : Fg) (i : Nat) : List V -> TA
 | [] => tNil
 | y :: r => tCons (tIs K i y) (tQ K i r)
inductive AllAns (K : Fg) (C : Addr) : List V -> List Bool -> Prop
 | nil : AllAns K C [] []
 | cons {y : V} {b : Bool} {ys : List V} {bs : List Bool} : Ans K C y b -> AllAns K C ys bs -> AllAns K C (y :: ys) (b :: bs)
theorem tQ_ans {ea : Addr} {i : Nat} {σ : St} {H : Hp} (hs : σ[i]? = some (some (.ref ea))) (hH : H ea = some (XO ea C)) (xc : ExcCls K C) {ys : List V} {bs : List Bool} (a : AllAns K C ys bs) : ∀ {Q : List V -> Hp -> Prop}, Q (bs.map V.bl) H -> tQ K i ys σ H Q := by
 induction a with
 | nil => intro Q q; exact q
 | cons a1 r ih =>
  intro Q q
  obtain ⟨c, w, k⟩ := a1
  exact ⟨.ref ea, hs, ea, C, _, c, _, rfl, w, hH, k, xc, ih q⟩
def tKinds (K : Fg) (i j : Nat) (ys zs : List V) : TS := tSeq (tAsg (tLst (tQ K i ys)) (gName j)) (tAsg (tOp (rAddA K) (tVar j) (tLst (tQ K i zs))) (gName j))
theorem kinds_ts {ea : Addr} {i j : Nat} {ys zs : List V} {bs cs : List Bool} {D : Ends} {σ : St} {H : Hp} (ne : i ≠ j) (hj : j < σ.length) (hs : σ[i]? = some (some (.ref ea))) (hH : H ea = some (XO ea C)) (xc : ExcCls K C) (a : AllAns K C ys bs) (b : AllAns K C zs cs)
 (l1 : bs.length <= 1000) (l2 : cs.length <= 1000)
 (h : ∀ p q r, H p = none -> upd H p (.lst (bs.map V.bl)) q = none -> upd (upd H p (.lst (bs.map V.bl))) q (.lst (cs.map V.bl)) r = none ->
  D.nx ((σ.set j (some (.ref p))).set j (some (.ref r))) (upd (upd (upd H p (.lst (bs.map V.bl))) q (.lst (cs.map V.bl))) r (.lst (bs.map V.bl ++ cs.map V.bl)))) : tKinds K i j ys zs D σ H := by
 refine tQ_ans hs hH xc a ⟨by rw [zJ]; exact small l1, λ p hp => ?_⟩
 have pe : ea ≠ p := ne_of_none hH hp
 refine ⟨.ref p, by rw [List.getElem?_set_self hj], tQ_ans (by rw [Q10 (Ne.symm ne)]; exact hs) (by rw [upd_ne pe]; exact hH) xc b ⟨by rw [zJ]; exact small l2, λ q hq => ?_⟩⟩
 refine .inr (.inr (.inl ⟨p, q, _, _, rfl, rfl, ?_, upd_same, ?_, λ r hr => h p q r hp hq hr⟩))
 · rw [upd_ne (ne_of_none upd_same hq)]; exact upd_same
 · rw [zJ, zJ]; exact Q7 (Nat.add_le_add l1 l2) (by decide)
theorem try_kinds {Dc : Addr} {i j : Nat} {tb : XK -> TS} {fx : DSt -> Bool} {ys zs : List V} {bs cs : List Bool} {vs : List V} {ds : List PyData} {F H : Hp} {Q : VK} {N : List Str} (sx : ∀ E, SX K E C (tb E) fx) (hex : PySem.W.exmOne K (.ref C) (.ref Dc) = some true) (xc : ExcCls K C)
 (a : AllAns K C ys bs) (b : AllAns K C zs cs) (l1 : bs.length <= 1000) (l2 : cs.length <= 1000) (ne : i ≠ j) (hi : i < N.length) (hj : j < N.length) (s : SameT K F H) (ar : Are K F vs ds)
 (e : fx ((stD N.length ds).set j (some (.ow []))) = true) (q : ∀ v H' F', Grow F H F' H' -> Is K F' v (.list ((bs ++ cs).map PyData.bool)) -> Q v H') :
 tSeq (tAsg (tLst tNil) (gName j)) (tSeq (tTry K Dc i N.length tb (λ _ => tKinds K i j ys zs)) (tRet (tVar j))) { nx := λ _ H' => Q .non H', rt := Q } (L2.start N vs) H := by
 have R := repStart (K := K) (N := N) s ar
 refine ss_setO j (so_lst sa_nil) H F F _ H (stD N.length ds) (.nx _) _ R rfl λ F1 σ1 H1 R1 s1 => ?_
 refine sx _ H F F1 σ1 H1 _ _ R1 e (λ ea F' H' g' => ⟨C, rfl, hex, λ ea' e' hf σ' hσ => ?_⟩)
 cases e'
 refine kinds_ts ne (by rw [Q9, hσ]; exact hj) (by rw [List.getElem?_set_self (by rw [hσ]; exact hi)]) upd_same xc a b l1 l2 λ p p2 r hp hq hr => ?_
 have g1 : Grow F H F' (upd H' ea (XO ea C)) := g'.trans (Grow.fresh g'.s hf)
 have g2 := g1.trans (Grow.fresh (p := p) (o := .lst (bs.map V.bl)) g1.s hp)
 have g3 := g2.trans (Grow.fresh (p := p2) (o := .lst (cs.map V.bl)) g2.s hq)
 have g4 := g3.trans (Grow.new (p := r) (o := .lst (bs.map V.bl ++ cs.map V.bl)) g3.s hr)
 refine ⟨.ref r, ?_, q (.ref r) _ _ g4 ⟨r, _, rfl, upd_same, ?_⟩⟩
 · rw [Q10 ne, List.getElem?_set_self]
   simp only [Q9, hσ]
   exact hj
 · rw [<- List.map_append]
   exact Are.bools.mpr rfl
end
theorem init_reads {C e : Addr} {n : Int} {H : Hp} {Q : VK} {z : Str} (ok : okAt n = true) (he : H e = some (XE e C true)) (q : Q .non (upd H e (XE e C false))) (hz : z.length <= 1000 := by decide) :
 tSeq (tDrop (tInit C (tCons (tVar 0) (tCons (tJoined (tjCons (tC (.str z)) (tjCons (tFmtI (tVar 1)) tjNil))) tNil)))) (tPut C (tVar 0) (tVar 1)) { nx := λ _ H' => Q .non H', rt := Q } (L2.start ["self", "at"] [.ref e, .int n]) H := by
 have ok2 := ok
 unfold okAt at ok2
 rw [Q6, decide_eq_true_eq, decide_eq_true_eq] at ok2
 have l1 : (Str.empty ++ z).length <= 1000 := by rw [strLen_append]; show 0 + z.length <= 1000; omega
 have l2 : (Str.empty ++ z ++ Str.ofString (toString n)).length <= 2000 := by rw [strLen_append]; omega
 have l2' : (Str.empty ++ z ++ Str.ofString (toString n)).length <= sizeLine := Q7 l2 (by decide)
 refine ⟨.ref e, rfl, z, rfl, small l1, .int n, rfl, n, rfl, ok, _, rfl, l2', l2', e, _, rfl, he, ?_⟩
 refine ⟨.int n, rfl, .ref e, rfl, e, rfl, upd_same, ?_⟩
 rw [upd_upd]
 exact q
end DL
namespace GX
open PySem L2 DL
noncomputable def B_law_cell_1 : DSt -> Option DFlow := (dRet (dC (.int 0)))
noncomputable def B_law_cell_0 : DSt -> Option DFlow := dSeq (dIf (dB (d2 ltD (dVar 1) (dCall lenC (dCons (dVar 0) dNil)))) (dRet (d2 ixD (dVar 0) (dVar 1))) dNext) B_law_cell_1
noncomputable def B_law_cell : DSt -> Option DFlow := (dSeq (dIf (dB (d2 ltD (dVar 1) (dCall lenC (dCons (dVar 0) dNil)))) (dRet (d2 ixD (dVar 0) (dVar 1))) dNext) (dRet (dC (.int 0))))
theorem B_law_cell_tl : B_law_cell = B_law_cell_0 := rfl
noncomputable def F_law_cell : List PyData -> Option PyData := runD 2 B_law_cell
noncomputable def Bis_pair : DSt -> Option DFlow := (dRet (dAndV (dIsi "tuple" (dVar 0)) (d2 eqD (dCall lenC (dCons (dVar 0) dNil)) (dC (.int 2)))))
noncomputable def Fis_pair : List PyData -> Option PyData := runD 1 Bis_pair
noncomputable def Bis_number_within : DSt -> Option DFlow := (dRet (dAndV (dIsi "int" (dVar 0)) (dAndV (dNotV (dIsi "bool" (dVar 0))) (dChain leD leD (dVar 1) (dVar 0) (dVar 2)))))
noncomputable def Fis_number_within : List PyData -> Option PyData := runD 3 Bis_number_within
noncomputable def Bhow_many_codes : DSt -> Option DFlow := (dSeq (dSet 2 (dC (.int 1))) (dSeq (dFor (dRng1 (dCons (dVar 0) dNil)) (gN 3) (dAug 2 mulI (dVar 1))) (dRet (dVar 2))))
noncomputable def Fhow_many_codes : List PyData -> Option PyData := runD 4 Bhow_many_codes
noncomputable def Bis_game : DSt -> Option DFlow := (dSeq (dIf (dNotT (dTru (dOwnCall 1 Fis_pair (dCons (dVar 0) dNil)))) (dRet (dC (.bool false))) dNext) (dSeq (dIf (dOrT (dNotT (dTru (dOwnCall 3 Fis_number_within (dCons (d2 ixD (dVar 0) (dC (.int 0))) (dCons (dC (.int 1)) (dCons (dC (.int 5)) dNil)))))) (dNotT (dTru (dOwnCall 3 Fis_number_within (dCons (d2 ixD (dVar 0) (dC (.int 1))) (dCons (dC (.int 1)) (dCons (dC (.int 8)) dNil))))))) (dRet (dC (.bool false))) dNext) (dRet (d2 leD (dOwnCall 2 Fhow_many_codes (dCons (d2 ixD (dVar 0) (dC (.int 0))) (dCons (d2 ixD (dVar 0) (dC (.int 1))) dNil))) (dC (.int 300))))))
noncomputable def Fis_game : List PyData -> Option PyData := runD 1 Bis_game
noncomputable def Xchecked_game_BadGame : List PyData -> Bool := runX 1 (xIf2 (dNotT (dTru (dOwnCall 1 Fis_game (dCons (dVar 0) dNil)))) (xRaise (dCons (dC (.str (PySem.Str.ofString "no game: a tuple of 1 to 5 places and 1 to 8 colours, with at most 300 codes"))) dNil)) xNo)
noncomputable def Xanswer_BadGame : List PyData -> Bool := runX 3 (xCall 1 Xchecked_game_BadGame (dCons (dVar 0) dNil))
noncomputable def Bchecked_game : DSt -> Option DFlow := (dSeq (dIf (dNotT (dTru (dOwnCall 1 Fis_game (dCons (dVar 0) dNil)))) dNever dNext) (dRet (dVar 0)))
noncomputable def Fchecked_game : List PyData -> Option PyData := runD 1 Bchecked_game
noncomputable def Bis_code : DSt -> Option DFlow := (dSeq (dIf (dOrT (dNotT (dTru (dIsi "tuple" (dVar 1)))) (dB (d2 neD (dCall lenC (dCons (dVar 1) dNil)) (d2 ixD (dVar 0) (dC (.int 0)))))) (dRet (dC (.bool false))) dNext) (dRet (dCall allC (dCons (dOwn (dCompO 1 [("game", 0)] (dIter (dVar 1)) (gN 0) dYes (dOwnCall 3 Fis_number_within (dCons (dVar 0) (dCons (dC (.int 0)) (dCons (d2 subD (d2 ixD (dVar 1) (dC (.int 1))) (dC (.int 1))) dNil)))))) dNil))))
noncomputable def Fis_code : List PyData -> Option PyData := runD 2 Bis_code
noncomputable def Bis_answer : DSt -> Option DFlow := (dRet (dAndV (dOwnCall 1 Fis_pair (dCons (dVar 1) dNil)) (dCall allC (dCons (dOwn (dCompO 1 [("game", 0)] (dIter (dVar 1)) (gN 0) dYes (dOwnCall 3 Fis_number_within (dCons (dVar 0) (dCons (dC (.int 0)) (dCons (d2 ixD (dVar 1) (dC (.int 0))) dNil)))))) dNil))))
noncomputable def Fis_answer : List PyData -> Option PyData := runD 2 Bis_answer
noncomputable def Bis_ask : DSt -> Option DFlow := (dRet (dAndV (dOwnCall 1 Fis_pair (dCons (dVar 1) dNil)) (dAndV (dOwnCall 2 Fis_code (dCons (dVar 0) (dCons (d2 ixD (dVar 1) (dC (.int 0))) dNil))) (dOwnCall 2 Fis_answer (dCons (dVar 0) (dCons (d2 ixD (dVar 1) (dC (.int 1))) dNil))))))
noncomputable def Fis_ask : List PyData -> Option PyData := runD 2 Bis_ask
noncomputable def Bchecked_list : DSt -> Option DFlow := (dSeq (dIf (dOrT (dNotT (dTru (dIsi "list" (dVar 1)))) (dB (d2 gtD (dCall lenC (dCons (dVar 1) dNil)) (dC (.int 8))))) dNever dNext) (dSeq (dFor (dEn (dCons (dVar 1) dNil)) (gT 2 (gC (gN 3) (gC (gN 4) gZ))) (dIf (dNotT (dTru (dCallV 2 "is_ask" 2 Fis_ask (dCons (dVar 0) (dCons (dVar 4) dNil))))) dNever dNext)) (dRet (dVar 1))))
noncomputable def Fchecked_list : List PyData -> Option PyData := runD 5 Bchecked_list
noncomputable def Bchecked_asks : DSt -> Option DFlow := (dRet (dOwnCall 3 Fchecked_list (dCons (dVar 0) (dCons (dVar 1) (dCons (dC (fnD "is_ask")) dNil)))))
noncomputable def Fchecked_asks : List PyData -> Option PyData := runD 2 Bchecked_asks
noncomputable def Banswer_of : DSt -> Option DFlow := (dSeq (dSet 2 (dC (.int 0))) (dSeq (dSet 3 (dC (.int 0))) (dSeq (dSetO 4 (dListO (dCons (dVar 0) dNil))) (dSeq (dFor (dEn (dCons (dVar 1) dNil)) (gT 2 (gC (gN 5) (gC (gN 6) gZ))) (dSeq (dIf (dB (d2 eqD (d2 ixD (dVar 0) (dVar 5)) (dVar 6))) (dAug 2 iaddD (dC (.int 1))) dNext) (dIf (dB (dInO false 4 (dVar 6))) (dSeq (dRemove 4 (dVar 6)) (dAug 3 iaddD (dC (.int 1)))) dNext))) (dRet (dTup (dCons (dVar 2) (dCons (d2 subD (dVar 3) (dVar 2)) dNil))))))))
noncomputable def Fanswer_of : List PyData -> Option PyData := runD 7 Banswer_of
noncomputable def Bfits_ask : DSt -> Option DFlow := (dRet (d2 eqD (dOwnCall 2 Fanswer_of (dCons (dVar 0) (dCons (d2 ixD (dVar 1) (dC (.int 0))) dNil))) (d2 ixD (dVar 1) (dC (.int 1)))))
noncomputable def Ffits_ask : List PyData -> Option PyData := runD 2 Bfits_ask
noncomputable def Bthose_that_fit : DSt -> Option DFlow := (dSeq (dSet 2 (dVar 0)) (dSeq (dFor (dIter (dVar 1)) (gN 3) (dSet 2 (dOwn (dCompO 1 [("ask", 3)] (dIter (dVar 2)) (gN 0) (dTru (dOwnCall 2 Ffits_ask (dCons (dVar 0) (dCons (dVar 1) dNil)))) (dVar 0))))) (dRet (dVar 2))))
noncomputable def Fthose_that_fit : List PyData -> Option PyData := runD 4 Bthose_that_fit
noncomputable def Xall_codes_BadGame : List PyData -> Bool := runX 5 (xCall 1 Xchecked_game_BadGame (dCons (dVar 0) dNil))
noncomputable def Xwhat_fits_BadGame : List PyData -> Bool := runX 2 (xEither (xCall 1 Xchecked_game_BadGame (dCons (dVar 0) dNil)) (xSeq (dDrop (dOwnCall 1 Fchecked_game (dCons (dVar 0) dNil))) (xSeq (dDrop (dOwnCall 2 Fchecked_asks (dCons (dVar 0) (dCons (dVar 1) dNil)))) (xCall 1 Xall_codes_BadGame (dCons (dVar 0) dNil)))))
noncomputable def Bfound_or_clash : DSt -> Option DFlow := (dSeq (dIf (dNotT (dTru (dVar 0))) dNever dNext) (dRet (dVar 0)))
noncomputable def Ffound_or_clash : List PyData -> Option PyData := runD 1 Bfound_or_clash
noncomputable def Xsettled_BadGame : List PyData -> Bool := runX 3 (xCall 2 Xwhat_fits_BadGame (dCons (dVar 0) (dCons (dVar 1) dNil)))
noncomputable def Bsmall_game : DSt -> Option DFlow := (dSeq (dIf (dB (d2 gtD (dOwnCall 2 Fhow_many_codes (dCons (d2 ixD (dVar 0) (dC (.int 0))) (dCons (d2 ixD (dVar 0) (dC (.int 1))) dNil))) (dC (.int 16)))) dNever dNext) (dRet (dVar 0)))
noncomputable def Fsmall_game : List PyData -> Option PyData := runD 1 Bsmall_game
noncomputable def Xfewest_settling_BadGame : List PyData -> Bool := runX 4 (xEither (xCall 1 Xchecked_game_BadGame (dCons (dVar 0) dNil)) (xSeq (dDrop (dOwnCall 1 Fchecked_game (dCons (dVar 0) dNil))) (xSeq (dDrop (dOwnCall 1 Fsmall_game (dCons (dVar 0) dNil))) (xCall 1 Xall_codes_BadGame (dCons (dVar 0) dNil)))))
noncomputable def Xread_BadGame : List PyData -> Bool := runX 4 (xCall 1 Xchecked_game_BadGame (dCons (dVar 0) dNil))
noncomputable def X_law_deed_BadGame : List PyData -> Bool := runX 1 (xEither (xIf2 (dB (d2 eqD (dVar 0) (dC (.int 0)))) (xCall 1 Xchecked_game_BadGame (dCons (dTup (dCons (dC (.int 0)) (dCons (dC (.int 0)) dNil))) dNil)) xNo) (xSeq (dIf (dB (d2 eqD (dVar 0) (dC (.int 0)))) dNever dNext) (xEither (xIf2 (dB (d2 eqD (dVar 0) (dC (.int 1)))) (xCall 3 Xanswer_BadGame (dCons (dTup (dCons (dC (.int 1)) (dCons (dC (.int 1)) dNil))) (dCons (dTup (dCons (dC (.int 0)) dNil)) (dCons (dTup (dCons (dC (.int 1)) dNil)) dNil)))) xNo) (xSeq (dIf (dB (d2 eqD (dVar 0) (dC (.int 1)))) dNever dNext) (xEither (xIf2 (dB (d2 eqD (dVar 0) (dC (.int 2)))) (xCall 2 Xwhat_fits_BadGame (dCons (dTup (dCons (dC (.int 1)) (dCons (dC (.int 1)) dNil))) (dCons (dC .none) dNil))) xNo) (xSeq (dIf (dB (d2 eqD (dVar 0) (dC (.int 2)))) dNever dNext) (xEither (xIf2 (dB (d2 eqD (dVar 0) (dC (.int 3)))) (xCall 2 Xsettled_BadGame (dCons (dTup (dCons (dC (.int 1)) (dCons (dC (.int 1)) dNil))) (dCons (dOwn (dLstO (dCons (dTup (dCons (dTup (dCons (dC (.int 0)) dNil)) (dCons (dTup (dCons (dC (.int 0)) (dCons (dC (.int 0)) dNil))) dNil))) dNil))) dNil))) xNo) (xSeq (dIf (dB (d2 eqD (dVar 0) (dC (.int 3)))) dNever dNext) (xEither (xIf2 (dB (d2 eqD (dVar 0) (dC (.int 4)))) (xCall 1 Xfewest_settling_BadGame (dCons (dTup (dCons (dC (.int 3)) (dCons (dC (.int 3)) dNil))) dNil)) xNo) (xSeq (dIf (dB (d2 eqD (dVar 0) (dC (.int 4)))) dNever dNext) (xCall 2 Xread_BadGame (dCons (dTup (dCons (dC (.int 1)) (dCons (dC (.int 1)) dNil))) (dCons (dC (.str (PySem.Str.ofString "a"))) dNil)))))))))))))
noncomputable def Bchecked_code : DSt -> Option DFlow := (dSeq (dIf (dNotT (dTru (dOwnCall 2 Fis_code (dCons (dVar 0) (dCons (dVar 1) dNil))))) dNever dNext) (dRet (dVar 1)))
noncomputable def Fchecked_code : List PyData -> Option PyData := runD 2 Bchecked_code
noncomputable def Xchecked_code_BadCode : List PyData -> Bool := runX 2 (xIf2 (dNotT (dTru (dOwnCall 2 Fis_code (dCons (dVar 0) (dCons (dVar 1) dNil))))) (xRaise (dCons (dC (.str (PySem.Str.ofString "no code of the game: a tuple with a colour for each place"))) dNil)) xNo)
noncomputable def Xanswer_BadCode : List PyData -> Bool := runX 3 (xSeq (dDrop (dOwnCall 1 Fchecked_game (dCons (dVar 0) dNil))) (xEither (xCall 2 Xchecked_code_BadCode (dCons (dVar 0) (dCons (dVar 1) dNil))) (xNext (dOwnCall 2 Fchecked_code (dCons (dVar 0) (dCons (dVar 1) dNil))) (xCall 2 Xchecked_code_BadCode (dCons (dVar 0) (dCons (dVar 2) dNil))))))
noncomputable def X_law_deed_BadCode : List PyData -> Bool := runX 1 (xSeq (dIf (dB (d2 eqD (dVar 0) (dC (.int 0)))) dNever dNext) (xIf2 (dB (d2 eqD (dVar 0) (dC (.int 1)))) (xCall 3 Xanswer_BadCode (dCons (dTup (dCons (dC (.int 1)) (dCons (dC (.int 1)) dNil))) (dCons (dTup (dCons (dC (.int 0)) dNil)) (dCons (dTup (dCons (dC (.int 1)) dNil)) dNil)))) xNo))
noncomputable def Xchecked_list_BadAsk : List PyData -> Bool := runX 5 (xIf2 (dOrT (dNotT (dTru (dIsi "list" (dVar 1)))) (dB (d2 gtD (dCall lenC (dCons (dVar 1) dNil)) (dC (.int 8))))) (xRaiseI (dCons (dC (.int 0)) dNil)) xNo)
noncomputable def Xchecked_asks_BadAsk : List PyData -> Bool := runX 2 (xCall 3 Xchecked_list_BadAsk (dCons (dVar 0) (dCons (dVar 1) (dCons (dC (fnD "is_ask")) dNil))))
noncomputable def Xwhat_fits_BadAsk : List PyData -> Bool := runX 2 (xSeq (dDrop (dOwnCall 1 Fchecked_game (dCons (dVar 0) dNil))) (xCall 2 Xchecked_asks_BadAsk (dCons (dVar 0) (dCons (dVar 1) dNil))))
noncomputable def Xsettled_BadAsk : List PyData -> Bool := runX 3 (xCall 2 Xwhat_fits_BadAsk (dCons (dVar 0) (dCons (dVar 1) dNil)))
noncomputable def X_law_deed_BadAsk : List PyData -> Bool := runX 1 (xSeq (dIf (dB (d2 eqD (dVar 0) (dC (.int 0)))) dNever dNext) (xSeq (dIf (dB (d2 eqD (dVar 0) (dC (.int 1)))) dNever dNext) (xEither (xIf2 (dB (d2 eqD (dVar 0) (dC (.int 2)))) (xCall 2 Xwhat_fits_BadAsk (dCons (dTup (dCons (dC (.int 1)) (dCons (dC (.int 1)) dNil))) (dCons (dC .none) dNil))) xNo) (xSeq (dIf (dB (d2 eqD (dVar 0) (dC (.int 2)))) dNever dNext) (xIf2 (dB (d2 eqD (dVar 0) (dC (.int 3)))) (xCall 2 Xsettled_BadAsk (dCons (dTup (dCons (dC (.int 1)) (dCons (dC (.int 1)) dNil))) (dCons (dOwn (dLstO (dCons (dTup (dCons (dTup (dCons (dC (.int 0)) dNil)) (dCons (dTup (dCons (dC (.int 0)) (dCons (dC (.int 0)) dNil))) dNil))) dNil))) dNil))) xNo)))))
noncomputable def Ball_codes : DSt -> Option DFlow := (dSeq (dDrop (dOwnCall 1 Fchecked_game (dCons (dVar 0) dNil))) (dSeq (dSet 1 (dOwn (dLstO (dCons (dTup dNil) dNil)))) (dSeq (dFor (dRng1 (dCons (d2 ixD (dVar 0) (dC (.int 0))) dNil)) (gN 2) (dSeq (dSetO 3 (dLstO dNil)) (dSeq (dFor (dIter (dVar 1)) (gN 4) (dExtend 3 (dOwn (dCompO 1 [("code", 4)] (dRng1 (dCons (d2 ixD (dVar 0) (dC (.int 1))) dNil)) (gN 0) dYes (d2 addD (dVar 1) (dTup (dCons (dVar 0) dNil))))))) (dFrz 3 (dSet 1 (dVar 3)))))) (dRet (dVar 1)))))
noncomputable def Fall_codes : List PyData -> Option PyData := runD 5 Ball_codes
noncomputable def Bwhat_fits : DSt -> Option DFlow := (dSeq (dDrop (dOwnCall 1 Fchecked_game (dCons (dVar 0) dNil))) (dSeq (dDrop (dOwnCall 2 Fchecked_asks (dCons (dVar 0) (dCons (dVar 1) dNil)))) (dRet (dOwnCall 2 Fthose_that_fit (dCons (dOwnCall 1 Fall_codes (dCons (dVar 0) dNil)) (dCons (dVar 1) dNil))))))
noncomputable def Fwhat_fits : List PyData -> Option PyData := runD 2 Bwhat_fits
noncomputable def Xfound_or_clash_Clash : List PyData -> Bool := runX 1 (xIf2 (dNotT (dTru (dVar 0))) (xRaise (dCons (dC (.str (PySem.Str.ofString "no code fits these asks"))) dNil)) xNo)
noncomputable def Xsettled_Clash : List PyData -> Bool := runX 3 (xCall 1 Xfound_or_clash_Clash (dCons (dOwnCall 2 Fwhat_fits (dCons (dVar 0) (dCons (dVar 1) dNil))) dNil))
noncomputable def X_law_deed_Clash : List PyData -> Bool := runX 1 (xSeq (dIf (dB (d2 eqD (dVar 0) (dC (.int 0)))) dNever dNext) (xSeq (dIf (dB (d2 eqD (dVar 0) (dC (.int 1)))) dNever dNext) (xSeq (dIf (dB (d2 eqD (dVar 0) (dC (.int 2)))) dNever dNext) (xIf2 (dB (d2 eqD (dVar 0) (dC (.int 3)))) (xCall 2 Xsettled_Clash (dCons (dTup (dCons (dC (.int 1)) (dCons (dC (.int 1)) dNil))) (dCons (dOwn (dLstO (dCons (dTup (dCons (dTup (dCons (dC (.int 0)) dNil)) (dCons (dTup (dCons (dC (.int 0)) (dCons (dC (.int 0)) dNil))) dNil))) dNil))) dNil))) xNo))))
noncomputable def Xsmall_game_TooBig : List PyData -> Bool := runX 1 (xIf2 (dB (d2 gtD (dOwnCall 2 Fhow_many_codes (dCons (d2 ixD (dVar 0) (dC (.int 0))) (dCons (d2 ixD (dVar 0) (dC (.int 1))) dNil))) (dC (.int 16)))) (xRaise (dCons (dC (.str (PySem.Str.ofString "a game of more than 16 codes"))) dNil)) xNo)
noncomputable def Xfewest_settling_TooBig : List PyData -> Bool := runX 4 (xSeq (dDrop (dOwnCall 1 Fchecked_game (dCons (dVar 0) dNil))) (xCall 1 Xsmall_game_TooBig (dCons (dVar 0) dNil)))
noncomputable def X_law_deed_TooBig : List PyData -> Bool := runX 1 (xSeq (dIf (dB (d2 eqD (dVar 0) (dC (.int 0)))) dNever dNext) (xSeq (dIf (dB (d2 eqD (dVar 0) (dC (.int 1)))) dNever dNext) (xSeq (dIf (dB (d2 eqD (dVar 0) (dC (.int 2)))) dNever dNext) (xSeq (dIf (dB (d2 eqD (dVar 0) (dC (.int 3)))) dNever dNext) (xIf2 (dB (d2 eqD (dVar 0) (dC (.int 4)))) (xCall 1 Xfewest_settling_TooBig (dCons (dTup (dCons (dC (.int 3)) (dCons (dC (.int 3)) dNil))) dNil)) xNo)))))
noncomputable def Xread_BadText : List PyData -> Bool := runX 4 (xSeq (dDrop (dOwnCall 1 Fchecked_game (dCons (dVar 0) dNil))) (xEither (xIf2 (dNotT (dTru (dIsi "str" (dVar 1)))) (xRaise (dCons (dC (.str (PySem.Str.ofString "no text"))) dNil)) xNo) (xSeq (dIf (dNotT (dTru (dIsi "str" (dVar 1)))) dNever dNext) (xSeq (dSetO 2 (dSplitO (dVar 1) (dC (.str (PySem.Str.ofString "\n"))))) (xSeq (dPop 3 2) (xIf2 (dOrT (dB (d2 neD (dVar 3) (dC (.str (PySem.Str.ofString ""))))) (dB (d2 gtD (dLenE 2) (dC (.int 8))))) (xRaise (dCons (dC (.str (PySem.Str.ofString "no text of at most 8 lines, each ended by a line end"))) dNil)) xNo))))))
noncomputable def X_law_deed_BadText : List PyData -> Bool := runX 1 (xSeq (dIf (dB (d2 eqD (dVar 0) (dC (.int 0)))) dNever dNext) (xSeq (dIf (dB (d2 eqD (dVar 0) (dC (.int 1)))) dNever dNext) (xSeq (dIf (dB (d2 eqD (dVar 0) (dC (.int 2)))) dNever dNext) (xSeq (dIf (dB (d2 eqD (dVar 0) (dC (.int 3)))) dNever dNext) (xSeq (dIf (dB (d2 eqD (dVar 0) (dC (.int 4)))) dNever dNext) (xCall 2 Xread_BadText (dCons (dTup (dCons (dC (.int 1)) (dCons (dC (.int 1)) dNil))) (dCons (dC (.str (PySem.Str.ofString "a"))) dNil))))))))
noncomputable def XB_law_kinds_of_BadGame : DSt -> Bool := (xCall 1 X_law_deed_BadGame (dCons (dVar 0) dNil))
noncomputable def XB_law_kinds_of_BadCode : DSt -> Bool := (xCall 1 X_law_deed_BadCode (dCons (dVar 0) dNil))
noncomputable def XB_law_kinds_of_BadAsk : DSt -> Bool := (xCall 1 X_law_deed_BadAsk (dCons (dVar 0) dNil))
noncomputable def XB_law_kinds_of_Clash : DSt -> Bool := (xCall 1 X_law_deed_Clash (dCons (dVar 0) dNil))
noncomputable def XB_law_kinds_of_TooBig : DSt -> Bool := (xCall 1 X_law_deed_TooBig (dCons (dVar 0) dNil))
noncomputable def XB_law_kinds_of_BadText : DSt -> Bool := (xCall 1 X_law_deed_BadText (dCons (dVar 0) dNil))
noncomputable def F_law_kinds_of (ds : List PyData) : Option PyData := if XB_law_kinds_of_BadGame ((stD 3 ds).set 1 (some (.ow []))) = true then some (.list [.bool true, .bool false, .bool false, .bool false, .bool false, .bool false]) else if XB_law_kinds_of_BadCode ((stD 3 ds).set 1 (some (.ow []))) = true then some (.list [.bool false, .bool true, .bool false, .bool false, .bool false, .bool false]) else if XB_law_kinds_of_BadAsk ((stD 3 ds).set 1 (some (.ow []))) = true then some (.list [.bool false, .bool false, .bool true, .bool false, .bool false, .bool false]) else if XB_law_kinds_of_Clash ((stD 3 ds).set 1 (some (.ow []))) = true then some (.list [.bool false, .bool false, .bool false, .bool true, .bool false, .bool false]) else if XB_law_kinds_of_TooBig ((stD 3 ds).set 1 (some (.ow []))) = true then some (.list [.bool false, .bool false, .bool false, .bool false, .bool true, .bool false]) else if XB_law_kinds_of_BadText ((stD 3 ds).set 1 (some (.ow []))) = true then some (.list [.bool false, .bool false, .bool false, .bool false, .bool false, .bool true]) else none
noncomputable def Blaw_1 : DSt -> Option DFlow := (dRet (d2 eqD (dOwnCall 1 F_law_kinds_of (dCons (dVar 1) dNil)) (dOwn (dCompO 1 [("_law_way", 1)] (dRng1 (dCons (dC (.int 6)) dNil)) (gN 0) dYes (d2 eqD (dVar 0) (dVar 1))))))
noncomputable def Blaw_0 : DSt -> Option DFlow := dSeq (dSet 1 (d2 modD (dOwnCall 2 F_law_cell (dCons (dVar 0) (dCons (dC (.int 0)) dNil))) (dC (.int 6)))) Blaw_1
noncomputable def Blaw : DSt -> Option DFlow := (dSeq (dSet 1 (d2 modD (dOwnCall 2 F_law_cell (dCons (dVar 0) (dCons (dC (.int 0)) dNil))) (dC (.int 6)))) (dRet (d2 eqD (dOwnCall 1 F_law_kinds_of (dCons (dVar 1) dNil)) (dOwn (dCompO 1 [("_law_way", 1)] (dRng1 (dCons (dC (.int 6)) dNil)) (gN 0) dYes (d2 eqD (dVar 0) (dVar 1)))))))
theorem Blaw_tl : Blaw = Blaw_0 := rfl
noncomputable def Flaw : List PyData -> Option PyData := runD 2 Blaw
noncomputable def cellI (ns : List Int) (k : Nat) : Int := ns.getD k 0
theorem cell_ok (ns : List Int) (k : Nat) : F_law_cell [scr ns, .int (k : Nat)] = some (.int (cellI ns k)) := by
 by_cases h : k < ns.length
 · have d : decide ((k : Int) < (ns.length : Nat)) = true := decide_eq_true (by omega)
   simp only [F_law_cell, B_law_cell_tl, B_law_cell_0, B_law_cell_1, runD, stD, dSeq, dIf, dRet, dVar, dC, d2, dCall, dNil, dCons, dB, dNext, resOf, lenC, lt_ii, zI, zL, zC, zH, Qd, zA, zB, List.replicate, zD, zG, Nat.reduceAdd, Nat.reduceSub, ↓reduceIte, lenD_scr, d, ixD_scr, atI_nat' h, cellI]
   rw [gDq, gEq h]
   rfl
 · have d : decide ((k : Int) < (ns.length : Nat)) = false := decide_eq_false (by omega)
   simp only [F_law_cell, B_law_cell_tl, B_law_cell_0, B_law_cell_1, runD, stD, dSeq, dIf, dRet, dVar, dC, d2, dCall, dNil, dCons, dB, dNext, resOf, lenC, lt_ii, zI, zL, zC, zH, Qd, zA, zB, List.replicate, zD, zG, Nat.reduceAdd, Nat.reduceSub, ↓reduceIte, zN, lenD_scr, d, cellI]
   rw [gDq, List.getElem?_eq_none (by omega)]
   rfl
noncomputable abbrev δk (n : Int) : DSt := (stD 3 [.int n]).set 1 (some (.ow []))
theorem k0 : F_law_kinds_of [.int 0] = some (.list [.bool true, .bool false, .bool false, .bool false, .bool false, .bool false]) := by
 unfold F_law_kinds_of
 rw [if_pos (show XB_law_kinds_of_BadGame (δk 0) = true by decide +kernel)]
theorem k1 : F_law_kinds_of [.int 1] = some (.list [.bool false, .bool true, .bool false, .bool false, .bool false, .bool false]) := by
 unfold F_law_kinds_of
 rw [if_neg (show ¬ XB_law_kinds_of_BadGame (δk 1) = true by decide +kernel), if_pos (show XB_law_kinds_of_BadCode (δk 1) = true by decide +kernel)]
theorem k2 : F_law_kinds_of [.int 2] = some (.list [.bool false, .bool false, .bool true, .bool false, .bool false, .bool false]) := by
 unfold F_law_kinds_of
 rw [if_neg (show ¬ XB_law_kinds_of_BadGame (δk 2) = true by decide +kernel), if_neg (show ¬ XB_law_kinds_of_BadCode (δk 2) = true by decide +kernel), if_pos (show XB_law_kinds_of_BadAsk (δk 2) = true by decide +kernel)]
theorem k3 : F_law_kinds_of [.int 3] = some (.list [.bool false, .bool false, .bool false, .bool true, .bool false, .bool false]) := by
 unfold F_law_kinds_of
 rw [if_neg (show ¬ XB_law_kinds_of_BadGame (δk 3) = true by decide +kernel), if_neg (show ¬ XB_law_kinds_of_BadCode (δk 3) = true by decide +kernel), if_neg (show ¬ XB_law_kinds_of_BadAsk (δk 3) = true by decide +kernel), if_pos (show XB_law_kinds_of_Clash (δk 3) = true by decide +kernel)]
theorem k4 : F_law_kinds_of [.int 4] = some (.list [.bool false, .bool false, .bool false, .bool false, .bool true, .bool false]) := by
 unfold F_law_kinds_of
 rw [if_neg (show ¬ XB_law_kinds_of_BadGame (δk 4) = true by decide +kernel), if_neg (show ¬ XB_law_kinds_of_BadCode (δk 4) = true by decide +kernel), if_neg (show ¬ XB_law_kinds_of_BadAsk (δk 4) = true by decide +kernel), if_neg (show ¬ XB_law_kinds_of_Clash (δk 4) = true by decide +kernel), if_pos (show XB_law_kinds_of_TooBig (δk 4) = true by decide +kernel)]
theorem k5 : F_law_kinds_of [.int 5] = some (.list [.bool false, .bool false, .bool false, .bool false, .bool false, .bool true]) := by
 unfold F_law_kinds_of
 rw [if_neg (show ¬ XB_law_kinds_of_BadGame (δk 5) = true by decide +kernel), if_neg (show ¬ XB_law_kinds_of_BadCode (δk 5) = true by decide +kernel), if_neg (show ¬ XB_law_kinds_of_BadAsk (δk 5) = true by decide +kernel), if_neg (show ¬ XB_law_kinds_of_Clash (δk 5) = true by decide +kernel), if_neg (show ¬ XB_law_kinds_of_TooBig (δk 5) = true by decide +kernel), if_pos (show XB_law_kinds_of_BadText (δk 5) = true by decide +kernel)]
theorem six {m : Int} (h : 0 <= m /\ m < 6) : m = 0 \/ m = 1 \/ m = 2 \/ m = 3 \/ m = 4 \/ m = 5 := by omega
theorem way_ok {ns : List Int} {k : Int} {l : List PyData} (h : F_law_kinds_of [.int k] = some (.list l)) (c : (dCompO 1 [("_law_way", 1)] (dRng1 (dCons (dC (.int 6)) dNil)) (gN 0) dYes (d2 eqD (dVar 0) (dVar 1))) [some (.fz (scr ns)), some (.fz (.int k))] = some l) (e : eqD (.list l) (.list l) = some (.bool true)) :
 Blaw_1 [some (.fz (scr ns)), some (.fz (.int k))] = some (.rt (.bool true)) := by
 simp only [Blaw_1, dRet, dVar, d2, dOwnCall, dNil, dCons, dOwn, zC, zH, zA, zB, zD, zG, Nat.reduceAdd, ↓reduceIte, h, c, e]
theorem law_true (ns : List Int) (hl : ns.length <= 63) : Flaw [scr ns] = some (.bool true) := by
 have c0 : F_law_cell [scr ns, .int 0] = some (.int (cellI ns 0)) := cell_ok ns 0
 have c2 : cMod (cellI ns 0) 6 = true := rfl
 have b : 0 <= cellI ns 0 % 6 /\ cellI ns 0 % 6 < 6 := ⟨Int.emod_nonneg _ (by omega), Int.emod_lt_of_pos _ (by omega)⟩
 have w : Blaw_1 [some (.fz (scr ns)), some (.fz (.int (cellI ns 0 % 6)))] = some (.rt (.bool true)) := by
  rcases six b with h | h | h | h | h | h <;> rw [h]
  · exact way_ok k0 rfl rfl
  · exact way_ok k1 rfl rfl
  · exact way_ok k2 rfl rfl
  · exact way_ok k3 rfl rfl
  · exact way_ok k4 rfl rfl
  · exact way_ok k5 rfl rfl
 simp only [Flaw, Blaw_tl, Blaw_0, runD, stD, dSeq, dSet, dVar, dC, d2, dOwnCall, dNil, dCons, resOf, mod_ii, zI, zL, zC, zH, List.cons_append, List.nil_append, zA, zE, zF, List.replicate, zD, zG, Nat.reduceAdd, Nat.reduceSub, ↓reduceIte, c0, c2, w]
noncomputable def top (i : Nat) : Stmt := PySem.Challenge.pw_guesscode_k19_refusals_stand_apart.main.body.getD i (.Pass ⟨0, 0, 0, 0⟩)
section
variable {P : Program} {w : World} {K : Fg} {mg : Str -> Option Value} {base : Heap} {f : Addr} {fd : FuncData}
noncomputable abbrev s_law_cell : Stmt := top 49
theorem sc_law_cell : FnScope ["_law_script", "_law_k"] ["_law_script", "_law_k"] (defScope s_law_cell) := fsc
noncomputable abbrev sis_pair : Stmt := top 14
theorem scis_pair : FnScope ["thing"] ["thing"] (defScope sis_pair) := fsc
noncomputable abbrev sis_number_within : Stmt := top 13
theorem scis_number_within : FnScope ["thing", "low", "high"] ["thing", "low", "high"] (defScope sis_number_within) := fsc
noncomputable abbrev show_many_codes : Stmt := top 15
theorem schow_many_codes : FnScope ["places", "colours", "codes", "place"] ["places", "colours"] (defScope show_many_codes) := fsc
noncomputable abbrev sis_game : Stmt := top 16
theorem scis_game : FnScope ["thing"] ["thing"] (defScope sis_game) := fsc
noncomputable abbrev schecked_game : Stmt := top 17
theorem scchecked_game : FnScope ["game"] ["game"] (defScope schecked_game) := fsc
noncomputable abbrev sanswer : Stmt := top 23
theorem scanswer : FnScope ["game", "hidden", "guess"] ["game", "hidden", "guess"] (defScope sanswer) := fsc
noncomputable abbrev sis_code : Stmt := top 19
theorem scis_code : FnScope ["game", "thing"] ["game", "thing"] (defScope sis_code) := fsc
noncomputable abbrev sis_answer : Stmt := top 26
theorem scis_answer : FnScope ["game", "thing"] ["game", "thing"] (defScope sis_answer) := fsc
noncomputable abbrev sis_ask : Stmt := top 27
theorem scis_ask : FnScope ["game", "thing"] ["game", "thing"] (defScope sis_ask) := fsc
noncomputable abbrev schecked_list : Stmt := top 28
theorem scchecked_list : FnScope ["game", "things", "is_one", "at", "thing"] ["game", "things", "is_one"] (defScope schecked_list) := fsc
noncomputable abbrev schecked_asks : Stmt := top 29
theorem scchecked_asks : FnScope ["game", "asks"] ["game", "asks"] (defScope schecked_asks) := fsc
noncomputable abbrev sanswer_of : Stmt := top 22
theorem scanswer_of : FnScope ["hidden", "guess", "right", "shared", "unmatched", "place", "colour"] ["hidden", "guess"] (defScope sanswer_of) := fsc
noncomputable abbrev sfits_ask : Stmt := top 30
theorem scfits_ask : FnScope ["code", "ask"] ["code", "ask"] (defScope sfits_ask) := fsc
noncomputable abbrev sthose_that_fit : Stmt := top 31
theorem scthose_that_fit : FnScope ["codes", "asks", "fitting", "ask"] ["codes", "asks"] (defScope sthose_that_fit) := fsc
noncomputable abbrev sall_codes : Stmt := top 21
theorem scall_codes : FnScope ["game", "codes", "place", "longer", "code"] ["game"] (defScope sall_codes) := fsc
noncomputable abbrev swhat_fits : Stmt := top 32
theorem scwhat_fits : FnScope ["game", "asks"] ["game", "asks"] (defScope swhat_fits) := fsc
noncomputable abbrev sfound_or_clash : Stmt := top 33
theorem scfound_or_clash : FnScope ["found"] ["found"] (defScope sfound_or_clash) := fsc
noncomputable abbrev ssettled : Stmt := top 35
theorem scsettled : FnScope ["game", "asks", "fitting"] ["game", "asks"] (defScope ssettled) := fsc
noncomputable abbrev ssmall_game : Stmt := top 18
theorem scsmall_game : FnScope ["game"] ["game"] (defScope ssmall_game) := fsc
noncomputable abbrev sfewest_settling : Stmt := top 40
theorem scfewest_settling : FnScope ["game", "codes", "size", "guesses"] ["game"] (defScope sfewest_settling) := fsc
noncomputable abbrev sread : Stmt := top 47
theorem scread : FnScope ["game", "text", "lines", "ending"] ["game", "text"] (defScope sread) := fsc
noncomputable abbrev s_law_deed : Stmt := top 50
theorem sc_law_deed : FnScope ["_law_way"] ["_law_way"] (defScope s_law_deed) := fsc
noncomputable abbrev schecked_code : Stmt := top 20
theorem scchecked_code : FnScope ["game", "code"] ["game", "code"] (defScope schecked_code) := fsc
noncomputable abbrev s_law_kinds_of : Stmt := top 51
theorem sc_law_kinds_of : FnScope ["_law_way", "_law_some", "e"] ["_law_way"] (defScope s_law_kinds_of) := fsc
noncomputable abbrev slaw : Stmt := top 52
theorem sclaw : FnScope ["_law_script", "_law_way"] ["_law_script"] (defScope slaw) := fsc
abbrev W_law_cell (P : Program) (w : World) (K : Fg) (mg : Str -> Option Value) (base : Heap) : Prop := Own P w K mg base 1 "_law_cell" ["_law_script", "_law_k"] (spD K 2 F_law_cell)
abbrev Wis_pair (P : Program) (w : World) (K : Fg) (mg : Str -> Option Value) (base : Heap) : Prop := Own P w K mg base 1 "is_pair" ["thing"] (spD K 1 Fis_pair)
abbrev Wis_number_within (P : Program) (w : World) (K : Fg) (mg : Str -> Option Value) (base : Heap) : Prop := Own P w K mg base 1 "is_number_within" ["thing", "low", "high"] (spD K 3 Fis_number_within)
abbrev Whow_many_codes (P : Program) (w : World) (K : Fg) (mg : Str -> Option Value) (base : Heap) : Prop := Own P w K mg base 1 "how_many_codes" ["places", "colours"] (spD K 2 Fhow_many_codes)
abbrev Wis_game (P : Program) (w : World) (K : Fg) (mg : Str -> Option Value) (base : Heap) : Prop := Own P w K mg base 2 "is_game" ["thing"] (spD K 1 Fis_game)
abbrev Wchecked_game (P : Program) (w : World) (K : Fg) (mg : Str -> Option Value) (base : Heap) : Prop := Own P w K mg base 3 "checked_game" ["game"] (spD K 1 Fchecked_game)
abbrev Wis_code (P : Program) (w : World) (K : Fg) (mg : Str -> Option Value) (base : Heap) : Prop := Own P w K mg base 2 "is_code" ["game", "thing"] (spD K 2 Fis_code)
abbrev Wis_answer (P : Program) (w : World) (K : Fg) (mg : Str -> Option Value) (base : Heap) : Prop := Own P w K mg base 2 "is_answer" ["game", "thing"] (spD K 2 Fis_answer)
abbrev Wchecked_list (P : Program) (w : World) (K : Fg) (mg : Str -> Option Value) (base : Heap) : Prop := Own P w K mg base 4 "checked_list" ["game", "things", "is_one"] (spD K 3 Fchecked_list)
abbrev Wchecked_asks (P : Program) (w : World) (K : Fg) (mg : Str -> Option Value) (base : Heap) : Prop := Own P w K mg base 5 "checked_asks" ["game", "asks"] (spD K 2 Fchecked_asks)
abbrev Wanswer_of (P : Program) (w : World) (K : Fg) (mg : Str -> Option Value) (base : Heap) : Prop := Own P w K mg base 1 "answer_of" ["hidden", "guess"] (spD K 2 Fanswer_of)
abbrev Wfits_ask (P : Program) (w : World) (K : Fg) (mg : Str -> Option Value) (base : Heap) : Prop := Own P w K mg base 2 "fits_ask" ["code", "ask"] (spD K 2 Ffits_ask)
abbrev Wthose_that_fit (P : Program) (w : World) (K : Fg) (mg : Str -> Option Value) (base : Heap) : Prop := Own P w K mg base 3 "those_that_fit" ["codes", "asks"] (spD K 2 Fthose_that_fit)
abbrev Wall_codes (P : Program) (w : World) (K : Fg) (mg : Str -> Option Value) (base : Heap) : Prop := Own P w K mg base 4 "all_codes" ["game"] (spD K 1 Fall_codes)
abbrev W_law_kinds_of (P : Program) (w : World) (K : Fg) (mg : Str -> Option Value) (base : Heap) : Prop := Own P w K mg base 9 "_law_kinds_of" ["_law_way"] (spD K 1 F_law_kinds_of)
noncomputable def sBadAsk_init : Stmt := match top 4 with | .ClassDef _ _ _ body _ _ _ _ _ _ _ => body.getD 0 (.Pass ⟨0, 0, 0, 0⟩) | s => s
theorem scBadAsk_init : FnScope ["self", "at"] ["self", "at"] (defScope sBadAsk_init) := fsc
theorem okBadAsk_init {C fI G : Addr} (F : Fun K "__init__" "BadAsk.__init__" sBadAsk_init f fd) (gG : mg "GuessError" = some (.ref G)) (bi : BaseI K G) (ic : excInI K C fI vmro "ValueError.__new__" = true) (l1 : PySem.W.findIn K (.ref C) "at" = some none) (l2 : PySem.W.findIn K (.ref C) "__setattr__" = some (some (.builtin "object.__setattr__"))) : FnOk P w K mg base CX0 1 f fd ["self", "at"] (spI C) := by
 refine F.ok scBadAsk_init (λ vs H Q E h => ?_) (λ cdv A outer s H vs Q E hr h => ?_)
 · obtain ⟨e, n, rfl, _⟩ := h
   rfl
 · obtain ⟨e, n, rfl, ok, he, q⟩ := h
   refine ⟨_, pss_cons (ps_expr (pe_init (g := "GuessError") gG bi ic (pa_cons (pv 0) (pa_cons (pe_joined (pj_cons pe_str (pj_cons (pe_fmtI (pv 1)) pj_nil))) pa_nil)))) (pss_one (ps_put ic l1 l2 (pv 0) (pv 1))), ?_⟩
   exact init_reads ok he q
theorem ok_law_cell (F : Fun K "_law_cell" "_law_cell" s_law_cell f fd) (B : Bt mg) : FnOk P w K mg base CX0 1 f fd ["_law_script", "_law_k"] (spD K 2 F_law_cell) :=
 fun_okD F sc_law_cell rfl rfl λ cdv A outer s H E hr => have hu := hr.units
  ⟨_, (pss_cons (ps_if (pt_cmpR op_lt (pv 1) (pe_callB (kx_lenA K) (by rfl) B.len PySem.boot_len (pa_cons (pv 0) pa_nil)) (nomark _)) (pss_one (ps_ret (pe_ix (kx_ix K) (pv 0) (pv 1) (λ _ _ => rfl)))) pss_nil) (pss_one (ps_ret pe_int))), (ss_seq (ss_if (st_test (se_op od_lt (se_var 1) (se_callB cd_len (sa_cons (se_var 0) sa_nil)))) (ss_ret (se_op od_ix (se_var 0) (se_var 1))) ss_next) (ss_ret se_int))⟩
theorem okis_pair (F : Fun K "is_pair" "is_pair" sis_pair f fd) (B : Bt mg) : FnOk P w K mg base CX0 1 f fd ["thing"] (spD K 1 Fis_pair) :=
 fun_okD F scis_pair rfl rfl λ cdv A outer s H E hr => have hu := hr.units
  ⟨_, (pss_one (ps_ret (pe_and (pe_callB (kx_isiD K) (by rfl) B.isinstance boot_isi (pa_cons (pv 0) (pa_cons (pe_bltn (v := .ty "tuple") rfl B.tuple PyProof.Rows.boot_tuple rfl) pa_nil))) (pe_one (pe_cmpR (kx_eqD K hu) (pe_callB (kx_lenA K) (by rfl) B.len PySem.boot_len (pa_cons (pv 0) pa_nil)) pe_int (nomark _)))))), (ss_ret (se_and (se_isi (se_var 0)) (se_op od_eq (se_callB cd_len (sa_cons (se_var 0) sa_nil)) se_int)))⟩
theorem okis_number_within (F : Fun K "is_number_within" "is_number_within" sis_number_within f fd) (B : Bt mg) : FnOk P w K mg base CX0 1 f fd ["thing", "low", "high"] (spD K 3 Fis_number_within) :=
 fun_okD F scis_number_within rfl rfl λ cdv A outer s H E hr => have hu := hr.units
  ⟨_, (pss_one (ps_ret (pe_and (pe_callB (kx_isiD K) (by rfl) B.isinstance boot_isi (pa_cons (pv 0) (pa_cons (pe_bltn (v := .ty "int") rfl B.int PyProof.Rows.boot_int rfl) pa_nil))) (pe_and (pe_not (pe_callB (kx_isiD K) (by rfl) B.isinstance boot_isi (pa_cons (pv 0) (pa_cons (pe_bltn (v := .ty "bool") rfl B.bool PyProof.Rows.boot_bool rfl) pa_nil)))) (pe_one (pe_chain op_le op_le (pv 1) (pv 0) (pv 2))))))), (ss_ret (se_and (se_isi (se_var 0)) (se_and (se_not (se_isi (se_var 0))) (se_chain od_le od_le (se_var 1) (se_var 0) (se_var 2)))))⟩
theorem okhow_many_codes (F : Fun K "how_many_codes" "how_many_codes" show_many_codes f fd) (B : Bt mg) : FnOk P w K mg base CX0 1 f fd ["places", "colours"] (spD K 2 Fhow_many_codes) :=
 fun_okD F schow_many_codes rfl rfl λ cdv A outer s H E hr => have hu := hr.units
  ⟨_, (pss_cons (ps_setL (i := 2) schow_many_codes.nd pe_int) (pss_cons (ps_for PassesOwn.never rfl (pi_range1 rfl B.range (pa_cons (pv 0) pa_nil)) (pg_name (i := 3) schow_many_codes.nd rfl (by first | exact Or.inl rfl | exact Or.inr rfl)) (pss_one (ps_aug (i := 2) schow_many_codes.nd rfl (by first | exact Or.inl rfl | exact Or.inr rfl) (pv 1) iop_mul))) (pss_one (ps_ret (pv 2))))), (ss_seq (ss_set 2 se_int) (ss_seq (ss_for (si_rng1 (sa_cons (se_var 0) sa_nil)) (sg_name 3) (ss_aug 2 od_mul (se_var 1))) (ss_ret (se_var 2))))⟩
theorem okis_game (F : Fun K "is_game" "is_game" sis_game f fd) (B : Bt mg) (Ois_pair : Wis_pair P w K mg base) (Ohow_many_codes : Whow_many_codes P w K mg base) (Ois_number_within : Wis_number_within P w K mg base) {tMOST_PLACES : Tok} (g_MOST_PLACES : mg "MOST_PLACES" = some (.int 5 tMOST_PLACES)) {tMOST_COLOURS : Tok} (g_MOST_COLOURS : mg "MOST_COLOURS" = some (.int 8 tMOST_COLOURS)) {tMOST_CODES : Tok} (g_MOST_CODES : mg "MOST_CODES" = some (.int 300 tMOST_CODES)) : FnOk P w K mg base CX0 2 f fd ["thing"] (spD K 1 Fis_game) :=
 fun_okD F scis_game rfl rfl λ cdv A outer s H E hr => have hu := hr.units
  ⟨_, (pss_cons (ps_if (pt_not (kx_tru K (pe_own Ois_pair hr (pa_cons (pv 0) pa_nil)))) (pss_one (ps_ret pe_bl)) pss_nil) (pss_cons (ps_if (PW.pt (pw_or (pt_not (kx_tru K (pe_own Ois_number_within hr (pa_cons (pe_ix (kx_ix K) (pv 0) pe_int (λ _ _ => rfl)) (pa_cons pe_int (pa_cons (pe_glob (v := .int 5) rfl g_MOST_PLACES ⟨_, rfl⟩) pa_nil)))))) (pw_or1 (pt_not (kx_tru K (pe_own Ois_number_within hr (pa_cons (pe_ix (kx_ix K) (pv 0) pe_int (λ _ _ => rfl)) (pa_cons pe_int (pa_cons (pe_glob (v := .int 8) rfl g_MOST_COLOURS ⟨_, rfl⟩) pa_nil))))))))) (pss_one (ps_ret pe_bl)) pss_nil) (pss_one (ps_ret (pe_cmpR op_le (pe_own Ohow_many_codes hr (pa_cons (pe_ix (kx_ix K) (pv 0) pe_int (λ _ _ => rfl)) (pa_cons (pe_ix (kx_ix K) (pv 0) pe_int (λ _ _ => rfl)) pa_nil))) (pe_glob (v := .int 300) rfl g_MOST_CODES ⟨_, rfl⟩) (nomark _)))))), (ss_seq (ss_if (st_not (st_tru (se_call (sa_cons (se_var 0) sa_nil)))) (ss_ret se_bl) ss_next) (ss_seq (ss_if (st_or (st_not (st_tru (se_call (sa_cons (se_op od_ix (se_var 0) se_int) (sa_cons se_int (sa_cons se_int sa_nil)))))) (st_not (st_tru (se_call (sa_cons (se_op od_ix (se_var 0) se_int) (sa_cons se_int (sa_cons se_int sa_nil))))))) (ss_ret se_bl) ss_next) (ss_ret (se_op od_le (se_call (sa_cons (se_op od_ix (se_var 0) se_int) (sa_cons (se_op od_ix (se_var 0) se_int) sa_nil))) se_int))))⟩
theorem okXchecked_game_BadGame {C : Addr} (F : Fun K "checked_game" "checked_game" schecked_game f fd) (B : Bt mg) (Ois_game : Own P w K mg base 2 "is_game" ["thing"] (spD K 1 Fis_game)) (gC_BadGame : mg "BadGame" = some (.ref C)) (xC_BadGame : PySem.W.excIn K C [.type "ValueError", .type "Exception", .type "BaseException", .type "object"] "ValueError.__new__" = true) : FnOk P w K mg base (CXF P w) 3 f fd ["game"] (spX K 1 C Xchecked_game_BadGame) :=
 fun_okX F scchecked_game rfl rfl λ cdv A outer s H E hr => have hu := hr.units
  ⟨_, (pss_cons (ps_if (pt_not (kx_tru K (pe_own Ois_game hr (pa_cons (pv 0) pa_nil)))) (pss_one (ps_raise gC_BadGame xC_BadGame PySem.F.excBase_ValueError (pa_cons pe_str pa_nil))) pss_any) pss_any), (sx_seq1 (sx_if (st_not (st_tru (se_call (sa_cons (se_var 0) sa_nil)))) (sx_raise (sa_cons se_str sa_nil)) sx_no))⟩
theorem okXanswer_BadGame {C : Addr} (F : Fun K "answer" "answer" sanswer f fd) (B : Bt mg) (OXchecked_game_BadGame : OwnX P w K mg base 3 "checked_game" ["game"] (spX K 1 C Xchecked_game_BadGame)) : FnOk P w K mg base (CXF P w) 4 f fd ["game", "hidden", "guess"] (spX K 3 C Xanswer_BadGame) :=
 fun_okX F scanswer rfl rfl λ cdv A outer s H E hr => have hu := hr.units
  ⟨_, (pss_cons (ps_expr (pe_ownX OXchecked_game_BadGame hr pass_flown (pa_cons (pv 0) pa_nil))) pss_any), (sx_seq1 (sx_drop (sxe_call (sa_cons (se_var 0) sa_nil))))⟩
theorem okchecked_game (F : Fun K "checked_game" "checked_game" schecked_game f fd) (B : Bt mg) (Ois_game : Wis_game P w K mg base) : FnOk P w K mg base CX0 3 f fd ["game"] (spD K 1 Fchecked_game) :=
 fun_okD F scchecked_game rfl rfl λ cdv A outer s H E hr => have hu := hr.units
  ⟨_, (pss_cons (ps_if (pt_not (kx_tru K (pe_own Ois_game hr (pa_cons (pv 0) pa_nil)))) (pss_one ps_never) pss_nil) (pss_one (ps_ret (pv 0)))), (ss_seq (ss_if (st_not (st_tru (se_call (sa_cons (se_var 0) sa_nil)))) ss_never ss_next) (ss_ret (se_var 0)))⟩
theorem okis_code (F : Fun K "is_code" "is_code" sis_code f fd) (B : Bt mg) (Ois_number_within : Wis_number_within P w K mg base) : FnOk P w K mg base CX0 2 f fd ["game", "thing"] (spD K 2 Fis_code) :=
 fun_okD F scis_code rfl rfl λ cdv A outer s H E hr => have hu := hr.units
  ⟨_, (pss_cons (ps_if (PW.pt (pw_or (pt_not (kx_tru K (pe_callB (kx_isiD K) (by rfl) B.isinstance boot_isi (pa_cons (pv 1) (pa_cons (pe_bltn (v := .ty "tuple") rfl B.tuple PyProof.Rows.boot_tuple rfl) pa_nil))))) (pw_or1 (pt_cmpR (kx_neD K hu) (pe_callB (kx_lenA K) (by rfl) B.len PySem.boot_len (pa_cons (pv 1) pa_nil)) (pe_ix (kx_ix K) (pv 0) pe_int (λ _ _ => rfl)) (nomark _))))) (pss_one (ps_ret pe_bl)) pss_nil) (pss_one (ps_ret (pe_callB (kx_all K) (by rfl) B.all PyProof.Rows.boot_all (pa_cons (pe_compC ["colour"] [("game", 0)] (kx_seq K (pv 1)) (λ _ _ _ _ => (pg_name (i := 0) (show List.Nodup (["colour", "game"] : List Str) by decide +kernel) rfl (by first | exact Or.inl rfl | exact Or.inr rfl))) (λ _ _ _ _ => pts_nil) (λ _ _ _ _ => (pe_own Ois_number_within hr (pa_cons (pv 0) (pa_cons pe_int (pa_cons (pe_op op_sub (pe_ix (kx_ix K) (pv 1) pe_int (λ _ _ => rfl)) pe_int) pa_nil)))))) pa_nil))))), (ss_seq (ss_if (st_or (st_not (st_tru (se_isi (se_var 1)))) (st_test (se_op od_ne (se_callB cd_len (sa_cons (se_var 1) sa_nil)) (se_op od_ix (se_var 0) se_int)))) (ss_ret se_bl) ss_next) (ss_ret (se_callB cd_all (sa_cons (se_own (so_comp (si_seq (se_var 1)) (sg_name 0) low_name st_yes (se_call (sa_cons (se_var 0) (sa_cons se_int (sa_cons (se_op od_sub (se_op od_ix (se_var 1) se_int) se_int) sa_nil)))))) sa_nil))))⟩
theorem okis_answer (F : Fun K "is_answer" "is_answer" sis_answer f fd) (B : Bt mg) (Ois_pair : Wis_pair P w K mg base) (Ois_number_within : Wis_number_within P w K mg base) : FnOk P w K mg base CX0 2 f fd ["game", "thing"] (spD K 2 Fis_answer) :=
 fun_okD F scis_answer rfl rfl λ cdv A outer s H E hr => have hu := hr.units
  ⟨_, (pss_one (ps_ret (pe_and (pe_own Ois_pair hr (pa_cons (pv 1) pa_nil)) (pe_one (pe_callB (kx_all K) (by rfl) B.all PyProof.Rows.boot_all (pa_cons (pe_compC ["number"] [("game", 0)] (kx_seq K (pv 1)) (λ _ _ _ _ => (pg_name (i := 0) (show List.Nodup (["number", "game"] : List Str) by decide +kernel) rfl (by first | exact Or.inl rfl | exact Or.inr rfl))) (λ _ _ _ _ => pts_nil) (λ _ _ _ _ => (pe_own Ois_number_within hr (pa_cons (pv 0) (pa_cons pe_int (pa_cons (pe_ix (kx_ix K) (pv 1) pe_int (λ _ _ => rfl)) pa_nil)))))) pa_nil)))))), (ss_ret (se_and (se_call (sa_cons (se_var 1) sa_nil)) (se_callB cd_all (sa_cons (se_own (so_comp (si_seq (se_var 1)) (sg_name 0) low_name st_yes (se_call (sa_cons (se_var 0) (sa_cons se_int (sa_cons (se_op od_ix (se_var 1) se_int) sa_nil)))))) sa_nil))))⟩
theorem okis_ask (F : Fun K "is_ask" "is_ask" sis_ask f fd) (B : Bt mg) (Ois_pair : Wis_pair P w K mg base) (Ois_code : Wis_code P w K mg base) (Ois_answer : Wis_answer P w K mg base) : FnOk P w K mg base CX0 3 f fd ["game", "thing"] (spD K 2 Fis_ask) :=
 fun_okD F scis_ask rfl rfl λ cdv A outer s H E hr => have hu := hr.units
  ⟨_, (pss_one (ps_ret (pe_and (pe_own Ois_pair hr (pa_cons (pv 1) pa_nil)) (pe_and (pe_own Ois_code hr (pa_cons (pv 0) (pa_cons (pe_ix (kx_ix K) (pv 1) pe_int (λ _ _ => rfl)) pa_nil))) (pe_one (pe_own Ois_answer hr (pa_cons (pv 0) (pa_cons (pe_ix (kx_ix K) (pv 1) pe_int (λ _ _ => rfl)) pa_nil)))))))), (ss_ret (se_and (se_call (sa_cons (se_var 1) sa_nil)) (se_and (se_call (sa_cons (se_var 0) (sa_cons (se_op od_ix (se_var 1) se_int) sa_nil))) (se_call (sa_cons (se_var 0) (sa_cons (se_op od_ix (se_var 1) se_int) sa_nil))))))⟩
theorem okchecked_list (F : Fun K "checked_list" "checked_list" schecked_list f fd) (B : Bt mg) (Nis_ask : OwnN P w K mg base 3 "is_ask" ["game", "thing"] (spD K 2 Fis_ask)) {tMOST_ASKS : Tok} (g_MOST_ASKS : mg "MOST_ASKS" = some (.int 8 tMOST_ASKS)) : FnOk P w K mg base CX0 4 f fd ["game", "things", "is_one"] (spD K 3 Fchecked_list) :=
 fun_okD F scchecked_list rfl rfl λ cdv A outer s H E hr => have hu := hr.units
  ⟨_, (pss_cons (ps_if (PW.pt (pw_or (pt_not (kx_tru K (pe_callB (kx_isiD K) (by rfl) B.isinstance boot_isi (pa_cons (pv 1) (pa_cons (pe_bltn (v := .ty "list") rfl B.list PyProof.Rows.boot_list rfl) pa_nil))))) (pw_or1 (pt_cmpR op_gt (pe_callB (kx_lenA K) (by rfl) B.len PySem.boot_len (pa_cons (pv 1) pa_nil)) (pe_glob (v := .int 8) rfl g_MOST_ASKS ⟨_, rfl⟩) (nomark _))))) (pss_one ps_never) pss_nil) (pss_cons (ps_for PassesOwn.never rfl (kx_en K B.enumerate (pa_cons (pv 1) pa_nil)) (kx_pair K (pgs_cons (pg_name (i := 3) scchecked_list.nd rfl (by first | exact Or.inl rfl | exact Or.inr rfl)) (pgs_cons (pg_name (i := 4) scchecked_list.nd rfl (by first | exact Or.inl rfl | exact Or.inr rfl)) pgs_nil))) (pss_one (ps_if (pt_not (kx_tru K (pe_ownV Nis_ask hr (pv 2) (pa_cons (pv 0) (pa_cons (pv 4) pa_nil))))) (pss_one ps_never) pss_nil))) (pss_one (ps_ret (pv 1))))), (ss_seq (ss_if (st_or (st_not (st_tru (se_isi (se_var 1)))) (st_test (se_op od_gt (se_callB cd_len (sa_cons (se_var 1) sa_nil)) se_int))) ss_never ss_next) (ss_seq (ss_for (si_en (sa_cons (se_var 1) sa_nil)) (sg_tup (sgs_cons (sg_name 3) (sgs_cons (sg_name 4) sgs_nil))) (ss_if (st_not (st_tru (se_callV (sa_cons (se_var 0) (sa_cons (se_var 4) sa_nil))))) ss_never ss_next)) (ss_ret (se_var 1))))⟩
theorem okchecked_asks (F : Fun K "checked_asks" "checked_asks" schecked_asks f fd) (B : Bt mg) (Ochecked_list : Wchecked_list P w K mg base) {Ais_ask : Addr} (mis_ask : mg "is_ask" = some (.ref Ais_ask)) (nis_ask : PySem.W.nsIn K mainGlobals "is_ask" = some (some (.ref Ais_ask))) : FnOk P w K mg base CX0 5 f fd ["game", "asks"] (spD K 2 Fchecked_asks) :=
 fun_okD F scchecked_asks rfl rfl λ cdv A outer s H E hr => have hu := hr.units
  ⟨_, (pss_one (ps_ret (pe_own Ochecked_list hr (pa_cons (pv 0) (pa_cons (pv 1) (pa_cons (pe_glob (v := .ref Ais_ask) rfl mis_ask rfl) pa_nil)))))), (ss_ret (se_call (sa_cons (se_var 0) (sa_cons (se_var 1) (sa_cons (se_fn nis_ask) sa_nil)))))⟩
theorem okanswer_of (F : Fun K "answer_of" "answer_of" sanswer_of f fd) (B : Bt mg) : FnOk P w K mg base CX0 1 f fd ["hidden", "guess"] (spD K 2 Fanswer_of) :=
 fun_okD F scanswer_of rfl rfl λ cdv A outer s H E hr => have hu := hr.units
  ⟨_, (pss_cons (ps_setL (i := 2) scanswer_of.nd pe_int) (pss_cons (ps_setL (i := 3) scanswer_of.nd pe_int) (pss_cons (ps_setL (i := 4) scanswer_of.nd (pe_callTy (kx_list K) (by rfl) B.list PyProof.Rows.boot_list (pa_cons (pv 0) pa_nil))) (pss_cons (ps_for PassesOwn.never rfl (kx_en K B.enumerate (pa_cons (pv 1) pa_nil)) (kx_pair K (pgs_cons (pg_name (i := 5) scanswer_of.nd rfl (by first | exact Or.inl rfl | exact Or.inr rfl)) (pgs_cons (pg_name (i := 6) scanswer_of.nd rfl (by first | exact Or.inl rfl | exact Or.inr rfl)) pgs_nil))) (pss_cons (ps_if (pt_cmpR (kx_eqD K hu) (pe_ix (kx_ix K) (pv 0) (pv 5) (λ _ _ => rfl)) (pv 6) (nomark _)) (pss_one (ps_aug (i := 2) scanswer_of.nd rfl (by first | exact Or.inl rfl | exact Or.inr rfl) pe_int iop_add)) pss_nil) (pss_one (ps_if (pt_cmpR (kx_in K) (pv 6) (pv 4) (by rfl)) (pss_cons (ps_expr (pe_bm PySem.F.plainAttrs_list PySem.F.slot_list_remove PySem.F.type_list_remove mt_remove (pv 4) (pa_cons (pv 6) pa_nil))) (pss_one (ps_aug (i := 3) scanswer_of.nd rfl (by first | exact Or.inl rfl | exact Or.inr rfl) pe_int iop_add))) pss_nil)))) (pss_one (ps_ret (pe_tup (pa_cons (pv 2) (pa_cons (pe_op op_sub (pv 3) (pv 2)) pa_nil))))))))), (ss_seq (ss_set 2 se_int) (ss_seq (ss_set 3 se_int) (ss_seq (ss_setO 4 (so_listOf (sa_cons (se_var 0) sa_nil))) (ss_seq (ss_for (si_en (sa_cons (se_var 1) sa_nil)) (sg_tup (sgs_cons (sg_name 5) (sgs_cons (sg_name 6) sgs_nil))) (ss_seq (ss_if (st_test (se_op od_eq (se_op od_ix (se_var 0) (se_var 5)) (se_var 6))) (ss_aug 2 od_iadd se_int) ss_next) (ss_if (st_test (se_inO false 4 (se_var 6))) (ss_seq (ss_remove 4 (se_var 6)) (ss_aug 3 od_iadd se_int)) ss_next))) (ss_ret (se_tup (sa_cons (se_var 2) (sa_cons (se_op od_sub (se_var 3) (se_var 2)) sa_nil))))))))⟩
theorem okfits_ask (F : Fun K "fits_ask" "fits_ask" sfits_ask f fd) (B : Bt mg) (Oanswer_of : Wanswer_of P w K mg base) : FnOk P w K mg base CX0 2 f fd ["code", "ask"] (spD K 2 Ffits_ask) :=
 fun_okD F scfits_ask rfl rfl λ cdv A outer s H E hr => have hu := hr.units
  ⟨_, (pss_one (ps_ret (pe_cmpR (kx_eqD K hu) (pe_own Oanswer_of hr (pa_cons (pv 0) (pa_cons (pe_ix (kx_ix K) (pv 1) pe_int (λ _ _ => rfl)) pa_nil))) (pe_ix (kx_ix K) (pv 1) pe_int (λ _ _ => rfl)) (nomark _)))), (ss_ret (se_op od_eq (se_call (sa_cons (se_var 0) (sa_cons (se_op od_ix (se_var 1) se_int) sa_nil))) (se_op od_ix (se_var 1) se_int)))⟩
theorem okthose_that_fit (F : Fun K "those_that_fit" "those_that_fit" sthose_that_fit f fd) (B : Bt mg) (Ofits_ask : Wfits_ask P w K mg base) : FnOk P w K mg base CX0 3 f fd ["codes", "asks"] (spD K 2 Fthose_that_fit) :=
 fun_okD F scthose_that_fit rfl rfl λ cdv A outer s H E hr => have hu := hr.units
  ⟨_, (pss_cons (ps_setL (i := 2) scthose_that_fit.nd (pv 0)) (pss_cons (ps_for PassesOwn.never rfl (kx_seq K (pv 1)) (pg_name (i := 3) scthose_that_fit.nd rfl (by first | exact Or.inl rfl | exact Or.inr rfl)) (pss_one (ps_setC (i := 2) ["code"] [("ask", 3)] scthose_that_fit.nd rfl (by first | exact Or.inl rfl | exact Or.inr rfl) (kx_seq K (pv 2)) (λ _ _ _ _ => (pg_name (i := 0) (show List.Nodup (["code", "ask"] : List Str) by decide +kernel) rfl (by first | exact Or.inl rfl | exact Or.inr rfl))) (λ _ _ _ _ => (pts_one (kx_tru K (pe_own Ofits_ask hr (pa_cons (pv 0) (pa_cons (pv 1) pa_nil)))))) (λ _ _ _ _ => (pv 0))))) (pss_one (ps_ret (pv 2))))), (ss_seq (ss_set 2 (se_var 0)) (ss_seq (ss_for (si_seq (se_var 1)) (sg_name 3) (ss_set 2 (se_own (so_comp (si_seq (se_var 2)) (sg_name 0) low_name (st_tru (se_call (sa_cons (se_var 0) (sa_cons (se_var 1) sa_nil)))) (se_var 0))))) (ss_ret (se_var 2))))⟩
theorem okXall_codes_BadGame {C : Addr} (F : Fun K "all_codes" "all_codes" sall_codes f fd) (B : Bt mg) (OXchecked_game_BadGame : OwnX P w K mg base 3 "checked_game" ["game"] (spX K 1 C Xchecked_game_BadGame)) : FnOk P w K mg base (CXF P w) 4 f fd ["game"] (spX K 1 C Xall_codes_BadGame) :=
 fun_okX F scall_codes rfl rfl λ cdv A outer s H E hr => have hu := hr.units
  ⟨_, (pss_cons (ps_expr (pe_ownX OXchecked_game_BadGame hr pass_flown (pa_cons (pv 0) pa_nil))) pss_any), (sx_seq1 (sx_drop (sxe_call (sa_cons (se_var 0) sa_nil))))⟩
theorem okXwhat_fits_BadGame {C : Addr} (F : Fun K "what_fits" "what_fits" swhat_fits f fd) (B : Bt mg) (Ochecked_game : Own P w K mg base 3 "checked_game" ["game"] (spD K 1 Fchecked_game)) (Ochecked_asks : Own P w K mg base 5 "checked_asks" ["game", "asks"] (spD K 2 Fchecked_asks)) (Othose_that_fit : Own P w K mg base 3 "those_that_fit" ["codes", "asks"] (spD K 2 Fthose_that_fit)) (OXchecked_game_BadGame : OwnX P w K mg base 3 "checked_game" ["game"] (spX K 1 C Xchecked_game_BadGame)) (OXall_codes_BadGame : OwnX P w K mg base 4 "all_codes" ["game"] (spX K 1 C Xall_codes_BadGame)) : FnOk P w K mg base (CXF P w) 6 f fd ["game", "asks"] (spX K 2 C Xwhat_fits_BadGame) :=
 fun_okX F scwhat_fits rfl rfl λ cdv A outer s H E hr => have hu := hr.units
  ⟨_, (pss_either (pss_cons (ps_expr (pe_ownX OXchecked_game_BadGame hr pass_flown (pa_cons (pv 0) pa_nil))) pss_any) (pss_cons (ps_expr (pe_own Ochecked_game hr (pa_cons (pv 0) pa_nil))) (pss_cons (ps_expr (pe_own Ochecked_asks hr (pa_cons (pv 0) (pa_cons (pv 1) pa_nil)))) (pss_one (ps_ret (pe_own Othose_that_fit hr (pa_cons (pe_ownX OXall_codes_BadGame hr pass_flown (pa_cons (pv 0) pa_nil)) pa_any))))))), (sx_either (sx_seq1 (sx_drop (sxe_call (sa_cons (se_var 0) sa_nil)))) (sx_seq2 (ss_drop (se_call (sa_cons (se_var 0) sa_nil))) (sx_seq2 (ss_drop (se_call (sa_cons (se_var 0) (sa_cons (se_var 1) sa_nil)))) (sx_ret (sxe_arg (sxa_here (sxe_call (sa_cons (se_var 0) sa_nil))))))))⟩
theorem okfound_or_clash (F : Fun K "found_or_clash" "found_or_clash" sfound_or_clash f fd) (B : Bt mg) : FnOk P w K mg base CX0 1 f fd ["found"] (spD K 1 Ffound_or_clash) :=
 fun_okD F scfound_or_clash rfl rfl λ cdv A outer s H E hr => have hu := hr.units
  ⟨_, (pss_cons (ps_if (pt_not (kx_tru K (pv 0))) (pss_one ps_never) pss_nil) (pss_one (ps_ret (pv 0)))), (ss_seq (ss_if (st_not (st_tru (se_var 0))) ss_never ss_next) (ss_ret (se_var 0)))⟩
theorem okXsettled_BadGame {C : Addr} (F : Fun K "settled" "settled" ssettled f fd) (B : Bt mg) (Ofound_or_clash : Own P w K mg base 1 "found_or_clash" ["found"] (spD K 1 Ffound_or_clash)) (OXwhat_fits_BadGame : OwnX P w K mg base 6 "what_fits" ["game", "asks"] (spX K 2 C Xwhat_fits_BadGame)) : FnOk P w K mg base (CXF P w) 7 f fd ["game", "asks"] (spX K 2 C Xsettled_BadGame) :=
 fun_okX F scsettled rfl rfl λ cdv A outer s H E hr => have hu := hr.units
  ⟨_, (pss_cons (ps_setL (i := 2) scsettled.nd (pe_own Ofound_or_clash hr (pa_cons (pe_ownX OXwhat_fits_BadGame hr pass_flown (pa_cons (pv 0) (pa_cons (pv 1) pa_nil))) pa_any))) pss_any), (sx_seq1 (sx_asg (sxe_arg (sxa_here (sxe_call (sa_cons (se_var 0) (sa_cons (se_var 1) sa_nil)))))))⟩
theorem oksmall_game (F : Fun K "small_game" "small_game" ssmall_game f fd) (B : Bt mg) (Ohow_many_codes : Whow_many_codes P w K mg base) {tMOST_CODES_SEARCHED : Tok} (g_MOST_CODES_SEARCHED : mg "MOST_CODES_SEARCHED" = some (.int 16 tMOST_CODES_SEARCHED)) : FnOk P w K mg base CX0 2 f fd ["game"] (spD K 1 Fsmall_game) :=
 fun_okD F scsmall_game rfl rfl λ cdv A outer s H E hr => have hu := hr.units
  ⟨_, (pss_cons (ps_if (pt_cmpR op_gt (pe_own Ohow_many_codes hr (pa_cons (pe_ix (kx_ix K) (pv 0) pe_int (λ _ _ => rfl)) (pa_cons (pe_ix (kx_ix K) (pv 0) pe_int (λ _ _ => rfl)) pa_nil))) (pe_glob (v := .int 16) rfl g_MOST_CODES_SEARCHED ⟨_, rfl⟩) (nomark _)) (pss_one ps_never) pss_nil) (pss_one (ps_ret (pv 0)))), (ss_seq (ss_if (st_test (se_op od_gt (se_call (sa_cons (se_op od_ix (se_var 0) se_int) (sa_cons (se_op od_ix (se_var 0) se_int) sa_nil))) se_int)) ss_never ss_next) (ss_ret (se_var 0)))⟩
theorem okXfewest_settling_BadGame {C : Addr} (F : Fun K "fewest_settling" "fewest_settling" sfewest_settling f fd) (B : Bt mg) (Ochecked_game : Own P w K mg base 3 "checked_game" ["game"] (spD K 1 Fchecked_game)) (Osmall_game : Own P w K mg base 2 "small_game" ["game"] (spD K 1 Fsmall_game)) (OXchecked_game_BadGame : OwnX P w K mg base 3 "checked_game" ["game"] (spX K 1 C Xchecked_game_BadGame)) (OXall_codes_BadGame : OwnX P w K mg base 4 "all_codes" ["game"] (spX K 1 C Xall_codes_BadGame)) : FnOk P w K mg base (CXF P w) 5 f fd ["game"] (spX K 1 C Xfewest_settling_BadGame) :=
 fun_okX F scfewest_settling rfl rfl λ cdv A outer s H E hr => have hu := hr.units
  ⟨_, (pss_either (pss_cons (ps_expr (pe_ownX OXchecked_game_BadGame hr pass_flown (pa_cons (pv 0) pa_nil))) pss_any) (pss_cons (ps_expr (pe_own Ochecked_game hr (pa_cons (pv 0) pa_nil))) (pss_cons (ps_expr (pe_own Osmall_game hr (pa_cons (pv 0) pa_nil))) (pss_cons (ps_setL (i := 1) scfewest_settling.nd (pe_ownX OXall_codes_BadGame hr pass_flown (pa_cons (pv 0) pa_nil))) pss_any)))), (sx_either (sx_seq1 (sx_drop (sxe_call (sa_cons (se_var 0) sa_nil)))) (sx_seq2 (ss_drop (se_call (sa_cons (se_var 0) sa_nil))) (sx_seq2 (ss_drop (se_call (sa_cons (se_var 0) sa_nil))) (sx_seq1 (sx_asg (sxe_call (sa_cons (se_var 0) sa_nil)))))))⟩
theorem okXread_BadGame {C : Addr} (F : Fun K "read" "read" sread f fd) (B : Bt mg) (OXchecked_game_BadGame : OwnX P w K mg base 3 "checked_game" ["game"] (spX K 1 C Xchecked_game_BadGame)) : FnOk P w K mg base (CXF P w) 5 f fd ["game", "text"] (spX K 2 C Xread_BadGame) :=
 fun_okX F scread rfl rfl λ cdv A outer s H E hr => have hu := hr.units
  ⟨_, (pss_cons (ps_expr (pe_ownX OXchecked_game_BadGame hr pass_flown (pa_cons (pv 0) pa_nil))) pss_any), (sx_seq1 (sx_drop (sxe_call (sa_cons (se_var 0) sa_nil))))⟩
theorem okX_law_deed_BadGame {C : Addr} (F : Fun K "_law_deed" "_law_deed" s_law_deed f fd) (B : Bt mg) (OXchecked_game_BadGame : OwnX P w K mg base 3 "checked_game" ["game"] (spX K 1 C Xchecked_game_BadGame)) (OXanswer_BadGame : OwnX P w K mg base 4 "answer" ["game", "hidden", "guess"] (spX K 3 C Xanswer_BadGame)) (OXwhat_fits_BadGame : OwnX P w K mg base 6 "what_fits" ["game", "asks"] (spX K 2 C Xwhat_fits_BadGame)) (OXsettled_BadGame : OwnX P w K mg base 7 "settled" ["game", "asks"] (spX K 2 C Xsettled_BadGame)) (OXfewest_settling_BadGame : OwnX P w K mg base 5 "fewest_settling" ["game"] (spX K 1 C Xfewest_settling_BadGame)) (OXread_BadGame : OwnX P w K mg base 5 "read" ["game", "text"] (spX K 2 C Xread_BadGame)) : FnOk P w K mg base (CXF P w) 8 f fd ["_law_way"] (spX K 1 C X_law_deed_BadGame) :=
 fun_okX F sc_law_deed rfl rfl λ cdv A outer s H E hr => have hu := hr.units
  ⟨_, (pss_either (pss_cons (ps_if (pt_cmpR (kx_eqD K hu) (pv 0) pe_int (nomark _)) (pss_one (ps_ret (pe_ownX OXchecked_game_BadGame hr pass_flown (pa_cons (pe_tup (pa_cons pe_int (pa_cons pe_int pa_nil))) pa_nil)))) pss_any) pss_any) (pss_cons (ps_if (pt_cmpR (kx_eqD K hu) (pv 0) pe_int (nomark _)) pss_any pss_nil) (pss_either (pss_cons (ps_if (pt_cmpR (kx_eqD K hu) (pv 0) pe_int (nomark _)) (pss_one (ps_ret (pe_ownX OXanswer_BadGame hr pass_flown (pa_cons (pe_tup (pa_cons pe_int (pa_cons pe_int pa_nil))) (pa_cons (pe_tup (pa_cons pe_int pa_nil)) (pa_cons (pe_tup (pa_cons pe_int pa_nil)) pa_nil)))))) pss_any) pss_any) (pss_cons (ps_if (pt_cmpR (kx_eqD K hu) (pv 0) pe_int (nomark _)) pss_any pss_nil) (pss_either (pss_cons (ps_if (pt_cmpR (kx_eqD K hu) (pv 0) pe_int (nomark _)) (pss_one (ps_ret (pe_ownX OXwhat_fits_BadGame hr pass_flown (pa_cons (pe_tup (pa_cons pe_int (pa_cons pe_int pa_nil))) (pa_cons pe_non pa_nil))))) pss_any) pss_any) (pss_cons (ps_if (pt_cmpR (kx_eqD K hu) (pv 0) pe_int (nomark _)) pss_any pss_nil) (pss_either (pss_cons (ps_if (pt_cmpR (kx_eqD K hu) (pv 0) pe_int (nomark _)) (pss_one (ps_ret (pe_ownX OXsettled_BadGame hr pass_flown (pa_cons (pe_tup (pa_cons pe_int (pa_cons pe_int pa_nil))) (pa_cons (pe_lst (pa_cons (pe_tup (pa_cons (pe_tup (pa_cons pe_int pa_nil)) (pa_cons (pe_tup (pa_cons pe_int (pa_cons pe_int pa_nil))) pa_nil))) pa_nil)) pa_nil))))) pss_any) pss_any) (pss_cons (ps_if (pt_cmpR (kx_eqD K hu) (pv 0) pe_int (nomark _)) pss_any pss_nil) (pss_either (pss_cons (ps_if (pt_cmpR (kx_eqD K hu) (pv 0) pe_int (nomark _)) (pss_one (ps_ret (pe_ownX OXfewest_settling_BadGame hr pass_flown (pa_cons (pe_tup (pa_cons pe_int (pa_cons pe_int pa_nil))) pa_nil)))) pss_any) pss_any) (pss_cons (ps_if (pt_cmpR (kx_eqD K hu) (pv 0) pe_int (nomark _)) pss_any pss_nil) (pss_one (ps_ret (pe_ownX OXread_BadGame hr pass_flown (pa_cons (pe_tup (pa_cons pe_int (pa_cons pe_int pa_nil))) (pa_cons pe_str pa_nil))))))))))))))), (sx_either (sx_seq1 (sx_if (st_test (se_op od_eq (se_var 0) se_int)) (sx_ret (sxe_call (sa_cons (se_tup (sa_cons se_int (sa_cons se_int sa_nil))) sa_nil))) sx_no)) (sx_seq2 (ss_if (st_test (se_op od_eq (se_var 0) se_int)) ss_any ss_next) (sx_either (sx_seq1 (sx_if (st_test (se_op od_eq (se_var 0) se_int)) (sx_ret (sxe_call (sa_cons (se_tup (sa_cons se_int (sa_cons se_int sa_nil))) (sa_cons (se_tup (sa_cons se_int sa_nil)) (sa_cons (se_tup (sa_cons se_int sa_nil)) sa_nil))))) sx_no)) (sx_seq2 (ss_if (st_test (se_op od_eq (se_var 0) se_int)) ss_any ss_next) (sx_either (sx_seq1 (sx_if (st_test (se_op od_eq (se_var 0) se_int)) (sx_ret (sxe_call (sa_cons (se_tup (sa_cons se_int (sa_cons se_int sa_nil))) (sa_cons se_non sa_nil)))) sx_no)) (sx_seq2 (ss_if (st_test (se_op od_eq (se_var 0) se_int)) ss_any ss_next) (sx_either (sx_seq1 (sx_if (st_test (se_op od_eq (se_var 0) se_int)) (sx_ret (sxe_call (sa_cons (se_tup (sa_cons se_int (sa_cons se_int sa_nil))) (sa_cons (se_own (so_lst (sa_cons (se_tup (sa_cons (se_tup (sa_cons se_int sa_nil)) (sa_cons (se_tup (sa_cons se_int (sa_cons se_int sa_nil))) sa_nil))) sa_nil))) sa_nil)))) sx_no)) (sx_seq2 (ss_if (st_test (se_op od_eq (se_var 0) se_int)) ss_any ss_next) (sx_either (sx_seq1 (sx_if (st_test (se_op od_eq (se_var 0) se_int)) (sx_ret (sxe_call (sa_cons (se_tup (sa_cons se_int (sa_cons se_int sa_nil))) sa_nil))) sx_no)) (sx_seq2 (ss_if (st_test (se_op od_eq (se_var 0) se_int)) ss_any ss_next) (sx_ret (sxe_call (sa_cons (se_tup (sa_cons se_int (sa_cons se_int sa_nil))) (sa_cons se_str sa_nil))))))))))))))⟩
theorem okchecked_code (F : Fun K "checked_code" "checked_code" schecked_code f fd) (B : Bt mg) (Ois_code : Wis_code P w K mg base) : FnOk P w K mg base CX0 3 f fd ["game", "code"] (spD K 2 Fchecked_code) :=
 fun_okD F scchecked_code rfl rfl λ cdv A outer s H E hr => have hu := hr.units
  ⟨_, (pss_cons (ps_if (pt_not (kx_tru K (pe_own Ois_code hr (pa_cons (pv 0) (pa_cons (pv 1) pa_nil))))) (pss_one ps_never) pss_nil) (pss_one (ps_ret (pv 1)))), (ss_seq (ss_if (st_not (st_tru (se_call (sa_cons (se_var 0) (sa_cons (se_var 1) sa_nil))))) ss_never ss_next) (ss_ret (se_var 1)))⟩
theorem okXchecked_code_BadCode {C : Addr} (F : Fun K "checked_code" "checked_code" schecked_code f fd) (B : Bt mg) (Ois_code : Own P w K mg base 2 "is_code" ["game", "thing"] (spD K 2 Fis_code)) (gC_BadCode : mg "BadCode" = some (.ref C)) (xC_BadCode : PySem.W.excIn K C [.type "ValueError", .type "Exception", .type "BaseException", .type "object"] "ValueError.__new__" = true) : FnOk P w K mg base (CXF P w) 3 f fd ["game", "code"] (spX K 2 C Xchecked_code_BadCode) :=
 fun_okX F scchecked_code rfl rfl λ cdv A outer s H E hr => have hu := hr.units
  ⟨_, (pss_cons (ps_if (pt_not (kx_tru K (pe_own Ois_code hr (pa_cons (pv 0) (pa_cons (pv 1) pa_nil))))) (pss_one (ps_raise gC_BadCode xC_BadCode PySem.F.excBase_ValueError (pa_cons pe_str pa_nil))) pss_any) pss_any), (sx_seq1 (sx_if (st_not (st_tru (se_call (sa_cons (se_var 0) (sa_cons (se_var 1) sa_nil))))) (sx_raise (sa_cons se_str sa_nil)) sx_no))⟩
theorem okXanswer_BadCode {C : Addr} (F : Fun K "answer" "answer" sanswer f fd) (B : Bt mg) (Ochecked_game : Own P w K mg base 3 "checked_game" ["game"] (spD K 1 Fchecked_game)) (Oanswer_of : Own P w K mg base 1 "answer_of" ["hidden", "guess"] (spD K 2 Fanswer_of)) (Ochecked_code : Own P w K mg base 3 "checked_code" ["game", "code"] (spD K 2 Fchecked_code)) (OXchecked_code_BadCode : OwnX P w K mg base 3 "checked_code" ["game", "code"] (spX K 2 C Xchecked_code_BadCode)) : FnOk P w K mg base (CXF P w) 4 f fd ["game", "hidden", "guess"] (spX K 3 C Xanswer_BadCode) :=
 fun_okX F scanswer rfl rfl λ cdv A outer s H E hr => have hu := hr.units
  ⟨_, (pss_cons (ps_expr (pe_own Ochecked_game hr (pa_cons (pv 0) pa_nil))) (pss_one (ps_ret (pe_either (pe_own Oanswer_of hr (pa_cons (pe_ownX OXchecked_code_BadCode hr pass_flown (pa_cons (pv 0) (pa_cons (pv 1) pa_nil))) pa_any)) (pe_own Oanswer_of hr (pa_cons (pe_own Ochecked_code hr (pa_cons (pv 0) (pa_cons (pv 1) pa_nil))) (pa_cons (pe_ownX OXchecked_code_BadCode hr pass_flown (pa_cons (pv 0) (pa_cons (pv 2) pa_nil))) pa_any))))))), (sx_seq2 (ss_drop (se_call (sa_cons (se_var 0) sa_nil))) (sx_ret (sxe_either (sxe_arg (sxa_here (sxe_call (sa_cons (se_var 0) (sa_cons (se_var 1) sa_nil))))) (sxe_arg (sxa_next (se_call (sa_cons (se_var 0) (sa_cons (se_var 1) sa_nil))) (sxa_here (sxe_call (sa_cons (se_var 0) (sa_cons (se_var 2) sa_nil)))))))))⟩
theorem okX_law_deed_BadCode {C : Addr} (F : Fun K "_law_deed" "_law_deed" s_law_deed f fd) (B : Bt mg) (OXanswer_BadCode : OwnX P w K mg base 4 "answer" ["game", "hidden", "guess"] (spX K 3 C Xanswer_BadCode)) : FnOk P w K mg base (CXF P w) 8 f fd ["_law_way"] (spX K 1 C X_law_deed_BadCode) :=
 fun_okX F sc_law_deed rfl rfl λ cdv A outer s H E hr => have hu := hr.units
  ⟨_, (pss_cons (ps_if (pt_cmpR (kx_eqD K hu) (pv 0) pe_int (nomark _)) pss_any pss_nil) (pss_cons (ps_if (pt_cmpR (kx_eqD K hu) (pv 0) pe_int (nomark _)) (pss_one (ps_ret (pe_ownX OXanswer_BadCode hr pass_flown (pa_cons (pe_tup (pa_cons pe_int (pa_cons pe_int pa_nil))) (pa_cons (pe_tup (pa_cons pe_int pa_nil)) (pa_cons (pe_tup (pa_cons pe_int pa_nil)) pa_nil)))))) pss_any) pss_any)), (sx_seq2 (ss_if (st_test (se_op od_eq (se_var 0) se_int)) ss_any ss_next) (sx_seq1 (sx_if (st_test (se_op od_eq (se_var 0) se_int)) (sx_ret (sxe_call (sa_cons (se_tup (sa_cons se_int (sa_cons se_int sa_nil))) (sa_cons (se_tup (sa_cons se_int sa_nil)) (sa_cons (se_tup (sa_cons se_int sa_nil)) sa_nil))))) sx_no)))⟩
theorem okXchecked_list_BadAsk {C : Addr} (F : Fun K "checked_list" "checked_list" schecked_list f fd) (B : Bt mg) {fI : Addr} {fdI : FuncData} (gC_BadAsk : mg "BadAsk" = some (.ref C)) (ic_BadAsk : excInI K C fI vmro "ValueError.__new__" = true) (FI_BadAsk : FnOk P w K mg base CX0 1 fI fdI ["self", "at"] (spI C)) (fn_BadAsk : (K.lookup fI).map (·.cls) = some (.type "function")) (bI_BadAsk : Binds K fdI ["self", "at"] []) (kp_BadAsk : PySem.W.keepIn K (.ref C) = true) {tMOST_ASKS : Tok} (g_MOST_ASKS : mg "MOST_ASKS" = some (.int 8 tMOST_ASKS)) : FnOk P w K mg base (CXF P w) 4 f fd ["game", "things", "is_one"] (spX K 3 C Xchecked_list_BadAsk) :=
 fun_okX F scchecked_list rfl rfl λ cdv A outer s H E hr => have hu := hr.units
  ⟨_, (pss_cons (ps_if (PW.pt (pw_or (pt_not (kx_tru K (pe_callB (kx_isiD K) (by rfl) B.isinstance boot_isi (pa_cons (pv 1) (pa_cons (pe_bltn (v := .ty "list") rfl B.list PyProof.Rows.boot_list rfl) pa_nil))))) (pw_or1 (pt_cmpR op_gt (pe_callB (kx_lenA K) (by rfl) B.len PySem.boot_len (pa_cons (pv 1) pa_nil)) (pe_glob (v := .int 8) rfl g_MOST_ASKS ⟨_, rfl⟩) (nomark _))))) (pss_one (ps_raiseI gC_BadAsk ic_BadAsk FI_BadAsk fn_BadAsk bI_BadAsk kp_BadAsk hr (pa_cons pe_int pa_nil))) pss_any) pss_any), (sx_seq1 (sx_if (st_or (st_not (st_tru (se_isi (se_var 1)))) (st_test (se_op od_gt (se_callB cd_len (sa_cons (se_var 1) sa_nil)) se_int))) (sx_raiseI (sa_cons se_int sa_nil)) sx_no))⟩
theorem okXchecked_asks_BadAsk {C : Addr} (F : Fun K "checked_asks" "checked_asks" schecked_asks f fd) (B : Bt mg) (OXchecked_list_BadAsk : OwnX P w K mg base 4 "checked_list" ["game", "things", "is_one"] (spX K 3 C Xchecked_list_BadAsk)) {Ais_ask : Addr} (mis_ask : mg "is_ask" = some (.ref Ais_ask)) (nis_ask : PySem.W.nsIn K mainGlobals "is_ask" = some (some (.ref Ais_ask))) : FnOk P w K mg base (CXF P w) 5 f fd ["game", "asks"] (spX K 2 C Xchecked_asks_BadAsk) :=
 fun_okX F scchecked_asks rfl rfl λ cdv A outer s H E hr => have hu := hr.units
  ⟨_, (pss_one (ps_ret (pe_ownX OXchecked_list_BadAsk hr pass_flown (pa_cons (pv 0) (pa_cons (pv 1) (pa_cons (pe_glob (v := .ref Ais_ask) rfl mis_ask rfl) pa_nil)))))), (sx_ret (sxe_call (sa_cons (se_var 0) (sa_cons (se_var 1) (sa_cons (se_fn nis_ask) sa_nil)))))⟩
theorem okXwhat_fits_BadAsk {C : Addr} (F : Fun K "what_fits" "what_fits" swhat_fits f fd) (B : Bt mg) (Ochecked_game : Own P w K mg base 3 "checked_game" ["game"] (spD K 1 Fchecked_game)) (OXchecked_asks_BadAsk : OwnX P w K mg base 5 "checked_asks" ["game", "asks"] (spX K 2 C Xchecked_asks_BadAsk)) : FnOk P w K mg base (CXF P w) 6 f fd ["game", "asks"] (spX K 2 C Xwhat_fits_BadAsk) :=
 fun_okX F scwhat_fits rfl rfl λ cdv A outer s H E hr => have hu := hr.units
  ⟨_, (pss_cons (ps_expr (pe_own Ochecked_game hr (pa_cons (pv 0) pa_nil))) (pss_cons (ps_expr (pe_ownX OXchecked_asks_BadAsk hr pass_flown (pa_cons (pv 0) (pa_cons (pv 1) pa_nil)))) pss_any)), (sx_seq2 (ss_drop (se_call (sa_cons (se_var 0) sa_nil))) (sx_seq1 (sx_drop (sxe_call (sa_cons (se_var 0) (sa_cons (se_var 1) sa_nil))))))⟩
theorem okXsettled_BadAsk {C : Addr} (F : Fun K "settled" "settled" ssettled f fd) (B : Bt mg) (Ofound_or_clash : Own P w K mg base 1 "found_or_clash" ["found"] (spD K 1 Ffound_or_clash)) (OXwhat_fits_BadAsk : OwnX P w K mg base 6 "what_fits" ["game", "asks"] (spX K 2 C Xwhat_fits_BadAsk)) : FnOk P w K mg base (CXF P w) 7 f fd ["game", "asks"] (spX K 2 C Xsettled_BadAsk) :=
 fun_okX F scsettled rfl rfl λ cdv A outer s H E hr => have hu := hr.units
  ⟨_, (pss_cons (ps_setL (i := 2) scsettled.nd (pe_own Ofound_or_clash hr (pa_cons (pe_ownX OXwhat_fits_BadAsk hr pass_flown (pa_cons (pv 0) (pa_cons (pv 1) pa_nil))) pa_any))) pss_any), (sx_seq1 (sx_asg (sxe_arg (sxa_here (sxe_call (sa_cons (se_var 0) (sa_cons (se_var 1) sa_nil)))))))⟩
theorem okX_law_deed_BadAsk {C : Addr} (F : Fun K "_law_deed" "_law_deed" s_law_deed f fd) (B : Bt mg) (OXwhat_fits_BadAsk : OwnX P w K mg base 6 "what_fits" ["game", "asks"] (spX K 2 C Xwhat_fits_BadAsk)) (OXsettled_BadAsk : OwnX P w K mg base 7 "settled" ["game", "asks"] (spX K 2 C Xsettled_BadAsk)) : FnOk P w K mg base (CXF P w) 8 f fd ["_law_way"] (spX K 1 C X_law_deed_BadAsk) :=
 fun_okX F sc_law_deed rfl rfl λ cdv A outer s H E hr => have hu := hr.units
  ⟨_, (pss_cons (ps_if (pt_cmpR (kx_eqD K hu) (pv 0) pe_int (nomark _)) pss_any pss_nil) (pss_cons (ps_if (pt_cmpR (kx_eqD K hu) (pv 0) pe_int (nomark _)) pss_any pss_nil) (pss_either (pss_cons (ps_if (pt_cmpR (kx_eqD K hu) (pv 0) pe_int (nomark _)) (pss_one (ps_ret (pe_ownX OXwhat_fits_BadAsk hr pass_flown (pa_cons (pe_tup (pa_cons pe_int (pa_cons pe_int pa_nil))) (pa_cons pe_non pa_nil))))) pss_any) pss_any) (pss_cons (ps_if (pt_cmpR (kx_eqD K hu) (pv 0) pe_int (nomark _)) pss_any pss_nil) (pss_cons (ps_if (pt_cmpR (kx_eqD K hu) (pv 0) pe_int (nomark _)) (pss_one (ps_ret (pe_ownX OXsettled_BadAsk hr pass_flown (pa_cons (pe_tup (pa_cons pe_int (pa_cons pe_int pa_nil))) (pa_cons (pe_lst (pa_cons (pe_tup (pa_cons (pe_tup (pa_cons pe_int pa_nil)) (pa_cons (pe_tup (pa_cons pe_int (pa_cons pe_int pa_nil))) pa_nil))) pa_nil)) pa_nil))))) pss_any) pss_any))))), (sx_seq2 (ss_if (st_test (se_op od_eq (se_var 0) se_int)) ss_any ss_next) (sx_seq2 (ss_if (st_test (se_op od_eq (se_var 0) se_int)) ss_any ss_next) (sx_either (sx_seq1 (sx_if (st_test (se_op od_eq (se_var 0) se_int)) (sx_ret (sxe_call (sa_cons (se_tup (sa_cons se_int (sa_cons se_int sa_nil))) (sa_cons se_non sa_nil)))) sx_no)) (sx_seq2 (ss_if (st_test (se_op od_eq (se_var 0) se_int)) ss_any ss_next) (sx_seq1 (sx_if (st_test (se_op od_eq (se_var 0) se_int)) (sx_ret (sxe_call (sa_cons (se_tup (sa_cons se_int (sa_cons se_int sa_nil))) (sa_cons (se_own (so_lst (sa_cons (se_tup (sa_cons (se_tup (sa_cons se_int sa_nil)) (sa_cons (se_tup (sa_cons se_int (sa_cons se_int sa_nil))) sa_nil))) sa_nil))) sa_nil)))) sx_no))))))⟩
theorem okall_codes (F : Fun K "all_codes" "all_codes" sall_codes f fd) (B : Bt mg) (Ochecked_game : Wchecked_game P w K mg base) : FnOk P w K mg base CX0 4 f fd ["game"] (spD K 1 Fall_codes) :=
 fun_okD F scall_codes rfl rfl λ cdv A outer s H E hr => have hu := hr.units
  ⟨_, (pss_cons (ps_expr (pe_own Ochecked_game hr (pa_cons (pv 0) pa_nil))) (pss_cons (ps_setL (i := 1) scall_codes.nd (pe_lst (pa_cons (pe_tup pa_nil) pa_nil))) (pss_cons (ps_for PassesOwn.never rfl (pi_range1 rfl B.range (pa_cons (pe_ix (kx_ix K) (pv 0) pe_int (λ _ _ => rfl)) pa_nil)) (pg_name (i := 2) scall_codes.nd rfl (by first | exact Or.inl rfl | exact Or.inr rfl)) (pss_cons (ps_setL (i := 3) scall_codes.nd (pe_lst pa_nil)) (pss_cons (ps_for PassesOwn.never rfl (kx_seq K (pv 1)) (pg_name (i := 4) scall_codes.nd rfl (by first | exact Or.inl rfl | exact Or.inr rfl)) (pss_one (ps_expr (pe_bm PySem.F.plainAttrs_list PySem.F.slot_list_extend PySem.F.type_list_extend mt_extend (pv 3) (pa_cons (pe_compC ["colour"] [("code", 4)] (pi_range1 rfl B.range (pa_cons (pe_ix (kx_ix K) (pv 0) pe_int (λ _ _ => rfl)) pa_nil)) (λ _ _ _ _ => (pg_name (i := 0) (show List.Nodup (["colour", "code"] : List Str) by decide +kernel) rfl (by first | exact Or.inl rfl | exact Or.inr rfl))) (λ _ _ _ _ => pts_nil) (λ _ _ _ _ => (pe_op (kx_add K) (pv 1) (pe_tup (pa_cons (pv 0) pa_nil))))) pa_nil))))) (pss_one (ps_setL (i := 1) scall_codes.nd (pv 3)))))) (pss_one (ps_ret (pv 1)))))), (ss_seq (ss_drop (se_call (sa_cons (se_var 0) sa_nil))) (ss_seq (ss_set 1 (se_own (so_lst (sa_cons (se_tup sa_nil) sa_nil)))) (ss_seq (ss_for (si_rng1 (sa_cons (se_op od_ix (se_var 0) se_int) sa_nil)) (sg_name 2) (ss_seq (ss_setO 3 (so_lst sa_nil)) (ss_seq (ss_for (si_seq (se_var 1)) (sg_name 4) (ss_extend 3 (se_own (so_comp (si_rng1 (sa_cons (se_op od_ix (se_var 0) se_int) sa_nil)) (sg_name 0) low_name st_yes (se_op od_add (se_var 1) (se_tup (sa_cons (se_var 0) sa_nil))))))) (ss_frz 3 (ss_set 1 (se_var 3)))))) (ss_ret (se_var 1)))))⟩
theorem okwhat_fits (F : Fun K "what_fits" "what_fits" swhat_fits f fd) (B : Bt mg) (Ochecked_game : Wchecked_game P w K mg base) (Ochecked_asks : Wchecked_asks P w K mg base) (Othose_that_fit : Wthose_that_fit P w K mg base) (Oall_codes : Wall_codes P w K mg base) : FnOk P w K mg base CX0 6 f fd ["game", "asks"] (spD K 2 Fwhat_fits) :=
 fun_okD F scwhat_fits rfl rfl λ cdv A outer s H E hr => have hu := hr.units
  ⟨_, (pss_cons (ps_expr (pe_own Ochecked_game hr (pa_cons (pv 0) pa_nil))) (pss_cons (ps_expr (pe_own Ochecked_asks hr (pa_cons (pv 0) (pa_cons (pv 1) pa_nil)))) (pss_one (ps_ret (pe_own Othose_that_fit hr (pa_cons (pe_own Oall_codes hr (pa_cons (pv 0) pa_nil)) (pa_cons (pv 1) pa_nil))))))), (ss_seq (ss_drop (se_call (sa_cons (se_var 0) sa_nil))) (ss_seq (ss_drop (se_call (sa_cons (se_var 0) (sa_cons (se_var 1) sa_nil)))) (ss_ret (se_call (sa_cons (se_call (sa_cons (se_var 0) sa_nil)) (sa_cons (se_var 1) sa_nil))))))⟩
theorem okXfound_or_clash_Clash {C : Addr} (F : Fun K "found_or_clash" "found_or_clash" sfound_or_clash f fd) (B : Bt mg) (gC_Clash : mg "Clash" = some (.ref C)) (xC_Clash : PySem.W.excIn K C [.type "ValueError", .type "Exception", .type "BaseException", .type "object"] "ValueError.__new__" = true) : FnOk P w K mg base (CXF P w) 1 f fd ["found"] (spX K 1 C Xfound_or_clash_Clash) :=
 fun_okX F scfound_or_clash rfl rfl λ cdv A outer s H E hr => have hu := hr.units
  ⟨_, (pss_cons (ps_if (pt_not (kx_tru K (pv 0))) (pss_one (ps_raise gC_Clash xC_Clash PySem.F.excBase_ValueError (pa_cons pe_str pa_nil))) pss_any) pss_any), (sx_seq1 (sx_if (st_not (st_tru (se_var 0))) (sx_raise (sa_cons se_str sa_nil)) sx_no))⟩
theorem okXsettled_Clash {C : Addr} (F : Fun K "settled" "settled" ssettled f fd) (B : Bt mg) (Owhat_fits : Own P w K mg base 6 "what_fits" ["game", "asks"] (spD K 2 Fwhat_fits)) (OXfound_or_clash_Clash : OwnX P w K mg base 1 "found_or_clash" ["found"] (spX K 1 C Xfound_or_clash_Clash)) : FnOk P w K mg base (CXF P w) 7 f fd ["game", "asks"] (spX K 2 C Xsettled_Clash) :=
 fun_okX F scsettled rfl rfl λ cdv A outer s H E hr => have hu := hr.units
  ⟨_, (pss_cons (ps_setL (i := 2) scsettled.nd (pe_ownX OXfound_or_clash_Clash hr pass_flown (pa_cons (pe_own Owhat_fits hr (pa_cons (pv 0) (pa_cons (pv 1) pa_nil))) pa_nil))) pss_any), (sx_seq1 (sx_asg (sxe_call (sa_cons (se_call (sa_cons (se_var 0) (sa_cons (se_var 1) sa_nil))) sa_nil))))⟩
theorem okX_law_deed_Clash {C : Addr} (F : Fun K "_law_deed" "_law_deed" s_law_deed f fd) (B : Bt mg) (OXsettled_Clash : OwnX P w K mg base 7 "settled" ["game", "asks"] (spX K 2 C Xsettled_Clash)) : FnOk P w K mg base (CXF P w) 8 f fd ["_law_way"] (spX K 1 C X_law_deed_Clash) :=
 fun_okX F sc_law_deed rfl rfl λ cdv A outer s H E hr => have hu := hr.units
  ⟨_, (pss_cons (ps_if (pt_cmpR (kx_eqD K hu) (pv 0) pe_int (nomark _)) pss_any pss_nil) (pss_cons (ps_if (pt_cmpR (kx_eqD K hu) (pv 0) pe_int (nomark _)) pss_any pss_nil) (pss_cons (ps_if (pt_cmpR (kx_eqD K hu) (pv 0) pe_int (nomark _)) pss_any pss_nil) (pss_cons (ps_if (pt_cmpR (kx_eqD K hu) (pv 0) pe_int (nomark _)) (pss_one (ps_ret (pe_ownX OXsettled_Clash hr pass_flown (pa_cons (pe_tup (pa_cons pe_int (pa_cons pe_int pa_nil))) (pa_cons (pe_lst (pa_cons (pe_tup (pa_cons (pe_tup (pa_cons pe_int pa_nil)) (pa_cons (pe_tup (pa_cons pe_int (pa_cons pe_int pa_nil))) pa_nil))) pa_nil)) pa_nil))))) pss_any) pss_any)))), (sx_seq2 (ss_if (st_test (se_op od_eq (se_var 0) se_int)) ss_any ss_next) (sx_seq2 (ss_if (st_test (se_op od_eq (se_var 0) se_int)) ss_any ss_next) (sx_seq2 (ss_if (st_test (se_op od_eq (se_var 0) se_int)) ss_any ss_next) (sx_seq1 (sx_if (st_test (se_op od_eq (se_var 0) se_int)) (sx_ret (sxe_call (sa_cons (se_tup (sa_cons se_int (sa_cons se_int sa_nil))) (sa_cons (se_own (so_lst (sa_cons (se_tup (sa_cons (se_tup (sa_cons se_int sa_nil)) (sa_cons (se_tup (sa_cons se_int (sa_cons se_int sa_nil))) sa_nil))) sa_nil))) sa_nil)))) sx_no)))))⟩
theorem okXsmall_game_TooBig {C : Addr} (F : Fun K "small_game" "small_game" ssmall_game f fd) (B : Bt mg) (Ohow_many_codes : Own P w K mg base 1 "how_many_codes" ["places", "colours"] (spD K 2 Fhow_many_codes)) (gC_TooBig : mg "TooBig" = some (.ref C)) (xC_TooBig : PySem.W.excIn K C [.type "ValueError", .type "Exception", .type "BaseException", .type "object"] "ValueError.__new__" = true) {tMOST_CODES_SEARCHED : Tok} (g_MOST_CODES_SEARCHED : mg "MOST_CODES_SEARCHED" = some (.int 16 tMOST_CODES_SEARCHED)) : FnOk P w K mg base (CXF P w) 2 f fd ["game"] (spX K 1 C Xsmall_game_TooBig) :=
 fun_okX F scsmall_game rfl rfl λ cdv A outer s H E hr => have hu := hr.units
  ⟨_, (pss_cons (ps_if (pt_cmpR op_gt (pe_own Ohow_many_codes hr (pa_cons (pe_ix (kx_ix K) (pv 0) pe_int (λ _ _ => rfl)) (pa_cons (pe_ix (kx_ix K) (pv 0) pe_int (λ _ _ => rfl)) pa_nil))) (pe_glob (v := .int 16) rfl g_MOST_CODES_SEARCHED ⟨_, rfl⟩) (nomark _)) (pss_one (ps_raise gC_TooBig xC_TooBig PySem.F.excBase_ValueError (pa_cons pe_str pa_nil))) pss_any) pss_any), (sx_seq1 (sx_if (st_test (se_op od_gt (se_call (sa_cons (se_op od_ix (se_var 0) se_int) (sa_cons (se_op od_ix (se_var 0) se_int) sa_nil))) se_int)) (sx_raise (sa_cons se_str sa_nil)) sx_no))⟩
theorem okXfewest_settling_TooBig {C : Addr} (F : Fun K "fewest_settling" "fewest_settling" sfewest_settling f fd) (B : Bt mg) (Ochecked_game : Own P w K mg base 3 "checked_game" ["game"] (spD K 1 Fchecked_game)) (OXsmall_game_TooBig : OwnX P w K mg base 2 "small_game" ["game"] (spX K 1 C Xsmall_game_TooBig)) : FnOk P w K mg base (CXF P w) 5 f fd ["game"] (spX K 1 C Xfewest_settling_TooBig) :=
 fun_okX F scfewest_settling rfl rfl λ cdv A outer s H E hr => have hu := hr.units
  ⟨_, (pss_cons (ps_expr (pe_own Ochecked_game hr (pa_cons (pv 0) pa_nil))) (pss_cons (ps_expr (pe_ownX OXsmall_game_TooBig hr pass_flown (pa_cons (pv 0) pa_nil))) pss_any)), (sx_seq2 (ss_drop (se_call (sa_cons (se_var 0) sa_nil))) (sx_seq1 (sx_drop (sxe_call (sa_cons (se_var 0) sa_nil)))))⟩
theorem okX_law_deed_TooBig {C : Addr} (F : Fun K "_law_deed" "_law_deed" s_law_deed f fd) (B : Bt mg) (OXfewest_settling_TooBig : OwnX P w K mg base 5 "fewest_settling" ["game"] (spX K 1 C Xfewest_settling_TooBig)) : FnOk P w K mg base (CXF P w) 8 f fd ["_law_way"] (spX K 1 C X_law_deed_TooBig) :=
 fun_okX F sc_law_deed rfl rfl λ cdv A outer s H E hr => have hu := hr.units
  ⟨_, (pss_cons (ps_if (pt_cmpR (kx_eqD K hu) (pv 0) pe_int (nomark _)) pss_any pss_nil) (pss_cons (ps_if (pt_cmpR (kx_eqD K hu) (pv 0) pe_int (nomark _)) pss_any pss_nil) (pss_cons (ps_if (pt_cmpR (kx_eqD K hu) (pv 0) pe_int (nomark _)) pss_any pss_nil) (pss_cons (ps_if (pt_cmpR (kx_eqD K hu) (pv 0) pe_int (nomark _)) pss_any pss_nil) (pss_cons (ps_if (pt_cmpR (kx_eqD K hu) (pv 0) pe_int (nomark _)) (pss_one (ps_ret (pe_ownX OXfewest_settling_TooBig hr pass_flown (pa_cons (pe_tup (pa_cons pe_int (pa_cons pe_int pa_nil))) pa_nil)))) pss_any) pss_any))))), (sx_seq2 (ss_if (st_test (se_op od_eq (se_var 0) se_int)) ss_any ss_next) (sx_seq2 (ss_if (st_test (se_op od_eq (se_var 0) se_int)) ss_any ss_next) (sx_seq2 (ss_if (st_test (se_op od_eq (se_var 0) se_int)) ss_any ss_next) (sx_seq2 (ss_if (st_test (se_op od_eq (se_var 0) se_int)) ss_any ss_next) (sx_seq1 (sx_if (st_test (se_op od_eq (se_var 0) se_int)) (sx_ret (sxe_call (sa_cons (se_tup (sa_cons se_int (sa_cons se_int sa_nil))) sa_nil))) sx_no))))))⟩
theorem okXread_BadText {C : Addr} (F : Fun K "read" "read" sread f fd) (B : Bt mg) (Ochecked_game : Own P w K mg base 3 "checked_game" ["game"] (spD K 1 Fchecked_game)) (gC_BadText : mg "BadText" = some (.ref C)) (xC_BadText : PySem.W.excIn K C [.type "ValueError", .type "Exception", .type "BaseException", .type "object"] "ValueError.__new__" = true) {tMOST_ASKS : Tok} (g_MOST_ASKS : mg "MOST_ASKS" = some (.int 8 tMOST_ASKS)) : FnOk P w K mg base (CXF P w) 5 f fd ["game", "text"] (spX K 2 C Xread_BadText) :=
 fun_okX F scread rfl rfl λ cdv A outer s H E hr => have hu := hr.units
  ⟨_, (pss_cons (ps_expr (pe_own Ochecked_game hr (pa_cons (pv 0) pa_nil))) (pss_either (pss_cons (ps_if (pt_not (kx_tru K (pe_callB (kx_isiD K) (by rfl) B.isinstance boot_isi (pa_cons (pv 1) (pa_cons (pe_bltn (v := .ty "str") rfl B.str PyProof.Rows.boot_str rfl) pa_nil))))) (pss_one (ps_raise gC_BadText xC_BadText PySem.F.excBase_ValueError (pa_cons pe_str pa_nil))) pss_any) pss_any) (pss_cons (ps_if (pt_not (kx_tru K (pe_callB (kx_isiD K) (by rfl) B.isinstance boot_isi (pa_cons (pv 1) (pa_cons (pe_bltn (v := .ty "str") rfl B.str PyProof.Rows.boot_str rfl) pa_nil))))) pss_any pss_nil) (pss_cons (ps_setL (i := 2) scread.nd (pe_bm PySem.F.plainAttrs_str PySem.F.slot_str_split PySem.F.type_str_split mt_split (pv 1) (pa_cons pe_str pa_nil))) (pss_cons (ps_setL (i := 3) scread.nd (pe_bm0 PySem.F.plainAttrs_list PySem.F.slot_list_pop PySem.F.type_list_pop mt_pop (pv 2))) (pss_cons (ps_if (PW.pt (pw_or (pt_cmpR (kx_neD K hu) (pv 3) pe_str (nomark _)) (pw_or1 (pt_cmpR op_gt (pe_callB (kx_lenA K) (by rfl) B.len PySem.boot_len (pa_cons (pv 2) pa_nil)) (pe_glob (v := .int 8) rfl g_MOST_ASKS ⟨_, rfl⟩) (nomark _))))) (pss_one (ps_raise gC_BadText xC_BadText PySem.F.excBase_ValueError (pa_cons pe_str pa_nil))) pss_any) pss_any)))))), (sx_seq2 (ss_drop (se_call (sa_cons (se_var 0) sa_nil))) (sx_either (sx_seq1 (sx_if (st_not (st_tru (se_isi (se_var 1)))) (sx_raise (sa_cons se_str sa_nil)) sx_no)) (sx_seq2 (ss_if (st_not (st_tru (se_isi (se_var 1)))) ss_any ss_next) (sx_seq2 (ss_setO 2 (so_split (se_var 1) se_str)) (sx_seq2 (ss_pop 3 2) (sx_seq1 (sx_if (st_or (st_test (se_op od_ne (se_var 3) se_str)) (st_test (se_op od_gt (se_lenE 2) se_int))) (sx_raise (sa_cons se_str sa_nil)) sx_no)))))))⟩
theorem okX_law_deed_BadText {C : Addr} (F : Fun K "_law_deed" "_law_deed" s_law_deed f fd) (B : Bt mg) (OXread_BadText : OwnX P w K mg base 5 "read" ["game", "text"] (spX K 2 C Xread_BadText)) : FnOk P w K mg base (CXF P w) 8 f fd ["_law_way"] (spX K 1 C X_law_deed_BadText) :=
 fun_okX F sc_law_deed rfl rfl λ cdv A outer s H E hr => have hu := hr.units
  ⟨_, (pss_cons (ps_if (pt_cmpR (kx_eqD K hu) (pv 0) pe_int (nomark _)) pss_any pss_nil) (pss_cons (ps_if (pt_cmpR (kx_eqD K hu) (pv 0) pe_int (nomark _)) pss_any pss_nil) (pss_cons (ps_if (pt_cmpR (kx_eqD K hu) (pv 0) pe_int (nomark _)) pss_any pss_nil) (pss_cons (ps_if (pt_cmpR (kx_eqD K hu) (pv 0) pe_int (nomark _)) pss_any pss_nil) (pss_cons (ps_if (pt_cmpR (kx_eqD K hu) (pv 0) pe_int (nomark _)) pss_any pss_nil) (pss_one (ps_ret (pe_ownX OXread_BadText hr pass_flown (pa_cons (pe_tup (pa_cons pe_int (pa_cons pe_int pa_nil))) (pa_cons pe_str pa_nil)))))))))), (sx_seq2 (ss_if (st_test (se_op od_eq (se_var 0) se_int)) ss_any ss_next) (sx_seq2 (ss_if (st_test (se_op od_eq (se_var 0) se_int)) ss_any ss_next) (sx_seq2 (ss_if (st_test (se_op od_eq (se_var 0) se_int)) ss_any ss_next) (sx_seq2 (ss_if (st_test (se_op od_eq (se_var 0) se_int)) ss_any ss_next) (sx_seq2 (ss_if (st_test (se_op od_eq (se_var 0) se_int)) ss_any ss_next) (sx_ret (sxe_call (sa_cons (se_tup (sa_cons se_int (sa_cons se_int sa_nil))) (sa_cons se_str sa_nil)))))))))⟩
end
section
variable {P : Program} {w : World} {K : Fg} {mg : Str -> Option Value} {base : Heap} {f : Addr} {fd : FuncData}
theorem ok_law_kinds_of {D ABadGame ABadCode ABadAsk AClash ATooBig ABadText : Addr} (F : Fun K "_law_kinds_of" "_law_kinds_of" s_law_kinds_of f fd) (B : Bt mg) (OX_law_deed_BadGame : OwnX P w K mg base 8 "_law_deed" ["_law_way"] (spX K 1 ABadGame X_law_deed_BadGame)) (OX_law_deed_BadCode : OwnX P w K mg base 8 "_law_deed" ["_law_way"] (spX K 1 ABadCode X_law_deed_BadCode)) (OX_law_deed_BadAsk : OwnX P w K mg base 8 "_law_deed" ["_law_way"] (spX K 1 ABadAsk X_law_deed_BadAsk)) (OX_law_deed_Clash : OwnX P w K mg base 8 "_law_deed" ["_law_way"] (spX K 1 AClash X_law_deed_Clash)) (OX_law_deed_TooBig : OwnX P w K mg base 8 "_law_deed" ["_law_way"] (spX K 1 ATooBig X_law_deed_TooBig)) (OX_law_deed_BadText : OwnX P w K mg base 8 "_law_deed" ["_law_way"] (spX K 1 ABadText X_law_deed_BadText)) (gD_ : mg "GuessError" = some (.ref D)) (gy_BadGame : mg "BadGame" = some (.ref ABadGame)) (gy_BadCode : mg "BadCode" = some (.ref ABadCode)) (gy_BadAsk : mg "BadAsk" = some (.ref ABadAsk)) (gy_Clash : mg "Clash" = some (.ref AClash)) (gy_TooBig : mg "TooBig" = some (.ref ATooBig)) (gy_BadText : mg "BadText" = some (.ref ABadText)) (hex_BadGame : PySem.W.exmOne K (.ref ABadGame) (.ref D) = some true) (xc_BadGame : ExcCls K ABadGame) (k_BadGame_BadGame : PySem.W.kitOne K (.ref ABadGame) (.ref ABadGame) = some true) (k_BadGame_BadCode : PySem.W.kitOne K (.ref ABadGame) (.ref ABadCode) = some false) (k_BadGame_BadAsk : PySem.W.kitOne K (.ref ABadGame) (.ref ABadAsk) = some false) (k_BadGame_Clash : PySem.W.kitOne K (.ref ABadGame) (.ref AClash) = some false) (k_BadGame_TooBig : PySem.W.kitOne K (.ref ABadGame) (.ref ATooBig) = some false) (k_BadGame_BadText : PySem.W.kitOne K (.ref ABadGame) (.ref ABadText) = some false) (hex_BadCode : PySem.W.exmOne K (.ref ABadCode) (.ref D) = some true) (xc_BadCode : ExcCls K ABadCode) (k_BadCode_BadGame : PySem.W.kitOne K (.ref ABadCode) (.ref ABadGame) = some false) (k_BadCode_BadCode : PySem.W.kitOne K (.ref ABadCode) (.ref ABadCode) = some true) (k_BadCode_BadAsk : PySem.W.kitOne K (.ref ABadCode) (.ref ABadAsk) = some false) (k_BadCode_Clash : PySem.W.kitOne K (.ref ABadCode) (.ref AClash) = some false) (k_BadCode_TooBig : PySem.W.kitOne K (.ref ABadCode) (.ref ATooBig) = some false) (k_BadCode_BadText : PySem.W.kitOne K (.ref ABadCode) (.ref ABadText) = some false) (hex_BadAsk : PySem.W.exmOne K (.ref ABadAsk) (.ref D) = some true) (xc_BadAsk : ExcCls K ABadAsk) (k_BadAsk_BadGame : PySem.W.kitOne K (.ref ABadAsk) (.ref ABadGame) = some false) (k_BadAsk_BadCode : PySem.W.kitOne K (.ref ABadAsk) (.ref ABadCode) = some false) (k_BadAsk_BadAsk : PySem.W.kitOne K (.ref ABadAsk) (.ref ABadAsk) = some true) (k_BadAsk_Clash : PySem.W.kitOne K (.ref ABadAsk) (.ref AClash) = some false) (k_BadAsk_TooBig : PySem.W.kitOne K (.ref ABadAsk) (.ref ATooBig) = some false) (k_BadAsk_BadText : PySem.W.kitOne K (.ref ABadAsk) (.ref ABadText) = some false) (hex_Clash : PySem.W.exmOne K (.ref AClash) (.ref D) = some true) (xc_Clash : ExcCls K AClash) (k_Clash_BadGame : PySem.W.kitOne K (.ref AClash) (.ref ABadGame) = some false) (k_Clash_BadCode : PySem.W.kitOne K (.ref AClash) (.ref ABadCode) = some false) (k_Clash_BadAsk : PySem.W.kitOne K (.ref AClash) (.ref ABadAsk) = some false) (k_Clash_Clash : PySem.W.kitOne K (.ref AClash) (.ref AClash) = some true) (k_Clash_TooBig : PySem.W.kitOne K (.ref AClash) (.ref ATooBig) = some false) (k_Clash_BadText : PySem.W.kitOne K (.ref AClash) (.ref ABadText) = some false) (hex_TooBig : PySem.W.exmOne K (.ref ATooBig) (.ref D) = some true) (xc_TooBig : ExcCls K ATooBig) (k_TooBig_BadGame : PySem.W.kitOne K (.ref ATooBig) (.ref ABadGame) = some false) (k_TooBig_BadCode : PySem.W.kitOne K (.ref ATooBig) (.ref ABadCode) = some false) (k_TooBig_BadAsk : PySem.W.kitOne K (.ref ATooBig) (.ref ABadAsk) = some false) (k_TooBig_Clash : PySem.W.kitOne K (.ref ATooBig) (.ref AClash) = some false) (k_TooBig_TooBig : PySem.W.kitOne K (.ref ATooBig) (.ref ATooBig) = some true) (k_TooBig_BadText : PySem.W.kitOne K (.ref ATooBig) (.ref ABadText) = some false) (hex_BadText : PySem.W.exmOne K (.ref ABadText) (.ref D) = some true) (xc_BadText : ExcCls K ABadText) (k_BadText_BadGame : PySem.W.kitOne K (.ref ABadText) (.ref ABadGame) = some false) (k_BadText_BadCode : PySem.W.kitOne K (.ref ABadText) (.ref ABadCode) = some false) (k_BadText_BadAsk : PySem.W.kitOne K (.ref ABadText) (.ref ABadAsk) = some false) (k_BadText_Clash : PySem.W.kitOne K (.ref ABadText) (.ref AClash) = some false) (k_BadText_TooBig : PySem.W.kitOne K (.ref ABadText) (.ref ATooBig) = some false) (k_BadText_BadText : PySem.W.kitOne K (.ref ABadText) (.ref ABadText) = some true) : FnOk P w K mg base CX0 9 f fd ["_law_way"] (spD K 1 F_law_kinds_of) := by
 refine F.ok sc_law_kinds_of (λ vs H Q E h => ?_) (λ cdv A outer s H vs Q E hr h => ?_)
 · obtain ⟨_, ds, d, _, hl, _⟩ := h
   exact hl
 · obtain ⟨F2, ds, d, sF, hl, ar, e, q⟩ := h
   have hu := hr.units
   unfold F_law_kinds_of at e
   split at e
   · rename_i c
     cases e
     exact ⟨_, pss_cons (ps_setL (i := 1) sc_law_kinds_of.nd (pe_lst pa_nil)) (pss_cons (ps_try (i := 2) rfl rfl rfl sc_law_kinds_of.nd rfl rfl gD_ rfl (λ pn E2 E hp => (pss_one (ps_expr (pe_ownX OX_law_deed_BadGame hr hp (pa_cons (pv 0) pa_nil))))) (λ ea pn => pss_cons (ps_setL (i := 1) sc_law_kinds_of.nd (pe_lst (pa_cons (pe_callB call_isiB (by rfl) B.isinstance boot_isi (pa_cons (pv 2) (pa_cons (pe_glob (v := .ref ABadGame) rfl gy_BadGame rfl) pa_nil))) (pa_cons (pe_callB call_isiB (by rfl) B.isinstance boot_isi (pa_cons (pv 2) (pa_cons (pe_glob (v := .ref ABadCode) rfl gy_BadCode rfl) pa_nil))) (pa_cons (pe_callB call_isiB (by rfl) B.isinstance boot_isi (pa_cons (pv 2) (pa_cons (pe_glob (v := .ref ABadAsk) rfl gy_BadAsk rfl) pa_nil))) (pa_cons (pe_callB call_isiB (by rfl) B.isinstance boot_isi (pa_cons (pv 2) (pa_cons (pe_glob (v := .ref AClash) rfl gy_Clash rfl) pa_nil))) pa_nil)))))) (pss_one (ps_setL (i := 1) sc_law_kinds_of.nd (pe_op (kx_add K) (pv 1) (pe_lst (pa_cons (pe_callB call_isiB (by rfl) B.isinstance boot_isi (pa_cons (pv 2) (pa_cons (pe_glob (v := .ref ATooBig) rfl gy_TooBig rfl) pa_nil))) (pa_cons (pe_callB call_isiB (by rfl) B.isinstance boot_isi (pa_cons (pv 2) (pa_cons (pe_glob (v := .ref ABadText) rfl gy_BadText rfl) pa_nil))) pa_nil)))))))) (pss_one (ps_ret (pv 1)))), try_kinds (N := ["_law_way", "_law_some", "e"]) (i := 2) (j := 1) (ys := [.ref ABadGame, .ref ABadCode, .ref ABadAsk, .ref AClash]) (zs := [.ref ATooBig, .ref ABadText]) (λ E => (sx_drop (sxe_call (sa_cons (se_var 0) sa_nil)))) hex_BadGame xc_BadGame (.cons (Ans.cls k_BadGame_BadGame) (.cons (Ans.cls k_BadGame_BadCode) (.cons (Ans.cls k_BadGame_BadAsk) (.cons (Ans.cls k_BadGame_Clash) .nil)))) (.cons (Ans.cls k_BadGame_TooBig) (.cons (Ans.cls k_BadGame_BadText) .nil)) (by decide) (by decide) (by decide) (by decide) (by decide) sF ar c q⟩
   · rename_i c0
     split at e
     · rename_i c
       cases e
       exact ⟨_, pss_cons (ps_setL (i := 1) sc_law_kinds_of.nd (pe_lst pa_nil)) (pss_cons (ps_try (i := 2) rfl rfl rfl sc_law_kinds_of.nd rfl rfl gD_ rfl (λ pn E2 E hp => (pss_one (ps_expr (pe_ownX OX_law_deed_BadCode hr hp (pa_cons (pv 0) pa_nil))))) (λ ea pn => pss_cons (ps_setL (i := 1) sc_law_kinds_of.nd (pe_lst (pa_cons (pe_callB call_isiB (by rfl) B.isinstance boot_isi (pa_cons (pv 2) (pa_cons (pe_glob (v := .ref ABadGame) rfl gy_BadGame rfl) pa_nil))) (pa_cons (pe_callB call_isiB (by rfl) B.isinstance boot_isi (pa_cons (pv 2) (pa_cons (pe_glob (v := .ref ABadCode) rfl gy_BadCode rfl) pa_nil))) (pa_cons (pe_callB call_isiB (by rfl) B.isinstance boot_isi (pa_cons (pv 2) (pa_cons (pe_glob (v := .ref ABadAsk) rfl gy_BadAsk rfl) pa_nil))) (pa_cons (pe_callB call_isiB (by rfl) B.isinstance boot_isi (pa_cons (pv 2) (pa_cons (pe_glob (v := .ref AClash) rfl gy_Clash rfl) pa_nil))) pa_nil)))))) (pss_one (ps_setL (i := 1) sc_law_kinds_of.nd (pe_op (kx_add K) (pv 1) (pe_lst (pa_cons (pe_callB call_isiB (by rfl) B.isinstance boot_isi (pa_cons (pv 2) (pa_cons (pe_glob (v := .ref ATooBig) rfl gy_TooBig rfl) pa_nil))) (pa_cons (pe_callB call_isiB (by rfl) B.isinstance boot_isi (pa_cons (pv 2) (pa_cons (pe_glob (v := .ref ABadText) rfl gy_BadText rfl) pa_nil))) pa_nil)))))))) (pss_one (ps_ret (pv 1)))), try_kinds (N := ["_law_way", "_law_some", "e"]) (i := 2) (j := 1) (ys := [.ref ABadGame, .ref ABadCode, .ref ABadAsk, .ref AClash]) (zs := [.ref ATooBig, .ref ABadText]) (λ E => (sx_drop (sxe_call (sa_cons (se_var 0) sa_nil)))) hex_BadCode xc_BadCode (.cons (Ans.cls k_BadCode_BadGame) (.cons (Ans.cls k_BadCode_BadCode) (.cons (Ans.cls k_BadCode_BadAsk) (.cons (Ans.cls k_BadCode_Clash) .nil)))) (.cons (Ans.cls k_BadCode_TooBig) (.cons (Ans.cls k_BadCode_BadText) .nil)) (by decide) (by decide) (by decide) (by decide) (by decide) sF ar c q⟩
     · rename_i c0
       split at e
       · rename_i c
         cases e
         exact ⟨_, pss_cons (ps_setL (i := 1) sc_law_kinds_of.nd (pe_lst pa_nil)) (pss_cons (ps_try (i := 2) rfl rfl rfl sc_law_kinds_of.nd rfl rfl gD_ rfl (λ pn E2 E hp => (pss_one (ps_expr (pe_ownX OX_law_deed_BadAsk hr hp (pa_cons (pv 0) pa_nil))))) (λ ea pn => pss_cons (ps_setL (i := 1) sc_law_kinds_of.nd (pe_lst (pa_cons (pe_callB call_isiB (by rfl) B.isinstance boot_isi (pa_cons (pv 2) (pa_cons (pe_glob (v := .ref ABadGame) rfl gy_BadGame rfl) pa_nil))) (pa_cons (pe_callB call_isiB (by rfl) B.isinstance boot_isi (pa_cons (pv 2) (pa_cons (pe_glob (v := .ref ABadCode) rfl gy_BadCode rfl) pa_nil))) (pa_cons (pe_callB call_isiB (by rfl) B.isinstance boot_isi (pa_cons (pv 2) (pa_cons (pe_glob (v := .ref ABadAsk) rfl gy_BadAsk rfl) pa_nil))) (pa_cons (pe_callB call_isiB (by rfl) B.isinstance boot_isi (pa_cons (pv 2) (pa_cons (pe_glob (v := .ref AClash) rfl gy_Clash rfl) pa_nil))) pa_nil)))))) (pss_one (ps_setL (i := 1) sc_law_kinds_of.nd (pe_op (kx_add K) (pv 1) (pe_lst (pa_cons (pe_callB call_isiB (by rfl) B.isinstance boot_isi (pa_cons (pv 2) (pa_cons (pe_glob (v := .ref ATooBig) rfl gy_TooBig rfl) pa_nil))) (pa_cons (pe_callB call_isiB (by rfl) B.isinstance boot_isi (pa_cons (pv 2) (pa_cons (pe_glob (v := .ref ABadText) rfl gy_BadText rfl) pa_nil))) pa_nil)))))))) (pss_one (ps_ret (pv 1)))), try_kinds (N := ["_law_way", "_law_some", "e"]) (i := 2) (j := 1) (ys := [.ref ABadGame, .ref ABadCode, .ref ABadAsk, .ref AClash]) (zs := [.ref ATooBig, .ref ABadText]) (λ E => (sx_drop (sxe_call (sa_cons (se_var 0) sa_nil)))) hex_BadAsk xc_BadAsk (.cons (Ans.cls k_BadAsk_BadGame) (.cons (Ans.cls k_BadAsk_BadCode) (.cons (Ans.cls k_BadAsk_BadAsk) (.cons (Ans.cls k_BadAsk_Clash) .nil)))) (.cons (Ans.cls k_BadAsk_TooBig) (.cons (Ans.cls k_BadAsk_BadText) .nil)) (by decide) (by decide) (by decide) (by decide) (by decide) sF ar c q⟩
       · rename_i c0
         split at e
         · rename_i c
           cases e
           exact ⟨_, pss_cons (ps_setL (i := 1) sc_law_kinds_of.nd (pe_lst pa_nil)) (pss_cons (ps_try (i := 2) rfl rfl rfl sc_law_kinds_of.nd rfl rfl gD_ rfl (λ pn E2 E hp => (pss_one (ps_expr (pe_ownX OX_law_deed_Clash hr hp (pa_cons (pv 0) pa_nil))))) (λ ea pn => pss_cons (ps_setL (i := 1) sc_law_kinds_of.nd (pe_lst (pa_cons (pe_callB call_isiB (by rfl) B.isinstance boot_isi (pa_cons (pv 2) (pa_cons (pe_glob (v := .ref ABadGame) rfl gy_BadGame rfl) pa_nil))) (pa_cons (pe_callB call_isiB (by rfl) B.isinstance boot_isi (pa_cons (pv 2) (pa_cons (pe_glob (v := .ref ABadCode) rfl gy_BadCode rfl) pa_nil))) (pa_cons (pe_callB call_isiB (by rfl) B.isinstance boot_isi (pa_cons (pv 2) (pa_cons (pe_glob (v := .ref ABadAsk) rfl gy_BadAsk rfl) pa_nil))) (pa_cons (pe_callB call_isiB (by rfl) B.isinstance boot_isi (pa_cons (pv 2) (pa_cons (pe_glob (v := .ref AClash) rfl gy_Clash rfl) pa_nil))) pa_nil)))))) (pss_one (ps_setL (i := 1) sc_law_kinds_of.nd (pe_op (kx_add K) (pv 1) (pe_lst (pa_cons (pe_callB call_isiB (by rfl) B.isinstance boot_isi (pa_cons (pv 2) (pa_cons (pe_glob (v := .ref ATooBig) rfl gy_TooBig rfl) pa_nil))) (pa_cons (pe_callB call_isiB (by rfl) B.isinstance boot_isi (pa_cons (pv 2) (pa_cons (pe_glob (v := .ref ABadText) rfl gy_BadText rfl) pa_nil))) pa_nil)))))))) (pss_one (ps_ret (pv 1)))), try_kinds (N := ["_law_way", "_law_some", "e"]) (i := 2) (j := 1) (ys := [.ref ABadGame, .ref ABadCode, .ref ABadAsk, .ref AClash]) (zs := [.ref ATooBig, .ref ABadText]) (λ E => (sx_drop (sxe_call (sa_cons (se_var 0) sa_nil)))) hex_Clash xc_Clash (.cons (Ans.cls k_Clash_BadGame) (.cons (Ans.cls k_Clash_BadCode) (.cons (Ans.cls k_Clash_BadAsk) (.cons (Ans.cls k_Clash_Clash) .nil)))) (.cons (Ans.cls k_Clash_TooBig) (.cons (Ans.cls k_Clash_BadText) .nil)) (by decide) (by decide) (by decide) (by decide) (by decide) sF ar c q⟩
         · rename_i c0
           split at e
           · rename_i c
             cases e
             exact ⟨_, pss_cons (ps_setL (i := 1) sc_law_kinds_of.nd (pe_lst pa_nil)) (pss_cons (ps_try (i := 2) rfl rfl rfl sc_law_kinds_of.nd rfl rfl gD_ rfl (λ pn E2 E hp => (pss_one (ps_expr (pe_ownX OX_law_deed_TooBig hr hp (pa_cons (pv 0) pa_nil))))) (λ ea pn => pss_cons (ps_setL (i := 1) sc_law_kinds_of.nd (pe_lst (pa_cons (pe_callB call_isiB (by rfl) B.isinstance boot_isi (pa_cons (pv 2) (pa_cons (pe_glob (v := .ref ABadGame) rfl gy_BadGame rfl) pa_nil))) (pa_cons (pe_callB call_isiB (by rfl) B.isinstance boot_isi (pa_cons (pv 2) (pa_cons (pe_glob (v := .ref ABadCode) rfl gy_BadCode rfl) pa_nil))) (pa_cons (pe_callB call_isiB (by rfl) B.isinstance boot_isi (pa_cons (pv 2) (pa_cons (pe_glob (v := .ref ABadAsk) rfl gy_BadAsk rfl) pa_nil))) (pa_cons (pe_callB call_isiB (by rfl) B.isinstance boot_isi (pa_cons (pv 2) (pa_cons (pe_glob (v := .ref AClash) rfl gy_Clash rfl) pa_nil))) pa_nil)))))) (pss_one (ps_setL (i := 1) sc_law_kinds_of.nd (pe_op (kx_add K) (pv 1) (pe_lst (pa_cons (pe_callB call_isiB (by rfl) B.isinstance boot_isi (pa_cons (pv 2) (pa_cons (pe_glob (v := .ref ATooBig) rfl gy_TooBig rfl) pa_nil))) (pa_cons (pe_callB call_isiB (by rfl) B.isinstance boot_isi (pa_cons (pv 2) (pa_cons (pe_glob (v := .ref ABadText) rfl gy_BadText rfl) pa_nil))) pa_nil)))))))) (pss_one (ps_ret (pv 1)))), try_kinds (N := ["_law_way", "_law_some", "e"]) (i := 2) (j := 1) (ys := [.ref ABadGame, .ref ABadCode, .ref ABadAsk, .ref AClash]) (zs := [.ref ATooBig, .ref ABadText]) (λ E => (sx_drop (sxe_call (sa_cons (se_var 0) sa_nil)))) hex_TooBig xc_TooBig (.cons (Ans.cls k_TooBig_BadGame) (.cons (Ans.cls k_TooBig_BadCode) (.cons (Ans.cls k_TooBig_BadAsk) (.cons (Ans.cls k_TooBig_Clash) .nil)))) (.cons (Ans.cls k_TooBig_TooBig) (.cons (Ans.cls k_TooBig_BadText) .nil)) (by decide) (by decide) (by decide) (by decide) (by decide) sF ar c q⟩
           · rename_i c0
             split at e
             · rename_i c
               cases e
               exact ⟨_, pss_cons (ps_setL (i := 1) sc_law_kinds_of.nd (pe_lst pa_nil)) (pss_cons (ps_try (i := 2) rfl rfl rfl sc_law_kinds_of.nd rfl rfl gD_ rfl (λ pn E2 E hp => (pss_one (ps_expr (pe_ownX OX_law_deed_BadText hr hp (pa_cons (pv 0) pa_nil))))) (λ ea pn => pss_cons (ps_setL (i := 1) sc_law_kinds_of.nd (pe_lst (pa_cons (pe_callB call_isiB (by rfl) B.isinstance boot_isi (pa_cons (pv 2) (pa_cons (pe_glob (v := .ref ABadGame) rfl gy_BadGame rfl) pa_nil))) (pa_cons (pe_callB call_isiB (by rfl) B.isinstance boot_isi (pa_cons (pv 2) (pa_cons (pe_glob (v := .ref ABadCode) rfl gy_BadCode rfl) pa_nil))) (pa_cons (pe_callB call_isiB (by rfl) B.isinstance boot_isi (pa_cons (pv 2) (pa_cons (pe_glob (v := .ref ABadAsk) rfl gy_BadAsk rfl) pa_nil))) (pa_cons (pe_callB call_isiB (by rfl) B.isinstance boot_isi (pa_cons (pv 2) (pa_cons (pe_glob (v := .ref AClash) rfl gy_Clash rfl) pa_nil))) pa_nil)))))) (pss_one (ps_setL (i := 1) sc_law_kinds_of.nd (pe_op (kx_add K) (pv 1) (pe_lst (pa_cons (pe_callB call_isiB (by rfl) B.isinstance boot_isi (pa_cons (pv 2) (pa_cons (pe_glob (v := .ref ATooBig) rfl gy_TooBig rfl) pa_nil))) (pa_cons (pe_callB call_isiB (by rfl) B.isinstance boot_isi (pa_cons (pv 2) (pa_cons (pe_glob (v := .ref ABadText) rfl gy_BadText rfl) pa_nil))) pa_nil)))))))) (pss_one (ps_ret (pv 1)))), try_kinds (N := ["_law_way", "_law_some", "e"]) (i := 2) (j := 1) (ys := [.ref ABadGame, .ref ABadCode, .ref ABadAsk, .ref AClash]) (zs := [.ref ATooBig, .ref ABadText]) (λ E => (sx_drop (sxe_call (sa_cons (se_var 0) sa_nil)))) hex_BadText xc_BadText (.cons (Ans.cls k_BadText_BadGame) (.cons (Ans.cls k_BadText_BadCode) (.cons (Ans.cls k_BadText_BadAsk) (.cons (Ans.cls k_BadText_Clash) .nil)))) (.cons (Ans.cls k_BadText_TooBig) (.cons (Ans.cls k_BadText_BadText) .nil)) (by decide) (by decide) (by decide) (by decide) (by decide) sF ar c q⟩
             · cases e
theorem oklaw (F : Fun K "law" "law" slaw f fd) (B : Bt mg) (O_law_cell : W_law_cell P w K mg base) (O_law_kinds_of : W_law_kinds_of P w K mg base) : FnOk P w K mg base CX0 10 f fd ["_law_script"] (spD K 1 Flaw) :=
 fun_okD F sclaw rfl rfl λ cdv A outer s H E hr => have hu := hr.units
  ⟨_, (pss_cons (ps_setL (i := 1) sclaw.nd (pe_op op_mod (pe_own O_law_cell hr (pa_cons (pv 0) (pa_cons pe_int pa_nil))) pe_int)) (pss_one (ps_ret (pe_cmpR (kx_eqD K hu) (pe_own O_law_kinds_of hr (pa_cons (pv 1) pa_nil)) (pe_compC ["_law_k"] [("_law_way", 1)] (pi_range1 rfl B.range (pa_cons pe_int pa_nil)) (λ _ _ _ _ => (pg_name (i := 0) (show List.Nodup (["_law_k", "_law_way"] : List Str) by decide +kernel) rfl (by first | exact Or.inl rfl | exact Or.inr rfl))) (λ _ _ _ _ => pts_nil) (λ _ _ _ _ => (pe_cmpR (kx_eqD K hu) (pv 0) (pv 1) (nomark _)))) (nomark _))))), (ss_seq (ss_set 1 (se_op od_mod (se_call (sa_cons (se_var 0) (sa_cons se_int sa_nil))) se_int)) (ss_ret (se_op od_eq (se_call (sa_cons (se_var 1) sa_nil)) (se_own (so_comp (si_rng1 (sa_cons se_int sa_nil)) (sg_name 0) low_name st_yes (se_op od_eq (se_var 0) (se_var 1)))))))⟩
end
theorem all_mk {l : PySem.W.OpenLaw} {w : World} {K : Fg} {h : Heap} {mg : Str -> Option Value} {fa : Addr} (X : K.In h) (G : h.Ns mainGlobals mg) (hfa : mg "law" = some (.ref fa))
 {od0 an0 : Option Addr} {sl0 : Array (Option Value)} {oc0 kV0 dc0 pm0 cd0 ct0 : Value} {f0 : Addr} {od1 an1 : Option Addr} {sl1 : Array (Option Value)} {oc1 kV1 dc1 pm1 cd1 ct1 : Value} {f1 : Addr} {od2 an2 : Option Addr} {sl2 : Array (Option Value)} {oc2 kV2 dc2 pm2 cd2 ct2 : Value} {f2 : Addr} {od3 an3 : Option Addr} {sl3 : Array (Option Value)} {oc3 kV3 dc3 pm3 cd3 ct3 : Value} {f3 : Addr} {od4 an4 : Option Addr} {sl4 : Array (Option Value)} {oc4 kV4 dc4 pm4 cd4 ct4 : Value} {f4 : Addr} {od5 an5 : Option Addr} {sl5 : Array (Option Value)} {oc5 kV5 dc5 pm5 cd5 ct5 : Value} {f5 : Addr} {od6 an6 : Option Addr} {sl6 : Array (Option Value)} {oc6 kV6 dc6 pm6 cd6 ct6 : Value} {f6 : Addr} {od7 an7 : Option Addr} {sl7 : Array (Option Value)} {oc7 kV7 dc7 pm7 cd7 ct7 : Value} {f7 : Addr} {od8 an8 : Option Addr} {sl8 : Array (Option Value)} {oc8 kV8 dc8 pm8 cd8 ct8 : Value} {f8 : Addr} {od9 an9 : Option Addr} {sl9 : Array (Option Value)} {oc9 kV9 dc9 pm9 cd9 ct9 : Value} {f9 : Addr} {od10 an10 : Option Addr} {sl10 : Array (Option Value)} {oc10 kV10 dc10 pm10 cd10 ct10 : Value} {f10 : Addr} {od11 an11 : Option Addr} {sl11 : Array (Option Value)} {oc11 kV11 dc11 pm11 cd11 ct11 : Value} {f11 : Addr} {od12 an12 : Option Addr} {sl12 : Array (Option Value)} {oc12 kV12 dc12 pm12 cd12 ct12 : Value} {f12 : Addr} {od13 an13 : Option Addr} {sl13 : Array (Option Value)} {oc13 kV13 dc13 pm13 cd13 ct13 : Value} {f13 : Addr} {od14 an14 : Option Addr} {sl14 : Array (Option Value)} {oc14 kV14 dc14 pm14 cd14 ct14 : Value} {f14 : Addr} {od15 an15 : Option Addr} {sl15 : Array (Option Value)} {oc15 kV15 dc15 pm15 cd15 ct15 : Value} {f15 : Addr} {od16 an16 : Option Addr} {sl16 : Array (Option Value)} {oc16 kV16 dc16 pm16 cd16 ct16 : Value} {f16 : Addr} {od17 an17 : Option Addr} {sl17 : Array (Option Value)} {oc17 kV17 dc17 pm17 cd17 ct17 : Value} {f17 : Addr} {od18 an18 : Option Addr} {sl18 : Array (Option Value)} {oc18 kV18 dc18 pm18 cd18 ct18 : Value} {f18 : Addr} {od19 an19 : Option Addr} {sl19 : Array (Option Value)} {oc19 kV19 dc19 pm19 cd19 ct19 : Value} {f19 : Addr} {od20 an20 : Option Addr} {sl20 : Array (Option Value)} {oc20 kV20 dc20 pm20 cd20 ct20 : Value} {f20 : Addr} {od21 an21 : Option Addr} {sl21 : Array (Option Value)} {oc21 kV21 dc21 pm21 cd21 ct21 : Value} {f21 : Addr} {od22 an22 : Option Addr} {sl22 : Array (Option Value)} {oc22 kV22 dc22 pm22 cd22 ct22 : Value} {f22 : Addr} {od23 an23 : Option Addr} {sl23 : Array (Option Value)} {oc23 kV23 dc23 pm23 cd23 ct23 : Value} {f23 : Addr} {od24 an24 : Option Addr} {sl24 : Array (Option Value)} {oc24 kV24 dc24 pm24 cd24 ct24 : Value} {f24 : Addr} {od25 an25 : Option Addr} {sl25 : Array (Option Value)} {oc25 kV25 dc25 pm25 cd25 ct25 : Value} {f25 : Addr} {CGuessError : Addr} {CBadGame : Addr} {CBadCode : Addr} {CBadAsk : Addr} {CClash : Addr} {CTooBig : Addr} {CBadText : Addr} {fIBadAsk : Addr} {odIBadAsk anIBadAsk : Option Addr} {slIBadAsk : Array (Option Value)} {ocIBadAsk kVIBadAsk dcIBadAsk pmIBadAsk cdIBadAsk ctIBadAsk : Value}
 (a0 : PySem.W.nsIn K mainGlobals "_law_cell" = some (some (.ref f0))) (l0 : K.lookup f0 = some ⟨oc0, od0, .func (PySem.W.fnOf "_law_cell" "_law_cell" (defArgs s_law_cell) (defBody s_law_cell) (defScope s_law_cell) .none kV0 dc0 pm0 an0 cd0 ct0), sl0⟩) (c0 : PySem.W.codeIn K cd0 "_law_cell" = true) (k0 : PySem.W.keepIn K (.ref f0) = true)
 (a1 : PySem.W.nsIn K mainGlobals "is_pair" = some (some (.ref f1))) (l1 : K.lookup f1 = some ⟨oc1, od1, .func (PySem.W.fnOf "is_pair" "is_pair" (defArgs sis_pair) (defBody sis_pair) (defScope sis_pair) .none kV1 dc1 pm1 an1 cd1 ct1), sl1⟩) (c1 : PySem.W.codeIn K cd1 "is_pair" = true) (k1 : PySem.W.keepIn K (.ref f1) = true)
 (a2 : PySem.W.nsIn K mainGlobals "is_number_within" = some (some (.ref f2))) (l2 : K.lookup f2 = some ⟨oc2, od2, .func (PySem.W.fnOf "is_number_within" "is_number_within" (defArgs sis_number_within) (defBody sis_number_within) (defScope sis_number_within) .none kV2 dc2 pm2 an2 cd2 ct2), sl2⟩) (c2 : PySem.W.codeIn K cd2 "is_number_within" = true) (k2 : PySem.W.keepIn K (.ref f2) = true)
 (a3 : PySem.W.nsIn K mainGlobals "how_many_codes" = some (some (.ref f3))) (l3 : K.lookup f3 = some ⟨oc3, od3, .func (PySem.W.fnOf "how_many_codes" "how_many_codes" (defArgs show_many_codes) (defBody show_many_codes) (defScope show_many_codes) .none kV3 dc3 pm3 an3 cd3 ct3), sl3⟩) (c3 : PySem.W.codeIn K cd3 "how_many_codes" = true) (k3 : PySem.W.keepIn K (.ref f3) = true)
 (a4 : PySem.W.nsIn K mainGlobals "is_game" = some (some (.ref f4))) (l4 : K.lookup f4 = some ⟨oc4, od4, .func (PySem.W.fnOf "is_game" "is_game" (defArgs sis_game) (defBody sis_game) (defScope sis_game) .none kV4 dc4 pm4 an4 cd4 ct4), sl4⟩) (c4 : PySem.W.codeIn K cd4 "is_game" = true) (k4 : PySem.W.keepIn K (.ref f4) = true)
 (a5 : PySem.W.nsIn K mainGlobals "checked_game" = some (some (.ref f5))) (l5 : K.lookup f5 = some ⟨oc5, od5, .func (PySem.W.fnOf "checked_game" "checked_game" (defArgs schecked_game) (defBody schecked_game) (defScope schecked_game) .none kV5 dc5 pm5 an5 cd5 ct5), sl5⟩) (c5 : PySem.W.codeIn K cd5 "checked_game" = true) (k5 : PySem.W.keepIn K (.ref f5) = true)
 (a6 : PySem.W.nsIn K mainGlobals "answer" = some (some (.ref f6))) (l6 : K.lookup f6 = some ⟨oc6, od6, .func (PySem.W.fnOf "answer" "answer" (defArgs sanswer) (defBody sanswer) (defScope sanswer) .none kV6 dc6 pm6 an6 cd6 ct6), sl6⟩) (c6 : PySem.W.codeIn K cd6 "answer" = true) (k6 : PySem.W.keepIn K (.ref f6) = true)
 (a7 : PySem.W.nsIn K mainGlobals "is_code" = some (some (.ref f7))) (l7 : K.lookup f7 = some ⟨oc7, od7, .func (PySem.W.fnOf "is_code" "is_code" (defArgs sis_code) (defBody sis_code) (defScope sis_code) .none kV7 dc7 pm7 an7 cd7 ct7), sl7⟩) (c7 : PySem.W.codeIn K cd7 "is_code" = true) (k7 : PySem.W.keepIn K (.ref f7) = true)
 (a8 : PySem.W.nsIn K mainGlobals "is_answer" = some (some (.ref f8))) (l8 : K.lookup f8 = some ⟨oc8, od8, .func (PySem.W.fnOf "is_answer" "is_answer" (defArgs sis_answer) (defBody sis_answer) (defScope sis_answer) .none kV8 dc8 pm8 an8 cd8 ct8), sl8⟩) (c8 : PySem.W.codeIn K cd8 "is_answer" = true) (k8 : PySem.W.keepIn K (.ref f8) = true)
 (a9 : PySem.W.nsIn K mainGlobals "is_ask" = some (some (.ref f9))) (l9 : K.lookup f9 = some ⟨oc9, od9, .func (PySem.W.fnOf "is_ask" "is_ask" (defArgs sis_ask) (defBody sis_ask) (defScope sis_ask) .none kV9 dc9 pm9 an9 cd9 ct9), sl9⟩) (c9 : PySem.W.codeIn K cd9 "is_ask" = true) (k9 : PySem.W.keepIn K (.ref f9) = true)
 (a10 : PySem.W.nsIn K mainGlobals "checked_list" = some (some (.ref f10))) (l10 : K.lookup f10 = some ⟨oc10, od10, .func (PySem.W.fnOf "checked_list" "checked_list" (defArgs schecked_list) (defBody schecked_list) (defScope schecked_list) .none kV10 dc10 pm10 an10 cd10 ct10), sl10⟩) (c10 : PySem.W.codeIn K cd10 "checked_list" = true) (k10 : PySem.W.keepIn K (.ref f10) = true)
 (a11 : PySem.W.nsIn K mainGlobals "checked_asks" = some (some (.ref f11))) (l11 : K.lookup f11 = some ⟨oc11, od11, .func (PySem.W.fnOf "checked_asks" "checked_asks" (defArgs schecked_asks) (defBody schecked_asks) (defScope schecked_asks) .none kV11 dc11 pm11 an11 cd11 ct11), sl11⟩) (c11 : PySem.W.codeIn K cd11 "checked_asks" = true) (k11 : PySem.W.keepIn K (.ref f11) = true)
 (a12 : PySem.W.nsIn K mainGlobals "answer_of" = some (some (.ref f12))) (l12 : K.lookup f12 = some ⟨oc12, od12, .func (PySem.W.fnOf "answer_of" "answer_of" (defArgs sanswer_of) (defBody sanswer_of) (defScope sanswer_of) .none kV12 dc12 pm12 an12 cd12 ct12), sl12⟩) (c12 : PySem.W.codeIn K cd12 "answer_of" = true) (k12 : PySem.W.keepIn K (.ref f12) = true)
 (a13 : PySem.W.nsIn K mainGlobals "fits_ask" = some (some (.ref f13))) (l13 : K.lookup f13 = some ⟨oc13, od13, .func (PySem.W.fnOf "fits_ask" "fits_ask" (defArgs sfits_ask) (defBody sfits_ask) (defScope sfits_ask) .none kV13 dc13 pm13 an13 cd13 ct13), sl13⟩) (c13 : PySem.W.codeIn K cd13 "fits_ask" = true) (k13 : PySem.W.keepIn K (.ref f13) = true)
 (a14 : PySem.W.nsIn K mainGlobals "those_that_fit" = some (some (.ref f14))) (l14 : K.lookup f14 = some ⟨oc14, od14, .func (PySem.W.fnOf "those_that_fit" "those_that_fit" (defArgs sthose_that_fit) (defBody sthose_that_fit) (defScope sthose_that_fit) .none kV14 dc14 pm14 an14 cd14 ct14), sl14⟩) (c14 : PySem.W.codeIn K cd14 "those_that_fit" = true) (k14 : PySem.W.keepIn K (.ref f14) = true)
 (a15 : PySem.W.nsIn K mainGlobals "all_codes" = some (some (.ref f15))) (l15 : K.lookup f15 = some ⟨oc15, od15, .func (PySem.W.fnOf "all_codes" "all_codes" (defArgs sall_codes) (defBody sall_codes) (defScope sall_codes) .none kV15 dc15 pm15 an15 cd15 ct15), sl15⟩) (c15 : PySem.W.codeIn K cd15 "all_codes" = true) (k15 : PySem.W.keepIn K (.ref f15) = true)
 (a16 : PySem.W.nsIn K mainGlobals "what_fits" = some (some (.ref f16))) (l16 : K.lookup f16 = some ⟨oc16, od16, .func (PySem.W.fnOf "what_fits" "what_fits" (defArgs swhat_fits) (defBody swhat_fits) (defScope swhat_fits) .none kV16 dc16 pm16 an16 cd16 ct16), sl16⟩) (c16 : PySem.W.codeIn K cd16 "what_fits" = true) (k16 : PySem.W.keepIn K (.ref f16) = true)
 (a17 : PySem.W.nsIn K mainGlobals "found_or_clash" = some (some (.ref f17))) (l17 : K.lookup f17 = some ⟨oc17, od17, .func (PySem.W.fnOf "found_or_clash" "found_or_clash" (defArgs sfound_or_clash) (defBody sfound_or_clash) (defScope sfound_or_clash) .none kV17 dc17 pm17 an17 cd17 ct17), sl17⟩) (c17 : PySem.W.codeIn K cd17 "found_or_clash" = true) (k17 : PySem.W.keepIn K (.ref f17) = true)
 (a18 : PySem.W.nsIn K mainGlobals "settled" = some (some (.ref f18))) (l18 : K.lookup f18 = some ⟨oc18, od18, .func (PySem.W.fnOf "settled" "settled" (defArgs ssettled) (defBody ssettled) (defScope ssettled) .none kV18 dc18 pm18 an18 cd18 ct18), sl18⟩) (c18 : PySem.W.codeIn K cd18 "settled" = true) (k18 : PySem.W.keepIn K (.ref f18) = true)
 (a19 : PySem.W.nsIn K mainGlobals "small_game" = some (some (.ref f19))) (l19 : K.lookup f19 = some ⟨oc19, od19, .func (PySem.W.fnOf "small_game" "small_game" (defArgs ssmall_game) (defBody ssmall_game) (defScope ssmall_game) .none kV19 dc19 pm19 an19 cd19 ct19), sl19⟩) (c19 : PySem.W.codeIn K cd19 "small_game" = true) (k19 : PySem.W.keepIn K (.ref f19) = true)
 (a20 : PySem.W.nsIn K mainGlobals "fewest_settling" = some (some (.ref f20))) (l20 : K.lookup f20 = some ⟨oc20, od20, .func (PySem.W.fnOf "fewest_settling" "fewest_settling" (defArgs sfewest_settling) (defBody sfewest_settling) (defScope sfewest_settling) .none kV20 dc20 pm20 an20 cd20 ct20), sl20⟩) (c20 : PySem.W.codeIn K cd20 "fewest_settling" = true) (k20 : PySem.W.keepIn K (.ref f20) = true)
 (a21 : PySem.W.nsIn K mainGlobals "read" = some (some (.ref f21))) (l21 : K.lookup f21 = some ⟨oc21, od21, .func (PySem.W.fnOf "read" "read" (defArgs sread) (defBody sread) (defScope sread) .none kV21 dc21 pm21 an21 cd21 ct21), sl21⟩) (c21 : PySem.W.codeIn K cd21 "read" = true) (k21 : PySem.W.keepIn K (.ref f21) = true)
 (a22 : PySem.W.nsIn K mainGlobals "_law_deed" = some (some (.ref f22))) (l22 : K.lookup f22 = some ⟨oc22, od22, .func (PySem.W.fnOf "_law_deed" "_law_deed" (defArgs s_law_deed) (defBody s_law_deed) (defScope s_law_deed) .none kV22 dc22 pm22 an22 cd22 ct22), sl22⟩) (c22 : PySem.W.codeIn K cd22 "_law_deed" = true) (k22 : PySem.W.keepIn K (.ref f22) = true)
 (a23 : PySem.W.nsIn K mainGlobals "checked_code" = some (some (.ref f23))) (l23 : K.lookup f23 = some ⟨oc23, od23, .func (PySem.W.fnOf "checked_code" "checked_code" (defArgs schecked_code) (defBody schecked_code) (defScope schecked_code) .none kV23 dc23 pm23 an23 cd23 ct23), sl23⟩) (c23 : PySem.W.codeIn K cd23 "checked_code" = true) (k23 : PySem.W.keepIn K (.ref f23) = true)
 (a24 : PySem.W.nsIn K mainGlobals "_law_kinds_of" = some (some (.ref f24))) (l24 : K.lookup f24 = some ⟨oc24, od24, .func (PySem.W.fnOf "_law_kinds_of" "_law_kinds_of" (defArgs s_law_kinds_of) (defBody s_law_kinds_of) (defScope s_law_kinds_of) .none kV24 dc24 pm24 an24 cd24 ct24), sl24⟩) (c24 : PySem.W.codeIn K cd24 "_law_kinds_of" = true) (k24 : PySem.W.keepIn K (.ref f24) = true)
 (a25 : PySem.W.nsIn K mainGlobals "law" = some (some (.ref f25))) (l25 : K.lookup f25 = some ⟨oc25, od25, .func (PySem.W.fnOf "law" "law" (defArgs slaw) (defBody slaw) (defScope slaw) .none kV25 dc25 pm25 an25 cd25 ct25), sl25⟩) (c25 : PySem.W.codeIn K cd25 "law" = true) (k25 : PySem.W.keepIn K (.ref f25) = true)
 {tMOST_PLACES : Tok} (gMOST_PLACES : PySem.W.nsIn K mainGlobals "MOST_PLACES" = some (some (.int 5 tMOST_PLACES)))
 {tMOST_COLOURS : Tok} (gMOST_COLOURS : PySem.W.nsIn K mainGlobals "MOST_COLOURS" = some (some (.int 8 tMOST_COLOURS)))
 {tMOST_CODES : Tok} (gMOST_CODES : PySem.W.nsIn K mainGlobals "MOST_CODES" = some (some (.int 300 tMOST_CODES)))
 {tMOST_ASKS : Tok} (gMOST_ASKS : PySem.W.nsIn K mainGlobals "MOST_ASKS" = some (some (.int 8 tMOST_ASKS)))
 {tMOST_CODES_SEARCHED : Tok} (gMOST_CODES_SEARCHED : PySem.W.nsIn K mainGlobals "MOST_CODES_SEARCHED" = some (some (.int 16 tMOST_CODES_SEARCHED)))
 (yGuessError : PySem.W.nsIn K mainGlobals "GuessError" = some (some (.ref CGuessError)))
 (yBadGame : PySem.W.nsIn K mainGlobals "BadGame" = some (some (.ref CBadGame)))
 (yBadCode : PySem.W.nsIn K mainGlobals "BadCode" = some (some (.ref CBadCode)))
 (yBadAsk : PySem.W.nsIn K mainGlobals "BadAsk" = some (some (.ref CBadAsk)))
 (yClash : PySem.W.nsIn K mainGlobals "Clash" = some (some (.ref CClash)))
 (yTooBig : PySem.W.nsIn K mainGlobals "TooBig" = some (some (.ref CTooBig)))
 (yBadText : PySem.W.nsIn K mainGlobals "BadText" = some (some (.ref CBadText)))
 (xBadGame : PySem.W.excIn K CBadGame [.type "ValueError", .type "Exception", .type "BaseException", .type "object"] "ValueError.__new__" = true)
 (eBadGame : PySem.W.exmOne K (.ref CBadGame) (.ref CGuessError) = some true)
 (uBadGameBadGame : PySem.W.kitOne K (.ref CBadGame) (.ref CBadGame) = some true)
 (uBadGameBadCode : PySem.W.kitOne K (.ref CBadGame) (.ref CBadCode) = some false)
 (uBadGameBadAsk : PySem.W.kitOne K (.ref CBadGame) (.ref CBadAsk) = some false)
 (uBadGameClash : PySem.W.kitOne K (.ref CBadGame) (.ref CClash) = some false)
 (uBadGameTooBig : PySem.W.kitOne K (.ref CBadGame) (.ref CTooBig) = some false)
 (uBadGameBadText : PySem.W.kitOne K (.ref CBadGame) (.ref CBadText) = some false)
 (q0BadGame : PySem.W.findIn K (.ref CBadGame) "__getattribute__" = some (some (.builtin "BaseException.__getattribute__")))
 (q1BadGame : PySem.W.findIn K (.ref CBadGame) "__getattr__" = some none)
 (q4BadGame : PySem.W.mroIn K CBadGame (.type "BaseException") = some true)
 (q2BadGame : PySem.W.findIn K (.ref CBadGame) "__class__" = some (some (.builtin "object.__class__")))
 (q3BadGame : PySem.W.mroIn K CBadGame (.type "object") = some true)
 (xBadCode : PySem.W.excIn K CBadCode [.type "ValueError", .type "Exception", .type "BaseException", .type "object"] "ValueError.__new__" = true)
 (eBadCode : PySem.W.exmOne K (.ref CBadCode) (.ref CGuessError) = some true)
 (uBadCodeBadGame : PySem.W.kitOne K (.ref CBadCode) (.ref CBadGame) = some false)
 (uBadCodeBadCode : PySem.W.kitOne K (.ref CBadCode) (.ref CBadCode) = some true)
 (uBadCodeBadAsk : PySem.W.kitOne K (.ref CBadCode) (.ref CBadAsk) = some false)
 (uBadCodeClash : PySem.W.kitOne K (.ref CBadCode) (.ref CClash) = some false)
 (uBadCodeTooBig : PySem.W.kitOne K (.ref CBadCode) (.ref CTooBig) = some false)
 (uBadCodeBadText : PySem.W.kitOne K (.ref CBadCode) (.ref CBadText) = some false)
 (q0BadCode : PySem.W.findIn K (.ref CBadCode) "__getattribute__" = some (some (.builtin "BaseException.__getattribute__")))
 (q1BadCode : PySem.W.findIn K (.ref CBadCode) "__getattr__" = some none)
 (q4BadCode : PySem.W.mroIn K CBadCode (.type "BaseException") = some true)
 (q2BadCode : PySem.W.findIn K (.ref CBadCode) "__class__" = some (some (.builtin "object.__class__")))
 (q3BadCode : PySem.W.mroIn K CBadCode (.type "object") = some true)
 (f0BadAsk : PySem.W.findIn K (.ref CBadAsk) "__init__" = some (some (.ref fIBadAsk)))
 (icBadAsk : excInI K CBadAsk fIBadAsk vmro "ValueError.__new__" = true)
 (lIBadAsk : K.lookup fIBadAsk = some ⟨ocIBadAsk, odIBadAsk, .func (PySem.W.fnOf "__init__" "BadAsk.__init__" (defArgs sBadAsk_init) (defBody sBadAsk_init) (defScope sBadAsk_init) .none kVIBadAsk dcIBadAsk pmIBadAsk anIBadAsk cdIBadAsk ctIBadAsk), slIBadAsk⟩)
 (cIBadAsk : PySem.W.codeIn K cdIBadAsk "BadAsk.__init__" = true)
 (kIBadAsk : PySem.W.keepIn K (.ref fIBadAsk) = true)
 (fnBadAsk : (K.lookup fIBadAsk).map (·.cls) = some (.type "function"))
 (kpBadAsk : PySem.W.keepIn K (.ref CBadAsk) = true)
 (b1BadAsk : PySem.W.specialIn K (.ref CGuessError) "__getattribute__" = some (some (.builtin "type.__getattribute__")))
 (b2BadAsk : PySem.W.readsIn K CGuessError (.type "type") = true)
 (b3BadAsk : PySem.W.findCls K (.ref CGuessError) (.type "type") "__init__" = some (.val (.builtin "ValueError.__init__")))
 (p1BadAsk : PySem.W.findIn K (.ref CBadAsk) "at" = some none)
 (p2BadAsk : PySem.W.findIn K (.ref CBadAsk) "__setattr__" = some (some (.builtin "object.__setattr__")))
 (eBadAsk : PySem.W.exmOne K (.ref CBadAsk) (.ref CGuessError) = some true)
 (uBadAskBadGame : PySem.W.kitOne K (.ref CBadAsk) (.ref CBadGame) = some false)
 (uBadAskBadCode : PySem.W.kitOne K (.ref CBadAsk) (.ref CBadCode) = some false)
 (uBadAskBadAsk : PySem.W.kitOne K (.ref CBadAsk) (.ref CBadAsk) = some true)
 (uBadAskClash : PySem.W.kitOne K (.ref CBadAsk) (.ref CClash) = some false)
 (uBadAskTooBig : PySem.W.kitOne K (.ref CBadAsk) (.ref CTooBig) = some false)
 (uBadAskBadText : PySem.W.kitOne K (.ref CBadAsk) (.ref CBadText) = some false)
 (q0BadAsk : PySem.W.findIn K (.ref CBadAsk) "__getattribute__" = some (some (.builtin "BaseException.__getattribute__")))
 (q1BadAsk : PySem.W.findIn K (.ref CBadAsk) "__getattr__" = some none)
 (q4BadAsk : PySem.W.mroIn K CBadAsk (.type "BaseException") = some true)
 (q2BadAsk : PySem.W.findIn K (.ref CBadAsk) "__class__" = some (some (.builtin "object.__class__")))
 (q3BadAsk : PySem.W.mroIn K CBadAsk (.type "object") = some true)
 (xClash : PySem.W.excIn K CClash [.type "ValueError", .type "Exception", .type "BaseException", .type "object"] "ValueError.__new__" = true)
 (eClash : PySem.W.exmOne K (.ref CClash) (.ref CGuessError) = some true)
 (uClashBadGame : PySem.W.kitOne K (.ref CClash) (.ref CBadGame) = some false)
 (uClashBadCode : PySem.W.kitOne K (.ref CClash) (.ref CBadCode) = some false)
 (uClashBadAsk : PySem.W.kitOne K (.ref CClash) (.ref CBadAsk) = some false)
 (uClashClash : PySem.W.kitOne K (.ref CClash) (.ref CClash) = some true)
 (uClashTooBig : PySem.W.kitOne K (.ref CClash) (.ref CTooBig) = some false)
 (uClashBadText : PySem.W.kitOne K (.ref CClash) (.ref CBadText) = some false)
 (q0Clash : PySem.W.findIn K (.ref CClash) "__getattribute__" = some (some (.builtin "BaseException.__getattribute__")))
 (q1Clash : PySem.W.findIn K (.ref CClash) "__getattr__" = some none)
 (q4Clash : PySem.W.mroIn K CClash (.type "BaseException") = some true)
 (q2Clash : PySem.W.findIn K (.ref CClash) "__class__" = some (some (.builtin "object.__class__")))
 (q3Clash : PySem.W.mroIn K CClash (.type "object") = some true)
 (xTooBig : PySem.W.excIn K CTooBig [.type "ValueError", .type "Exception", .type "BaseException", .type "object"] "ValueError.__new__" = true)
 (eTooBig : PySem.W.exmOne K (.ref CTooBig) (.ref CGuessError) = some true)
 (uTooBigBadGame : PySem.W.kitOne K (.ref CTooBig) (.ref CBadGame) = some false)
 (uTooBigBadCode : PySem.W.kitOne K (.ref CTooBig) (.ref CBadCode) = some false)
 (uTooBigBadAsk : PySem.W.kitOne K (.ref CTooBig) (.ref CBadAsk) = some false)
 (uTooBigClash : PySem.W.kitOne K (.ref CTooBig) (.ref CClash) = some false)
 (uTooBigTooBig : PySem.W.kitOne K (.ref CTooBig) (.ref CTooBig) = some true)
 (uTooBigBadText : PySem.W.kitOne K (.ref CTooBig) (.ref CBadText) = some false)
 (q0TooBig : PySem.W.findIn K (.ref CTooBig) "__getattribute__" = some (some (.builtin "BaseException.__getattribute__")))
 (q1TooBig : PySem.W.findIn K (.ref CTooBig) "__getattr__" = some none)
 (q4TooBig : PySem.W.mroIn K CTooBig (.type "BaseException") = some true)
 (q2TooBig : PySem.W.findIn K (.ref CTooBig) "__class__" = some (some (.builtin "object.__class__")))
 (q3TooBig : PySem.W.mroIn K CTooBig (.type "object") = some true)
 (xBadText : PySem.W.excIn K CBadText [.type "ValueError", .type "Exception", .type "BaseException", .type "object"] "ValueError.__new__" = true)
 (eBadText : PySem.W.exmOne K (.ref CBadText) (.ref CGuessError) = some true)
 (uBadTextBadGame : PySem.W.kitOne K (.ref CBadText) (.ref CBadGame) = some false)
 (uBadTextBadCode : PySem.W.kitOne K (.ref CBadText) (.ref CBadCode) = some false)
 (uBadTextBadAsk : PySem.W.kitOne K (.ref CBadText) (.ref CBadAsk) = some false)
 (uBadTextClash : PySem.W.kitOne K (.ref CBadText) (.ref CClash) = some false)
 (uBadTextTooBig : PySem.W.kitOne K (.ref CBadText) (.ref CTooBig) = some false)
 (uBadTextBadText : PySem.W.kitOne K (.ref CBadText) (.ref CBadText) = some true)
 (q0BadText : PySem.W.findIn K (.ref CBadText) "__getattribute__" = some (some (.builtin "BaseException.__getattribute__")))
 (q1BadText : PySem.W.findIn K (.ref CBadText) "__getattr__" = some none)
 (q4BadText : PySem.W.mroIn K CBadText (.type "BaseException") = some true)
 (q2BadText : PySem.W.findIn K (.ref CBadText) "__class__" = some (some (.builtin "object.__class__")))
 (q3BadText : PySem.W.mroIn K CBadText (.type "object") = some true)
 (r1 : PySem.W.specialIn K (.builtin "object.__class__") "__get__" = some (some (.builtin "getset_descriptor.__get__")))
 (r2 : PySem.W.takesIn K (.builtin "object.__class__") = some true)
 (zlen : PySem.W.nsIn K mainGlobals "len" = some none)
 (zisinstance : PySem.W.nsIn K mainGlobals "isinstance" = some none)
 (zrange : PySem.W.nsIn K mainGlobals "range" = some none)
 (zint : PySem.W.nsIn K mainGlobals "int" = some none)
 (zbool : PySem.W.nsIn K mainGlobals "bool" = some none)
 (ztuple : PySem.W.nsIn K mainGlobals "tuple" = some none)
 (zlist : PySem.W.nsIn K mainGlobals "list" = some none)
 (zall : PySem.W.nsIn K mainGlobals "all" = some none)
 (zenumerate : PySem.W.nsIn K mainGlobals "enumerate" = some none)
 (zzip : PySem.W.nsIn K mainGlobals "zip" = some none)
 (zsum : PySem.W.nsIn K mainGlobals "sum" = some none)
 (zsorted : PySem.W.nsIn K mainGlobals "sorted" = some none)
 (zmax : PySem.W.nsIn K mainGlobals "max" = some none)
 (zmin : PySem.W.nsIn K mainGlobals "min" = some none)
 (zset : PySem.W.nsIn K mainGlobals "set" = some none)
 (zstr : PySem.W.nsIn K mainGlobals "str" = some none)
:
 ∃ fd : FuncData, (∀ (s : Shared) (v : Value), BindsTo s fd ⟨[v], []⟩ [("_law_script", v)]) /\ ∀ base : Heap, K.In base -> base.Ns mainGlobals mg -> BMdB base mg -> FnOk l.prog w K mg base CX0 10 fa fd ["_law_script"] (spD K 1 Flaw) := by
 have e := hfa.symm.trans (PySem.W.mg_of X G a25)
 cases e
 have B : Bt mg := ⟨PySem.W.mg_none_of X G zlen, PySem.W.mg_none_of X G zisinstance, PySem.W.mg_none_of X G zrange, PySem.W.mg_none_of X G zint, PySem.W.mg_none_of X G zbool, PySem.W.mg_none_of X G ztuple, PySem.W.mg_none_of X G zlist, PySem.W.mg_none_of X G zall, PySem.W.mg_none_of X G zenumerate, PySem.W.mg_none_of X G zzip, PySem.W.mg_none_of X G zsum, PySem.W.mg_none_of X G zsorted, PySem.W.mg_none_of X G zmax, PySem.W.mg_none_of X G zmin, PySem.W.mg_none_of X G zset, PySem.W.mg_none_of X G zstr⟩
 have F0_ := fun_mk (st := s_law_cell) l0 c0 k0
 have F1_ := fun_mk (st := sis_pair) l1 c1 k1
 have F2_ := fun_mk (st := sis_number_within) l2 c2 k2
 have F3_ := fun_mk (st := show_many_codes) l3 c3 k3
 have F4_ := fun_mk (st := sis_game) l4 c4 k4
 have F5_ := fun_mk (st := schecked_game) l5 c5 k5
 have F6_ := fun_mk (st := sanswer) l6 c6 k6
 have F7_ := fun_mk (st := sis_code) l7 c7 k7
 have F8_ := fun_mk (st := sis_answer) l8 c8 k8
 have F9_ := fun_mk (st := sis_ask) l9 c9 k9
 have F10_ := fun_mk (st := schecked_list) l10 c10 k10
 have F11_ := fun_mk (st := schecked_asks) l11 c11 k11
 have F12_ := fun_mk (st := sanswer_of) l12 c12 k12
 have F13_ := fun_mk (st := sfits_ask) l13 c13 k13
 have F14_ := fun_mk (st := sthose_that_fit) l14 c14 k14
 have F15_ := fun_mk (st := sall_codes) l15 c15 k15
 have F16_ := fun_mk (st := swhat_fits) l16 c16 k16
 have F17_ := fun_mk (st := sfound_or_clash) l17 c17 k17
 have F18_ := fun_mk (st := ssettled) l18 c18 k18
 have F19_ := fun_mk (st := ssmall_game) l19 c19 k19
 have F20_ := fun_mk (st := sfewest_settling) l20 c20 k20
 have F21_ := fun_mk (st := sread) l21 c21 k21
 have F22_ := fun_mk (st := s_law_deed) l22 c22 k22
 have F23_ := fun_mk (st := schecked_code) l23 c23 k23
 have F24_ := fun_mk (st := s_law_kinds_of) l24 c24 k24
 have F25_ := fun_mk (st := slaw) l25 c25 k25
 have b0 := F0_.binds (ps := ["_law_script", "_law_k"]) λ _ _ _ _ _ _ => us2 λ _ _ => rfl
 have b1 := F1_.binds (ps := ["thing"]) λ _ _ _ _ _ _ => us1 λ _ => rfl
 have b2 := F2_.binds (ps := ["thing", "low", "high"]) λ _ _ _ _ _ _ => us3 λ _ _ _ => rfl
 have b3 := F3_.binds (ps := ["places", "colours"]) λ _ _ _ _ _ _ => us2 λ _ _ => rfl
 have b4 := F4_.binds (ps := ["thing"]) λ _ _ _ _ _ _ => us1 λ _ => rfl
 have b5 := F5_.binds (ps := ["game"]) λ _ _ _ _ _ _ => us1 λ _ => rfl
 have b6 := F6_.binds (ps := ["game", "hidden", "guess"]) λ _ _ _ _ _ _ => us3 λ _ _ _ => rfl
 have b7 := F7_.binds (ps := ["game", "thing"]) λ _ _ _ _ _ _ => us2 λ _ _ => rfl
 have b8 := F8_.binds (ps := ["game", "thing"]) λ _ _ _ _ _ _ => us2 λ _ _ => rfl
 have b9 := F9_.binds (ps := ["game", "thing"]) λ _ _ _ _ _ _ => us2 λ _ _ => rfl
 have b10 := F10_.binds (ps := ["game", "things", "is_one"]) λ _ _ _ _ _ _ => us3 λ _ _ _ => rfl
 have b11 := F11_.binds (ps := ["game", "asks"]) λ _ _ _ _ _ _ => us2 λ _ _ => rfl
 have b12 := F12_.binds (ps := ["hidden", "guess"]) λ _ _ _ _ _ _ => us2 λ _ _ => rfl
 have b13 := F13_.binds (ps := ["code", "ask"]) λ _ _ _ _ _ _ => us2 λ _ _ => rfl
 have b14 := F14_.binds (ps := ["codes", "asks"]) λ _ _ _ _ _ _ => us2 λ _ _ => rfl
 have b15 := F15_.binds (ps := ["game"]) λ _ _ _ _ _ _ => us1 λ _ => rfl
 have b16 := F16_.binds (ps := ["game", "asks"]) λ _ _ _ _ _ _ => us2 λ _ _ => rfl
 have b17 := F17_.binds (ps := ["found"]) λ _ _ _ _ _ _ => us1 λ _ => rfl
 have b18 := F18_.binds (ps := ["game", "asks"]) λ _ _ _ _ _ _ => us2 λ _ _ => rfl
 have b19 := F19_.binds (ps := ["game"]) λ _ _ _ _ _ _ => us1 λ _ => rfl
 have b20 := F20_.binds (ps := ["game"]) λ _ _ _ _ _ _ => us1 λ _ => rfl
 have b21 := F21_.binds (ps := ["game", "text"]) λ _ _ _ _ _ _ => us2 λ _ _ => rfl
 have b22 := F22_.binds (ps := ["_law_way"]) λ _ _ _ _ _ _ => us1 λ _ => rfl
 have b23 := F23_.binds (ps := ["game", "code"]) λ _ _ _ _ _ _ => us2 λ _ _ => rfl
 have b24 := F24_.binds (ps := ["_law_way"]) λ _ _ _ _ _ _ => us1 λ _ => rfl
 have b25 := F25_.binds (ps := ["_law_script"]) λ _ _ _ _ _ _ => us1 λ _ => rfl
 refine ⟨PySem.W.fnOf "law" "law" (defArgs slaw) (defBody slaw) (defScope slaw) .none kV25 dc25 pm25 an25 cd25 ct25, λ s v => .of_eq rfl, λ base _ _ BM_ => ?_⟩
 have FIBadAsk_ := okBadAsk_init (P := l.prog) (w := w) (mg := mg) (base := base) (fun_mk (st := sBadAsk_init) lIBadAsk cIBadAsk kIBadAsk) (PySem.W.mg_of X G yGuessError) ⟨b1BadAsk, b2BadAsk, b3BadAsk⟩ icBadAsk p1BadAsk p2BadAsk
 have bIBadAsk_ := (fun_mk (st := sBadAsk_init) lIBadAsk cIBadAsk kIBadAsk).binds (ps := ["self", "at"]) λ _ _ _ _ _ _ => us2 λ _ _ => rfl
 have O0_ : Own l.prog w K mg base 1 "_law_cell" ["_law_script", "_law_k"] (spD K 2 F_law_cell) := ⟨⟨_, _, ok_law_cell F0_ B, PySem.W.mg_of X G a0, k0, b0⟩⟩
 have O1_ : Own l.prog w K mg base 1 "is_pair" ["thing"] (spD K 1 Fis_pair) := ⟨⟨_, _, okis_pair F1_ B, PySem.W.mg_of X G a1, k1, b1⟩⟩
 have O2_ : Own l.prog w K mg base 1 "is_number_within" ["thing", "low", "high"] (spD K 3 Fis_number_within) := ⟨⟨_, _, okis_number_within F2_ B, PySem.W.mg_of X G a2, k2, b2⟩⟩
 have O3_ : Own l.prog w K mg base 1 "how_many_codes" ["places", "colours"] (spD K 2 Fhow_many_codes) := ⟨⟨_, _, okhow_many_codes F3_ B, PySem.W.mg_of X G a3, k3, b3⟩⟩
 have O4_ : Own l.prog w K mg base 2 "is_game" ["thing"] (spD K 1 Fis_game) := ⟨⟨_, _, okis_game F4_ B O1_ O3_ O2_ (PySem.W.mg_of X G gMOST_PLACES) (PySem.W.mg_of X G gMOST_COLOURS) (PySem.W.mg_of X G gMOST_CODES), PySem.W.mg_of X G a4, k4, b4⟩⟩
 have OX5_BadGame_ : OwnX l.prog w K mg base 3 "checked_game" ["game"] (spX K 1 CBadGame Xchecked_game_BadGame) := ⟨⟨_, _, okXchecked_game_BadGame F5_ B O4_ (PySem.W.mg_of X G yBadGame) xBadGame, PySem.W.mg_of X G a5, k5, b5⟩⟩
 have OX6_BadGame_ : OwnX l.prog w K mg base 4 "answer" ["game", "hidden", "guess"] (spX K 3 CBadGame Xanswer_BadGame) := ⟨⟨_, _, okXanswer_BadGame F6_ B OX5_BadGame_, PySem.W.mg_of X G a6, k6, b6⟩⟩
 have O5_ : Own l.prog w K mg base 3 "checked_game" ["game"] (spD K 1 Fchecked_game) := ⟨⟨_, _, okchecked_game F5_ B O4_, PySem.W.mg_of X G a5, k5, b5⟩⟩
 have O7_ : Own l.prog w K mg base 2 "is_code" ["game", "thing"] (spD K 2 Fis_code) := ⟨⟨_, _, okis_code F7_ B O2_, PySem.W.mg_of X G a7, k7, b7⟩⟩
 have O8_ : Own l.prog w K mg base 2 "is_answer" ["game", "thing"] (spD K 2 Fis_answer) := ⟨⟨_, _, okis_answer F8_ B O1_ O2_, PySem.W.mg_of X G a8, k8, b8⟩⟩
 have O9_ : Own l.prog w K mg base 3 "is_ask" ["game", "thing"] (spD K 2 Fis_ask) := ⟨⟨_, _, okis_ask F9_ B O1_ O7_ O8_, PySem.W.mg_of X G a9, k9, b9⟩⟩
 have N9_ : OwnN l.prog w K mg base 3 "is_ask" ["game", "thing"] (spD K 2 Fis_ask) := ⟨⟨_, _, okis_ask F9_ B O1_ O7_ O8_, a9, k9, b9⟩⟩
 have O10_ : Own l.prog w K mg base 4 "checked_list" ["game", "things", "is_one"] (spD K 3 Fchecked_list) := ⟨⟨_, _, okchecked_list F10_ B N9_ (PySem.W.mg_of X G gMOST_ASKS), PySem.W.mg_of X G a10, k10, b10⟩⟩
 have O11_ : Own l.prog w K mg base 5 "checked_asks" ["game", "asks"] (spD K 2 Fchecked_asks) := ⟨⟨_, _, okchecked_asks F11_ B O10_ (PySem.W.mg_of X G a9) a9, PySem.W.mg_of X G a11, k11, b11⟩⟩
 have O12_ : Own l.prog w K mg base 1 "answer_of" ["hidden", "guess"] (spD K 2 Fanswer_of) := ⟨⟨_, _, okanswer_of F12_ B, PySem.W.mg_of X G a12, k12, b12⟩⟩
 have O13_ : Own l.prog w K mg base 2 "fits_ask" ["code", "ask"] (spD K 2 Ffits_ask) := ⟨⟨_, _, okfits_ask F13_ B O12_, PySem.W.mg_of X G a13, k13, b13⟩⟩
 have O14_ : Own l.prog w K mg base 3 "those_that_fit" ["codes", "asks"] (spD K 2 Fthose_that_fit) := ⟨⟨_, _, okthose_that_fit F14_ B O13_, PySem.W.mg_of X G a14, k14, b14⟩⟩
 have OX15_BadGame_ : OwnX l.prog w K mg base 4 "all_codes" ["game"] (spX K 1 CBadGame Xall_codes_BadGame) := ⟨⟨_, _, okXall_codes_BadGame F15_ B OX5_BadGame_, PySem.W.mg_of X G a15, k15, b15⟩⟩
 have OX16_BadGame_ : OwnX l.prog w K mg base 6 "what_fits" ["game", "asks"] (spX K 2 CBadGame Xwhat_fits_BadGame) := ⟨⟨_, _, okXwhat_fits_BadGame F16_ B O5_ O11_ O14_ OX5_BadGame_ OX15_BadGame_, PySem.W.mg_of X G a16, k16, b16⟩⟩
 have O17_ : Own l.prog w K mg base 1 "found_or_clash" ["found"] (spD K 1 Ffound_or_clash) := ⟨⟨_, _, okfound_or_clash F17_ B, PySem.W.mg_of X G a17, k17, b17⟩⟩
 have OX18_BadGame_ : OwnX l.prog w K mg base 7 "settled" ["game", "asks"] (spX K 2 CBadGame Xsettled_BadGame) := ⟨⟨_, _, okXsettled_BadGame F18_ B O17_ OX16_BadGame_, PySem.W.mg_of X G a18, k18, b18⟩⟩
 have O19_ : Own l.prog w K mg base 2 "small_game" ["game"] (spD K 1 Fsmall_game) := ⟨⟨_, _, oksmall_game F19_ B O3_ (PySem.W.mg_of X G gMOST_CODES_SEARCHED), PySem.W.mg_of X G a19, k19, b19⟩⟩
 have OX20_BadGame_ : OwnX l.prog w K mg base 5 "fewest_settling" ["game"] (spX K 1 CBadGame Xfewest_settling_BadGame) := ⟨⟨_, _, okXfewest_settling_BadGame F20_ B O5_ O19_ OX5_BadGame_ OX15_BadGame_, PySem.W.mg_of X G a20, k20, b20⟩⟩
 have OX21_BadGame_ : OwnX l.prog w K mg base 5 "read" ["game", "text"] (spX K 2 CBadGame Xread_BadGame) := ⟨⟨_, _, okXread_BadGame F21_ B OX5_BadGame_, PySem.W.mg_of X G a21, k21, b21⟩⟩
 have OX22_BadGame_ : OwnX l.prog w K mg base 8 "_law_deed" ["_law_way"] (spX K 1 CBadGame X_law_deed_BadGame) := ⟨⟨_, _, okX_law_deed_BadGame F22_ B OX5_BadGame_ OX6_BadGame_ OX16_BadGame_ OX18_BadGame_ OX20_BadGame_ OX21_BadGame_, PySem.W.mg_of X G a22, k22, b22⟩⟩
 have O23_ : Own l.prog w K mg base 3 "checked_code" ["game", "code"] (spD K 2 Fchecked_code) := ⟨⟨_, _, okchecked_code F23_ B O7_, PySem.W.mg_of X G a23, k23, b23⟩⟩
 have OX23_BadCode_ : OwnX l.prog w K mg base 3 "checked_code" ["game", "code"] (spX K 2 CBadCode Xchecked_code_BadCode) := ⟨⟨_, _, okXchecked_code_BadCode F23_ B O7_ (PySem.W.mg_of X G yBadCode) xBadCode, PySem.W.mg_of X G a23, k23, b23⟩⟩
 have OX6_BadCode_ : OwnX l.prog w K mg base 4 "answer" ["game", "hidden", "guess"] (spX K 3 CBadCode Xanswer_BadCode) := ⟨⟨_, _, okXanswer_BadCode F6_ B O5_ O12_ O23_ OX23_BadCode_, PySem.W.mg_of X G a6, k6, b6⟩⟩
 have OX22_BadCode_ : OwnX l.prog w K mg base 8 "_law_deed" ["_law_way"] (spX K 1 CBadCode X_law_deed_BadCode) := ⟨⟨_, _, okX_law_deed_BadCode F22_ B OX6_BadCode_, PySem.W.mg_of X G a22, k22, b22⟩⟩
 have OX10_BadAsk_ : OwnX l.prog w K mg base 4 "checked_list" ["game", "things", "is_one"] (spX K 3 CBadAsk Xchecked_list_BadAsk) := ⟨⟨_, _, okXchecked_list_BadAsk F10_ B (PySem.W.mg_of X G yBadAsk) icBadAsk FIBadAsk_ fnBadAsk bIBadAsk_ kpBadAsk (PySem.W.mg_of X G gMOST_ASKS), PySem.W.mg_of X G a10, k10, b10⟩⟩
 have OX11_BadAsk_ : OwnX l.prog w K mg base 5 "checked_asks" ["game", "asks"] (spX K 2 CBadAsk Xchecked_asks_BadAsk) := ⟨⟨_, _, okXchecked_asks_BadAsk F11_ B OX10_BadAsk_ (PySem.W.mg_of X G a9) a9, PySem.W.mg_of X G a11, k11, b11⟩⟩
 have OX16_BadAsk_ : OwnX l.prog w K mg base 6 "what_fits" ["game", "asks"] (spX K 2 CBadAsk Xwhat_fits_BadAsk) := ⟨⟨_, _, okXwhat_fits_BadAsk F16_ B O5_ OX11_BadAsk_, PySem.W.mg_of X G a16, k16, b16⟩⟩
 have OX18_BadAsk_ : OwnX l.prog w K mg base 7 "settled" ["game", "asks"] (spX K 2 CBadAsk Xsettled_BadAsk) := ⟨⟨_, _, okXsettled_BadAsk F18_ B O17_ OX16_BadAsk_, PySem.W.mg_of X G a18, k18, b18⟩⟩
 have OX22_BadAsk_ : OwnX l.prog w K mg base 8 "_law_deed" ["_law_way"] (spX K 1 CBadAsk X_law_deed_BadAsk) := ⟨⟨_, _, okX_law_deed_BadAsk F22_ B OX16_BadAsk_ OX18_BadAsk_, PySem.W.mg_of X G a22, k22, b22⟩⟩
 have O15_ : Own l.prog w K mg base 4 "all_codes" ["game"] (spD K 1 Fall_codes) := ⟨⟨_, _, okall_codes F15_ B O5_, PySem.W.mg_of X G a15, k15, b15⟩⟩
 have O16_ : Own l.prog w K mg base 6 "what_fits" ["game", "asks"] (spD K 2 Fwhat_fits) := ⟨⟨_, _, okwhat_fits F16_ B O5_ O11_ O14_ O15_, PySem.W.mg_of X G a16, k16, b16⟩⟩
 have OX17_Clash_ : OwnX l.prog w K mg base 1 "found_or_clash" ["found"] (spX K 1 CClash Xfound_or_clash_Clash) := ⟨⟨_, _, okXfound_or_clash_Clash F17_ B (PySem.W.mg_of X G yClash) xClash, PySem.W.mg_of X G a17, k17, b17⟩⟩
 have OX18_Clash_ : OwnX l.prog w K mg base 7 "settled" ["game", "asks"] (spX K 2 CClash Xsettled_Clash) := ⟨⟨_, _, okXsettled_Clash F18_ B O16_ OX17_Clash_, PySem.W.mg_of X G a18, k18, b18⟩⟩
 have OX22_Clash_ : OwnX l.prog w K mg base 8 "_law_deed" ["_law_way"] (spX K 1 CClash X_law_deed_Clash) := ⟨⟨_, _, okX_law_deed_Clash F22_ B OX18_Clash_, PySem.W.mg_of X G a22, k22, b22⟩⟩
 have OX19_TooBig_ : OwnX l.prog w K mg base 2 "small_game" ["game"] (spX K 1 CTooBig Xsmall_game_TooBig) := ⟨⟨_, _, okXsmall_game_TooBig F19_ B O3_ (PySem.W.mg_of X G yTooBig) xTooBig (PySem.W.mg_of X G gMOST_CODES_SEARCHED), PySem.W.mg_of X G a19, k19, b19⟩⟩
 have OX20_TooBig_ : OwnX l.prog w K mg base 5 "fewest_settling" ["game"] (spX K 1 CTooBig Xfewest_settling_TooBig) := ⟨⟨_, _, okXfewest_settling_TooBig F20_ B O5_ OX19_TooBig_, PySem.W.mg_of X G a20, k20, b20⟩⟩
 have OX22_TooBig_ : OwnX l.prog w K mg base 8 "_law_deed" ["_law_way"] (spX K 1 CTooBig X_law_deed_TooBig) := ⟨⟨_, _, okX_law_deed_TooBig F22_ B OX20_TooBig_, PySem.W.mg_of X G a22, k22, b22⟩⟩
 have OX21_BadText_ : OwnX l.prog w K mg base 5 "read" ["game", "text"] (spX K 2 CBadText Xread_BadText) := ⟨⟨_, _, okXread_BadText F21_ B O5_ (PySem.W.mg_of X G yBadText) xBadText (PySem.W.mg_of X G gMOST_ASKS), PySem.W.mg_of X G a21, k21, b21⟩⟩
 have OX22_BadText_ : OwnX l.prog w K mg base 8 "_law_deed" ["_law_way"] (spX K 1 CBadText X_law_deed_BadText) := ⟨⟨_, _, okX_law_deed_BadText F22_ B OX21_BadText_, PySem.W.mg_of X G a22, k22, b22⟩⟩
 have O24_ : Own l.prog w K mg base 9 "_law_kinds_of" ["_law_way"] (spD K 1 F_law_kinds_of) := ⟨⟨_, _, ok_law_kinds_of F24_ B OX22_BadGame_ OX22_BadCode_ OX22_BadAsk_ OX22_Clash_ OX22_TooBig_ OX22_BadText_ (PySem.W.mg_of X G yGuessError) (PySem.W.mg_of X G yBadGame) (PySem.W.mg_of X G yBadCode) (PySem.W.mg_of X G yBadAsk) (PySem.W.mg_of X G yClash) (PySem.W.mg_of X G yTooBig) (PySem.W.mg_of X G yBadText) eBadGame ⟨q0BadGame, q1BadGame, q2BadGame, r1, r2, q3BadGame, q4BadGame⟩ uBadGameBadGame uBadGameBadCode uBadGameBadAsk uBadGameClash uBadGameTooBig uBadGameBadText eBadCode ⟨q0BadCode, q1BadCode, q2BadCode, r1, r2, q3BadCode, q4BadCode⟩ uBadCodeBadGame uBadCodeBadCode uBadCodeBadAsk uBadCodeClash uBadCodeTooBig uBadCodeBadText eBadAsk ⟨q0BadAsk, q1BadAsk, q2BadAsk, r1, r2, q3BadAsk, q4BadAsk⟩ uBadAskBadGame uBadAskBadCode uBadAskBadAsk uBadAskClash uBadAskTooBig uBadAskBadText eClash ⟨q0Clash, q1Clash, q2Clash, r1, r2, q3Clash, q4Clash⟩ uClashBadGame uClashBadCode uClashBadAsk uClashClash uClashTooBig uClashBadText eTooBig ⟨q0TooBig, q1TooBig, q2TooBig, r1, r2, q3TooBig, q4TooBig⟩ uTooBigBadGame uTooBigBadCode uTooBigBadAsk uTooBigClash uTooBigTooBig uTooBigBadText eBadText ⟨q0BadText, q1BadText, q2BadText, r1, r2, q3BadText, q4BadText⟩ uBadTextBadGame uBadTextBadCode uBadTextBadAsk uBadTextClash uBadTextTooBig uBadTextBadText, PySem.W.mg_of X G a24, k24, b24⟩⟩
 exact oklaw F25_ B O0_ O24_
theorem walk {l : PySem.W.OpenLaw} {q : Program} {loose : List Str} {XP : (Str -> Option Value) -> Heap -> Prop} {YP : World -> Heap -> Prop} {d : DefRec} {K : Params -> Fg} (hn : l.most = some 63) (hdf : d.params.defaults = [])
 (hY : ∀ (w : World) (h : Heap), YP w h -> (K w.params).In h /\ Tabs (K w.params) h)
 (F : ∀ (w : World) (mg : Str -> Option Value) (fa : Addr) (h : Heap), (K w.params).In h -> h.Ns mainGlobals mg -> mg d.name = some (.ref fa) ->
  ∃ fd : FuncData, (∀ (s : Shared) (u : Value), BindsTo s fd ⟨[u], []⟩ [("_law_script", u)]) /\ ∀ base : Heap, (K w.params).In base -> base.Ns mainGlobals mg -> BMdB base mg -> FnOk l.prog w (K w.params) mg base CX0 10 fa fd ["_law_script"] (spD (K w.params) 1 Flaw)) :
 PySem.W.WalkO q loose XP YP l.row.toRowW d [] (λ f vs => PySem.call f vs) :=
 DL.walk_ofT (n := 63) (k := 10) (x := "_law_script") (CX := λ _ => CX0) (sp := λ w => spD (K w.params) 1 Flaw) hn (by decide) hdf ⟨rfl, by decide, by decide⟩ hY F (λ _ _ a ns hl tb hS => law_spec (law_true ns hl) hS tb) λ _ _ _ _ _ z => z
end GX
open PySem PySem.W PyProof.Rows
noncomputable def PySem.W.Fast.tw1673087448093371622 : Nat := 0
noncomputable def PySem.W.Fast.tw2164609667929601803 : Nat := 0
noncomputable def PySem.W.Fast.tw6837560013074928845 : Nat := 0
noncomputable def PySem.W.Fast.tw13501769676418841622 : Nat := 0
noncomputable def PySem.W.Fast.tw13375639703254802957 : Nat := 0
noncomputable def PySem.W.Fast.tw14342306425963443836 : Nat := 0
noncomputable def PySem.W.Fast.tw5613845075633417823 : Nat := 0
noncomputable def PySem.W.Fast.tw12336716895919971733 : Nat := 0
noncomputable def PySem.W.Fast.tw3140492294744654663 : Nat := 0
noncomputable def PySem.W.Fast.tw12150300345003952340 : Nat := 0
noncomputable def PySem.W.Fast.tw1515048590226422881 : Nat := 0
noncomputable def PySem.W.Fast.tw1378109709888630820 : Nat := 0
noncomputable def PySem.W.Fast.tw9314742265775774739 : Nat := 0
noncomputable def PySem.W.Fast.tw12016581570000267788 : Nat := 0
set_option maxRecDepth 100000 in
set_option maxHeartbeats 0 in
theorem PySem.Challenge.cw_guesscode_k19_refusals_stand_apart_holds : PySem.Challenge.rw_guesscode_k19_refusals_stand_apart.Holds := by
 w_on; o_law; k_head; (case hw => w_witness2)
 k_fill
 refine GX.walk (l := PySem.Challenge.rw_guesscode_k19_refusals_stand_apart) rfl rfl (λ w h Y => by first | exact ⟨PySem.W.km_in_of Y, DL.tabs_of (PySem.W.km_tabs_of Y) (by kernel_rfl) (by decide) (by kernel_rfl)⟩ | exact ⟨PySem.W.kIn_of Y, DL.tabs_of (ts := []) (λ _ h => nomatch h) (by kernel_rfl) (by decide) (by kernel_rfl)⟩) ?F
 case F =>
  intro w mg fa h KX G hmg
  refine' GX.all_mk KX G hmg ?a0 ?l0 ?c0 ?k0 ?a1 ?l1 ?c1 ?k1 ?a2 ?l2 ?c2 ?k2 ?a3 ?l3 ?c3 ?k3 ?a4 ?l4 ?c4 ?k4 ?a5 ?l5 ?c5 ?k5 ?a6 ?l6 ?c6 ?k6 ?a7 ?l7 ?c7 ?k7 ?a8 ?l8 ?c8 ?k8 ?a9 ?l9 ?c9 ?k9 ?a10 ?l10 ?c10 ?k10 ?a11 ?l11 ?c11 ?k11 ?a12 ?l12 ?c12 ?k12 ?a13 ?l13 ?c13 ?k13 ?a14 ?l14 ?c14 ?k14 ?a15 ?l15 ?c15 ?k15 ?a16 ?l16 ?c16 ?k16 ?a17 ?l17 ?c17 ?k17 ?a18 ?l18 ?c18 ?k18 ?a19 ?l19 ?c19 ?k19 ?a20 ?l20 ?c20 ?k20 ?a21 ?l21 ?c21 ?k21 ?a22 ?l22 ?c22 ?k22 ?a23 ?l23 ?c23 ?k23 ?a24 ?l24 ?c24 ?k24 ?a25 ?l25 ?c25 ?k25 ?gMOST_PLACES ?gMOST_COLOURS ?gMOST_CODES ?gMOST_ASKS ?gMOST_CODES_SEARCHED ?yGuessError ?yBadGame ?yBadCode ?yBadAsk ?yClash ?yTooBig ?yBadText ?xBadGame ?eBadGame ?uBadGameBadGame ?uBadGameBadCode ?uBadGameBadAsk ?uBadGameClash ?uBadGameTooBig ?uBadGameBadText ?q0BadGame ?q1BadGame ?q4BadGame ?q2BadGame ?q3BadGame ?xBadCode ?eBadCode ?uBadCodeBadGame ?uBadCodeBadCode ?uBadCodeBadAsk ?uBadCodeClash ?uBadCodeTooBig ?uBadCodeBadText ?q0BadCode ?q1BadCode ?q4BadCode ?q2BadCode ?q3BadCode ?f0BadAsk ?icBadAsk ?lIBadAsk ?cIBadAsk ?kIBadAsk ?fnBadAsk ?kpBadAsk ?b1BadAsk ?b2BadAsk ?b3BadAsk ?p1BadAsk ?p2BadAsk ?eBadAsk ?uBadAskBadGame ?uBadAskBadCode ?uBadAskBadAsk ?uBadAskClash ?uBadAskTooBig ?uBadAskBadText ?q0BadAsk ?q1BadAsk ?q4BadAsk ?q2BadAsk ?q3BadAsk ?xClash ?eClash ?uClashBadGame ?uClashBadCode ?uClashBadAsk ?uClashClash ?uClashTooBig ?uClashBadText ?q0Clash ?q1Clash ?q4Clash ?q2Clash ?q3Clash ?xTooBig ?eTooBig ?uTooBigBadGame ?uTooBigBadCode ?uTooBigBadAsk ?uTooBigClash ?uTooBigTooBig ?uTooBigBadText ?q0TooBig ?q1TooBig ?q4TooBig ?q2TooBig ?q3TooBig ?xBadText ?eBadText ?uBadTextBadGame ?uBadTextBadCode ?uBadTextBadAsk ?uBadTextClash ?uBadTextTooBig ?uBadTextBadText ?q0BadText ?q1BadText ?q4BadText ?q2BadText ?q3BadText ?r1 ?r2 ?zlen ?zisinstance ?zrange ?zint ?zbool ?ztuple ?zlist ?zall ?zenumerate ?zzip ?zsum ?zsorted ?zmax ?zmin ?zset ?zstr
  (case a0 => k_is); (case l0 => k_is); (case c0 => k_is); (case k0 => k_is)
  (case a1 => k_is); (case l1 => k_is); (case c1 => k_is); (case k1 => k_is)
  (case a2 => k_is); (case l2 => k_is); (case c2 => k_is); (case k2 => k_is)
  (case a3 => k_is); (case l3 => k_is); (case c3 => k_is); (case k3 => k_is)
  (case a4 => k_is); (case l4 => k_is); (case c4 => k_is); (case k4 => k_is)
  (case a5 => k_is); (case l5 => k_is); (case c5 => k_is); (case k5 => k_is)
  (case a6 => k_is); (case l6 => k_is); (case c6 => k_is); (case k6 => k_is)
  (case a7 => k_is); (case l7 => k_is); (case c7 => k_is); (case k7 => k_is)
  (case a8 => k_is); (case l8 => k_is); (case c8 => k_is); (case k8 => k_is)
  (case a9 => k_is); (case l9 => k_is); (case c9 => k_is); (case k9 => k_is)
  (case a10 => k_is); (case l10 => k_is); (case c10 => k_is); (case k10 => k_is)
  (case a11 => k_is); (case l11 => k_is); (case c11 => k_is); (case k11 => k_is)
  (case a12 => k_is); (case l12 => k_is); (case c12 => k_is); (case k12 => k_is)
  (case a13 => k_is); (case l13 => k_is); (case c13 => k_is); (case k13 => k_is)
  (case a14 => k_is); (case l14 => k_is); (case c14 => k_is); (case k14 => k_is)
  (case a15 => k_is); (case l15 => k_is); (case c15 => k_is); (case k15 => k_is)
  (case a16 => k_is); (case l16 => k_is); (case c16 => k_is); (case k16 => k_is)
  (case a17 => k_is); (case l17 => k_is); (case c17 => k_is); (case k17 => k_is)
  (case a18 => k_is); (case l18 => k_is); (case c18 => k_is); (case k18 => k_is)
  (case a19 => k_is); (case l19 => k_is); (case c19 => k_is); (case k19 => k_is)
  (case a20 => k_is); (case l20 => k_is); (case c20 => k_is); (case k20 => k_is)
  (case a21 => k_is); (case l21 => k_is); (case c21 => k_is); (case k21 => k_is)
  (case a22 => k_is); (case l22 => k_is); (case c22 => k_is); (case k22 => k_is)
  (case a23 => k_is); (case l23 => k_is); (case c23 => k_is); (case k23 => k_is)
  (case a24 => k_is); (case l24 => k_is); (case c24 => k_is); (case k24 => k_is)
  (case a25 => k_is); (case l25 => k_is); (case c25 => k_is); (case k25 => k_is)
  (case gMOST_PLACES => k_is)
  (case gMOST_COLOURS => k_is)
  (case gMOST_CODES => k_is)
  (case gMOST_ASKS => k_is)
  (case gMOST_CODES_SEARCHED => k_is)
  (case yGuessError => k_is)
  (case yBadGame => k_is)
  (case yBadCode => k_is)
  (case yBadAsk => k_is)
  (case yClash => k_is)
  (case yTooBig => k_is)
  (case yBadText => k_is)
  (case xBadGame => k_exc)
  (case eBadGame => kts_exm)
  (case uBadGameBadGame => kit_is)
  (case uBadGameBadCode => kit_is)
  (case uBadGameBadAsk => kit_is)
  (case uBadGameClash => kit_is)
  (case uBadGameTooBig => kit_is)
  (case uBadGameBadText => kit_is)
  (case q0BadGame => k_is)
  (case q1BadGame => k_is)
  (case q4BadGame => k_is)
  (case q2BadGame => k_is)
  (case q3BadGame => k_is)
  (case xBadCode => k_exc)
  (case eBadCode => kts_exm)
  (case uBadCodeBadGame => kit_is)
  (case uBadCodeBadCode => kit_is)
  (case uBadCodeBadAsk => kit_is)
  (case uBadCodeClash => kit_is)
  (case uBadCodeTooBig => kit_is)
  (case uBadCodeBadText => kit_is)
  (case q0BadCode => k_is)
  (case q1BadCode => k_is)
  (case q4BadCode => k_is)
  (case q2BadCode => k_is)
  (case q3BadCode => k_is)
  (case f0BadAsk => k_is)
  (case icBadAsk => kernel_rfl)
  (case lIBadAsk => k_is)
  (case cIBadAsk => k_is)
  (case kIBadAsk => k_is)
  (case fnBadAsk => kernel_rfl)
  (case kpBadAsk => k_is)
  (case b1BadAsk => k_is)
  (case b2BadAsk => kernel_rfl)
  (case b3BadAsk => kernel_rfl)
  (case p1BadAsk => k_is)
  (case p2BadAsk => k_is)
  (case eBadAsk => kts_exm)
  (case uBadAskBadGame => kit_is)
  (case uBadAskBadCode => kit_is)
  (case uBadAskBadAsk => kit_is)
  (case uBadAskClash => kit_is)
  (case uBadAskTooBig => kit_is)
  (case uBadAskBadText => kit_is)
  (case q0BadAsk => k_is)
  (case q1BadAsk => k_is)
  (case q4BadAsk => k_is)
  (case q2BadAsk => k_is)
  (case q3BadAsk => k_is)
  (case xClash => k_exc)
  (case eClash => kts_exm)
  (case uClashBadGame => kit_is)
  (case uClashBadCode => kit_is)
  (case uClashBadAsk => kit_is)
  (case uClashClash => kit_is)
  (case uClashTooBig => kit_is)
  (case uClashBadText => kit_is)
  (case q0Clash => k_is)
  (case q1Clash => k_is)
  (case q4Clash => k_is)
  (case q2Clash => k_is)
  (case q3Clash => k_is)
  (case xTooBig => k_exc)
  (case eTooBig => kts_exm)
  (case uTooBigBadGame => kit_is)
  (case uTooBigBadCode => kit_is)
  (case uTooBigBadAsk => kit_is)
  (case uTooBigClash => kit_is)
  (case uTooBigTooBig => kit_is)
  (case uTooBigBadText => kit_is)
  (case q0TooBig => k_is)
  (case q1TooBig => k_is)
  (case q4TooBig => k_is)
  (case q2TooBig => k_is)
  (case q3TooBig => k_is)
  (case xBadText => k_exc)
  (case eBadText => kts_exm)
  (case uBadTextBadGame => kit_is)
  (case uBadTextBadCode => kit_is)
  (case uBadTextBadAsk => kit_is)
  (case uBadTextClash => kit_is)
  (case uBadTextTooBig => kit_is)
  (case uBadTextBadText => kit_is)
  (case q0BadText => k_is)
  (case q1BadText => k_is)
  (case q4BadText => k_is)
  (case q2BadText => k_is)
  (case q3BadText => k_is)
  (case r1 => k_is)
  (case r2 => k_is)
  (case zlen => k_is)
  (case zisinstance => k_is)
  (case zrange => k_is)
  (case zint => k_is)
  (case zbool => k_is)
  (case ztuple => k_is)
  (case zlist => k_is)
  (case zall => k_is)
  (case zenumerate => k_is)
  (case zzip => k_is)
  (case zsum => k_is)
  (case zsorted => k_is)
  (case zmax => k_is)
  (case zmin => k_is)
  (case zset => k_is)
  (case zstr => k_is)
